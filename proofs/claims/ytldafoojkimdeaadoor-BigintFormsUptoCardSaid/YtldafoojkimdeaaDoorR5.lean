/- Walks of the document's answer: Minus, Sign, Sum, Cmp. No condition but those that each theorem names. -/
import Derived.Test.YtldafoojkimdeaaDoorR4
import Derived.Deep.RegionHeld3
namespace Go.Proofs.YtldafoojkimdeaaDoor
open Go.RowKit Lm

set_option maxRecDepth 100000 in
set_option maxHeartbeats 1000000 in
theorem minusR (n : Bool) (ao : Option Addr) (len cap : Nat) (v : Int) (w : World) (h : Big w n ao len cap v) :
    Calls Tryd.prog 23 #[.agg #[.bool n, .slice ao len cap]] w fun e w' => ∃ n' len', e = .returned (.agg #[.bool n', .slice ao len' cap]) ∧ len' ≤ len ∧ Big w' n' ao len' cap (-v) ∧ Below w.heap.size w w' := by
  obtain ⟨L, hR, bL, tL, hn, hv⟩ := h
  have HV : Hid (sg n L = v) := hid hv
  clear hv hn
  go_enter Tryd.func23, Tryd.ntmps23
  go_wp2_with (go_at_call 68; refine (laidR (!n) _ _ _ L _ ((hR.alloc _).alloc _) bL).mono ?_; rintro e w2 ⟨n', len', rfl, hle, hbig, hb2⟩; have k0 := blk_keep2 hb2; obtain ⟨y0, y1, g0, g1⟩ := two_cells k0)
  refine bodyPost_ret (v := .agg #[.bool n', .slice ao len' cap]) (by simp [results, Tryd.results23, go_sem, y0, y1]) rfl ⟨_, _, rfl, hle, ?_, ?_⟩
  · exact (hbig.other k0 (by simp) (by simp) _ _).cast (by rw [sg_not, HV.out])
  · exact ((balloc2 hb2).setCell (by simp) _).setCell (by simp) _

set_option maxRecDepth 100000 in
set_option maxHeartbeats 1000000 in
theorem signR (n : Bool) (ao : Option Addr) (len cap : Nat) (v : Int) (w : World) (h : Big w n ao len cap v) :
    Calls Tryd.prog 29 #[.agg #[.bool n, .slice ao len cap]] w fun e w' => e = .returned (.int .i64 v.sign) ∧ Below w.heap.size w w' := by
  obtain ⟨L, hR, bL, tL, hn, hv⟩ := h
  have HL := hid hR.size
  by_cases h0 : len = 0
  · have e : L = [] := List.eq_nil_of_length_eq_zero (by rw [HL.out, h0])
    have HS : Hid (v.sign = 0) := hid (by rw [← hv, e, sg_nil]; rfl)
    subst h0
    clear hv hn e
    go_enter Tryd.func29, Tryd.ntmps29
    go_wp2
    go_ret
    exact ⟨by rw [HS.out]; rfl, (Below.refl _ _).alloc (Nat.le_refl _) _⟩
  · have hl : L ≠ [] := fun e => h0 (by rw [← HL.out, e]; rfl)
    have hp : 0 < bv L := Nat.lt_of_lt_of_le (Nat.pow_pos (by decide)) (btop_ge tL hl)
    have hz' : ((len : Int) == 0) = false := by simp [h0]
    cases n with
    | true =>
      have HS : Hid (v.sign = -1) := hid (by rw [← hv]; show (-(bv L : Int)).sign = -1; rw [Int.sign_neg, Int.sign_eq_one_of_pos (by omega)])
      clear hv hn hp hl
      go_enter Tryd.func29, Tryd.ntmps29
      go_wp2
      go_ret
      exact ⟨by rw [HS.out]; rfl, (Below.refl _ _).alloc (Nat.le_refl _) _⟩
    | false =>
      have HS : Hid (v.sign = 1) := hid (by rw [← hv]; show ((bv L : Int)).sign = 1; rw [Int.sign_eq_one_of_pos (by omega)])
      clear hv hn hp hl
      go_enter Tryd.func29, Tryd.ntmps29
      go_wp2
      go_ret
      exact ⟨by rw [HS.out]; rfl, (Below.refl _ _).alloc (Nat.le_refl _) _⟩

theorem sg_add (n : Bool) {A B C : List Nat} (h : bv C = bv A + bv B) : sg n C = sg n A + sg n B := by unfold sg; rw [h]; cases n <;> simp <;> omega
theorem sg_sub (n : Bool) {A B C : List Nat} (h : bv C + bv B = bv A) : sg n C = sg n A + sg (!n) B := by unfold sg; rw [← h]; cases n <;> simp <;> omega
theorem new3 {w wz : World} {o1 o2 o3 : Obj} (hz : wz = ((w.alloc o1).alloc o2).alloc o3) : wz.heap[w.heap.size]? = some o1 ∧ wz.heap[w.heap.size + 1]? = some o2 ∧ wz.heap[w.heap.size + 2]? = some o3 ∧ Below w.heap.size w wz ∧ w.heap.size + 3 ≤ wz.heap.size := by
  subst hz
  refine ⟨hpS _ (hpS _ (heap_alloc_new w o1)), ?_, ?_, (((Below.refl _ _).alloc (Nat.le_refl _) _).alloc (by simp) _).alloc (by simp; omega) _, by simp⟩
  · have := heap_alloc_new (w.alloc o1) o2
    exact hpS _ (by simpa using this)
  · have := heap_alloc_new ((w.alloc o1).alloc o2) o3
    simpa using this

set_option maxRecDepth 100000 in
set_option maxHeartbeats 2000000 in
theorem sumR (nx : Bool) (xo : Option Addr) (xl xc : Nat) (vx : Int) (ny : Bool) (yo : Option Addr) (yl yc : Nat) (vy : Int) (w : World) (hX : Big w nx xo xl xc vx) (hY : Big w ny yo yl yc vy) (sx : xl ≤ 1073741824) (sy : yl ≤ 1073741824) :
    Calls Tryd.prog 39 #[.agg #[.bool nx, .slice xo xl xc], .agg #[.bool ny, .slice yo yl yc]] w fun e w' => ∃ n' ao len cap, e = .returned (.agg #[.bool n', .slice ao len cap]) ∧ len ≤ max xl yl + 1 ∧ Big w' n' ao len cap (vx + vy) ∧ Below w.heap.size w w' := by
  obtain ⟨A, rA, bA, tA, _, ex⟩ := hX
  obtain ⟨B, rB, bB, tB, _, ey⟩ := hY
  have HX := hid ex
  have HY := hid ey
  clear ex ey
  by_cases hs : nx = ny
  · subst hs
    go_enter Tryd.func39, Tryd.ntmps39
    go_wp2_with fail
    obtain ⟨wz, hz⟩ : ∃ wz, wz = ((w.alloc (.cells #[.bool nx, .slice xo xl xc] 28)).alloc (.cells #[.bool nx, .slice yo yl yc] 28)).alloc (.cells #[.bool false, .slice none 0 0] 28) := ⟨_, rfl⟩
    obtain ⟨hpx, hpy, hpr, hzb, hzl⟩ := new3 hz
    rw [← hz]
    clear hz
    have HPr := hid hpr
    obtain ⟨x0, x1, _, _⟩ := two_cells hpx
    obtain ⟨y0, y1, _, _⟩ := two_cells hpy
    have zA := rA.keep hzb
    have zB := rB.keep hzb
    clear hpx hpy hpr rA rB
    ·
      have hn1 : (nx == nx) = true := by simp
      go_wp2_with fail
      go_region_held3 (fun w' => w'.cell? ⟨w.heap.size, 0, none⟩ = some (.bool nx) ∧ w'.cell? ⟨w.heap.size, 1, none⟩ = some (.slice xo xl xc) ∧ w'.cell? ⟨w.heap.size + 1, 1, none⟩ = some (.slice yo yl yc)) (refine ⟨?_, ?_, ?_⟩ <;> first | assumption | (simp [go_sem]; assumption))
        (first
          | (go_at_call 80; refine (addR _ _ _ A _ _ _ B _ ?_ ?_ bA bB sx sy).mono ?_; (first | exact zA | exact zA.drew); (first | exact zB | exact zB.drew); rintro e w2 ⟨ao2, len2, cap2, C, rfl, hl2, hR2, bC, tC, HVC, hb2⟩; have q02 := cell_keep x0 (undrew hb2); have q12 := cell_keep x1 (undrew hb2); have q22 := cell_keep y1 (undrew hb2); have hP2 := hid (heap_keep HPr.out (undrew hb2)))
          | (go_at_call 68; refine (laidR nx _ _ _ C _ hR2 bC).mono ?_; rintro e w3 ⟨n', len', rfl, hle, hbig, hb3⟩; have q03 := cell_keep q02 hb3; have q13 := cell_keep q12 hb3; have q23 := cell_keep q22 hb3; have k0 := heap_keep hP2.out hb3; obtain ⟨c0, c1, f0, f1⟩ := two_cells k0))
      have hs2 := (undrew hb2).size
      have hs3 := hb3.size
      go_wp2
      refine bodyPost_ret (v := .agg #[.bool n', .slice ao2 len' cap2]) (by simp [results, Tryd.results39, go_sem, c0, c1]) rfl ⟨_, _, _, _, rfl, ?_, ?_, ?_⟩
      · omega
      · exact (hbig.other k0 (by simp) (by simp) _ _).cast (by rw [sg_add nx HVC.out, HX.out, HY.out])
      · exact (((hzb.trans (Below.mono (undrew hb2) (by simp; omega))).trans (Below.mono hb3 (by omega))).setCell (by simp; omega) _).setCell (by simp; omega) _
  · have hny : ny = !nx := by cases nx <;> cases ny <;> simp_all
    subst hny
    go_enter Tryd.func39, Tryd.ntmps39
    go_wp2_with fail
    obtain ⟨wz, hz⟩ : ∃ wz, wz = ((w.alloc (.cells #[.bool nx, .slice xo xl xc] 28)).alloc (.cells #[.bool !nx, .slice yo yl yc] 28)).alloc (.cells #[.bool false, .slice none 0 0] 28) := ⟨_, rfl⟩
    obtain ⟨hpx, hpy, hpr, hzb, hzl⟩ := new3 hz
    rw [← hz]
    clear hz
    have HPr := hid hpr
    obtain ⟨x0, x1, _, _⟩ := two_cells hpx
    obtain ⟨y0, y1, _, _⟩ := two_cells hpy
    have zA := rA.keep hzb
    have zB := rB.keep hzb
    clear hpx hpy hpr rA rB
    have hn1 : (nx == !nx) = false := by cases nx <;> rfl
    by_cases hlt : bv A < bv B
    · have HLE : Hid (bv A ≤ bv B) := hid (by omega)
      have hd : decide (bv A < bv B) = true := decide_eq_true hlt
      have HD := hid hd
      clear hd hlt
      go_wp2_with (go_at_call 81; refine (lessR _ _ _ A _ _ _ B _ zA zB bA bB tA tB).mono ?_; rintro e w1 ⟨rfl, hb1⟩; rw [HD.out])
      have zA1 := zA.keep hb1
      have zB1 := zB.keep hb1
      have x01 := cell_keep x0 hb1
      have x11 := cell_keep x1 hb1
      have y01 := cell_keep y0 hb1
      have y11 := cell_keep y1 hb1
      have HPr1 := hid (heap_keep HPr.out hb1)
      have hs1 := hb1.size
      go_region_held3 (fun w' => w'.cell? ⟨w.heap.size + 1, 0, none⟩ = some (.bool (!nx)) ∧ w'.cell? ⟨w.heap.size, 1, none⟩ = some (.slice xo xl xc) ∧ w'.cell? ⟨w.heap.size + 1, 1, none⟩ = some (.slice yo yl yc)) (refine ⟨?_, ?_, ?_⟩ <;> first | assumption | (simp [go_sem]; assumption))
        (first
          | (go_at_call 82; refine (subR _ _ _ B _ _ _ A _ ?_ ?_ bB bA tA HLE sy).mono ?_; (first | exact zB1 | exact zB1.drew); (first | exact zA1 | exact zA1.drew); rintro e w2 ⟨ao2, len2, cap2, C, rfl, hl2, hR2, bC, tC, HVC, hb2⟩; have q02 := cell_keep y01 (undrew hb2); have q12 := cell_keep x11 (undrew hb2); have q22 := cell_keep y11 (undrew hb2); have hP2 := hid (heap_keep HPr1.out (undrew hb2)))
          | (go_at_call 68; refine (laidR (!nx) _ _ _ C _ hR2 bC).mono ?_; rintro e w3 ⟨n', len', rfl, hle, hbig, hb3⟩; have q03 := cell_keep q02 hb3; have q13 := cell_keep q12 hb3; have q23 := cell_keep q22 hb3; have k0 := heap_keep hP2.out hb3; obtain ⟨c0, c1, f0, f1⟩ := two_cells k0))
      have hs2 := (undrew hb2).size
      have hs3 := hb3.size
      go_wp2
      refine bodyPost_ret (v := .agg #[.bool n', .slice ao2 len' cap2]) (by simp [results, Tryd.results39, go_sem, c0, c1]) rfl ⟨_, _, _, _, rfl, ?_, ?_, ?_⟩
      · omega
      · exact (hbig.other k0 (by simp) (by simp) _ _).cast (by rw [sg_sub (!nx) HVC.out, Bool.not_not, HX.out, HY.out, Int.add_comm])
      · exact ((((hzb.trans (Below.mono hb1 (by omega))).trans (Below.mono (undrew hb2) (by simp; omega))).trans (Below.mono hb3 (by omega))).setCell (by simp; omega) _).setCell (by simp; omega) _
    · have HLE : Hid (bv B ≤ bv A) := hid (by omega)
      have hd : decide (bv A < bv B) = false := decide_eq_false hlt
      have HD := hid hd
      clear hd hlt
      go_wp2_with (go_at_call 81; refine (lessR _ _ _ A _ _ _ B _ zA zB bA bB tA tB).mono ?_; rintro e w1 ⟨rfl, hb1⟩; rw [HD.out])
      have zA1 := zA.keep hb1
      have zB1 := zB.keep hb1
      have x01 := cell_keep x0 hb1
      have x11 := cell_keep x1 hb1
      have y01 := cell_keep y0 hb1
      have y11 := cell_keep y1 hb1
      have HPr1 := hid (heap_keep HPr.out hb1)
      have hs1 := hb1.size
      go_region_held3 (fun w' => w'.cell? ⟨w.heap.size, 0, none⟩ = some (.bool nx) ∧ w'.cell? ⟨w.heap.size, 1, none⟩ = some (.slice xo xl xc) ∧ w'.cell? ⟨w.heap.size + 1, 1, none⟩ = some (.slice yo yl yc)) (refine ⟨?_, ?_, ?_⟩ <;> first | assumption | (simp [go_sem]; assumption))
        (first
          | (go_at_call 82; refine (subR _ _ _ A _ _ _ B _ ?_ ?_ bA bB tB HLE sx).mono ?_; (first | exact zA1 | exact zA1.drew); (first | exact zB1 | exact zB1.drew); rintro e w2 ⟨ao2, len2, cap2, C, rfl, hl2, hR2, bC, tC, HVC, hb2⟩; have q02 := cell_keep x01 (undrew hb2); have q12 := cell_keep x11 (undrew hb2); have q22 := cell_keep y11 (undrew hb2); have hP2 := hid (heap_keep HPr1.out (undrew hb2)))
          | (go_at_call 68; refine (laidR nx _ _ _ C _ hR2 bC).mono ?_; rintro e w3 ⟨n', len', rfl, hle, hbig, hb3⟩; have q03 := cell_keep q02 hb3; have q13 := cell_keep q12 hb3; have q23 := cell_keep q22 hb3; have k0 := heap_keep hP2.out hb3; obtain ⟨c0, c1, f0, f1⟩ := two_cells k0))
      have hs2 := (undrew hb2).size
      have hs3 := hb3.size
      go_wp2
      refine bodyPost_ret (v := .agg #[.bool n', .slice ao2 len' cap2]) (by simp [results, Tryd.results39, go_sem, c0, c1]) rfl ⟨_, _, _, _, rfl, ?_, ?_, ?_⟩
      · omega
      · exact (hbig.other k0 (by simp) (by simp) _ _).cast (by rw [sg_sub nx HVC.out, HX.out, HY.out])
      · exact ((((hzb.trans (Below.mono hb1 (by omega))).trans (Below.mono (undrew hb2) (by simp; omega))).trans (Below.mono hb3 (by omega))).setCell (by simp; omega) _).setCell (by simp; omega) _

end Go.Proofs.YtldafoojkimdeaaDoor
