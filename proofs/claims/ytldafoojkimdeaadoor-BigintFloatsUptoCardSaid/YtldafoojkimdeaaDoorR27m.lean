/- Walk of the document's answer: Shift of nought downwards, OfFloat. No condition but those that each theorem names. ToFloat and OfFloat of the program and of the document side by side, in the form that the law asks. No condition but those that each theorem names. -/
import Derived.Test.YtldafoojkimdeaaDoorR23m
import Derived.Test.YtldafoojkimdeaaDoorW67m
import Derived.Test.YtldafoojkimdeaaDoorR25m
import Derived.Test.YtldafoojkimdeaaDoorRefdm
namespace Go.Proofs.YtldafoojkimdeaaDoor
open Go.RowKit Lm

set_option maxRecDepth 100000 in
set_option maxHeartbeats 4000000 in
theorem shiftR_nil (nx : Bool) (xo : Option Addr) (xc : Nat) (k : Nat) (w : World) (hX : Big w nx xo 0 xc 0) (hk : 0 < k) (hk2 : k ≤ 1000000) :
    Calls Tryd.prog 56 #[.agg #[.bool nx, .slice xo 0 xc], .int .i64 (-(k : Int))] w fun e w' => ∃ n' o l c, e = .returned (.agg #[.bool n', .slice o l c]) ∧ Big w' n' o l c 0 ∧ Below w.heap.size w w' := by
  have hz := new2 (w := w) (o1 := .cells #[.bool nx, .slice xo 0 xc] 28) (o2 := .cells #[.bool false, .slice none 0 0] 28) rfl
  obtain ⟨hpx, hpr, hzb, -⟩ := hz
  obtain ⟨x0, x1, _, _⟩ := two_cells hpx
  obtain ⟨c0, c1, f0, f1⟩ := two_cells hpr
  clear hpx hpr hzb
  go_enter Tryd.func56, Tryd.ntmps56
  go_wp2
  refine bodyPost_ret (v := .agg #[.bool nx, .slice xo 0 xc]) (by simp [results, Tryd.results56, go_sem, c0, c1]) rfl ⟨_, _, _, _, rfl, ?_, ?_⟩
  · exact (hX.alloc _).alloc _
  · exact ((Below.refl _ _).alloc (Nat.le_refl _) _).alloc (by simp) _

set_option maxRecDepth 100000 in
set_option maxHeartbeats 4000000 in
theorem ofFloatR_inf (F q : Nat) (w : World) (hq : (F : Int) / 4503599627370496 = (q : Int)) (hq4 : q < 4096) (hex : (q : Int) % 2048 = 2047) :
    Calls Tryd.prog 64 #[.int .u64 (F : Int)] w fun e w' => e = .returned (.tuple #[.agg #[.bool false, .slice none 0 0], .bool false]) ∧ Below w.heap.size w w' := by
  obtain ⟨c0, c1, f0, f1⟩ := two_cells (heap_alloc_new w (.cells #[.bool false, .slice none 0 0] 28))
  go_enter Tryd.func64, Tryd.ntmps64
  go_wp2
  refine bodyPost_ret (v := .tuple #[.agg #[.bool false, .slice none 0 0], .bool false]) (by simp [results, Tryd.results64, go_sem, c0, c1]) rfl ⟨rfl, ?_⟩
  exact (Below.refl w.heap.size w).alloc (Nat.le_refl _) _

set_option maxRecDepth 100000 in
set_option maxHeartbeats 8000000 in
theorem ofFloatR_pos (F q ex m0 V : Nat) (Z : Int) (w : World) (hq : (F : Int) / 4503599627370496 = (q : Int)) (hq4 : q < 4096) (hex : (q : Int) % 2048 = (ex : Int)) (hm : (F : Int) % 4503599627370496 = (m0 : Int)) (hx0 : 0 < ex) (hx : ex < 2047) (hm0 : m0 < 4503599627370496)
    (hV : Hid (V = if ex < 1075 then (m0 + 4503599627370496) / 2 ^ (1075 - ex) else (m0 + 4503599627370496) * 2 ^ (ex - 1075))) (hZ : Hid (Z = if (9223372036854775808 : Int) ≤ (F : Int) then -(V : Int) else (V : Int))) :
    Calls Tryd.prog 64 #[.int .u64 (F : Int)] w fun e w' => ∃ n' o l c, e = .returned (.tuple #[.agg #[.bool n', .slice o l c], .bool true]) ∧ Big w' n' o l c Z ∧ Below w.heap.size w w' := by
  obtain ⟨i0, hi, hz0, hz1, hz2⟩ := info_parts Tryd.infoI
  go_enter Tryd.func64, Tryd.ntmps64
  go_wp2_with fail
  obtain ⟨wz, hz⟩ : ∃ wz, wz = w.alloc (.cells #[.bool false, .slice none 0 0] 28) := ⟨_, rfl⟩
  have hzb : Below w.heap.size w wz := by rw [hz]; exact (Below.refl _ _).alloc (Nat.le_refl _) _
  have hzl : w.heap.size + 1 ≤ wz.heap.size := by rw [hz]; simp
  have hblr : Hid (wz.heap[w.heap.size]? = some (.cells #[.bool false, .slice none 0 0] 28 (0, 0))) := hid (by rw [hz]; exact heap_alloc_new _ _)
  rw [← hz]
  clear hz
  simp only [hex, hm, show ((ex : Int) == 2047) = false by simp; omega]
  rw [show (m0 : Int) + 4503599627370496 = ((m0 + 4503599627370496 : Nat) : Int) by omega]
  obtain ⟨M, hM⟩ : ∃ M, M = m0 + 4503599627370496 := ⟨_, rfl⟩
  have hM1 : 4503599627370496 ≤ M := by omega
  have hM2 : M < 9007199254740992 := by omega
  rw [← hM]
  rw [← hM] at hV
  clear hM hm0
  go_loopw [5, 6, 7] (fun m o i wr => ∃ (k mm : Nat) (O : List Nat), i = .int .i64 (k : Int) ∧ m = .int .u64 (mm : Int) ∧ k ≤ 53 ∧ mm ≤ 9007199254740992 ∧ B1 O ∧ Gri wz.heap.size wr o O ∧ Hid (O.length = k) ∧ Hid (bv O + 2 ^ O.length * mm = M) ∧ Below wz.heap.size wz wr) (fun _ _ i _ => 53 - (intOf i).toNat)
  case atStart => exact ⟨0, M, [], rfl, rfl, by omega, by omega, B1.nil, Gri.nil _ _, hid rfl, hid (by simp [bv]), Below.refl _ _⟩
  case round =>
    obtain ⟨k, mm, O, rfl, rfl, hk, hmm, bO, hG, hl, hv, hb⟩ := hrel
    have hsz := hb.size
    by_cases hgo : k < 53
    · go_wp2_with (at_builtin; refine wpList_append_own _ rfl _ _ 26 rfl wz.heap.size 3 i0 (.int .i64 0) 1 8 Tryd.underlying26 hi hz0 hz1 hz2 rfl (by decide) _ _ _ rfl (hG.alloc _) ⟨_, 0, none⟩ 1 1 [.int .i64 ((mm : Int) % 2)] rfl rfl ?c1 ?c2 ?c3 ?c4 ?c5 ?_)
      case c1 =>
        intro j u hj
        match j, hj with
        | 0, hj => simp at hj; subst hj; simp [Addr.add]
      case c2 => intro u hu; simp at hu; subst hu; rfl
      case c3 => have := hl.out; unfold maxLen; omega
      case c4 => have := hl.out; omega
      case c5 => first | omega | (simp; omega)
      intro v' w5 hown' hgrow _
      have hb5 := app_below hb hsz hgrow hG.le
      clear hgrow
      go_wp2
      go_roundw
      case rel =>
        refine ⟨k + 1, mm / 2, O ++ [mm % 2], by go_num, by go_num, by omega, by omega, bO.snoc (by omega), Gri.snoc _ hown' (by omega), hid ?_, hid ?_, hb5⟩
        · rw [List.length_append, List.length_singleton, hl.out]
        · rw [bv_snoc, List.length_append, List.length_singleton, Nat.pow_succ]; exact limb_bit hv.out
      case measure => simp [intOf]; omega
    · have e53 : k = 53 := by omega
      subst e53
      have hvM : Hid (bv O = M) := hid (by
        have h1 := hv.out
        rw [hl.out] at h1
        have h3 : mm = 0 := by
          rcases Nat.eq_zero_or_pos mm with e | e
          · exact e
          · have := Nat.mul_le_mul_left (2 ^ 53) e; omega
        rw [h3] at h1; simpa using h1)
      obtain ⟨ao, cap, rfl, hR⟩ := hG.rd (by have := hl.out; omega)
      rw [hl.out] at hR
      rw [hl.out]
      have hlp : ∀ w2 n' len' , Big w2 n' ao len' cap (sg false O) → 0 < len' ∧ len' ≤ 53 := fun w2 n' len' h => by
        have h1 := h.len
        rw [sg_abs, hvM.out] at h1
        have h2 := (bl_low (show M ≠ 0 by omega)).1
        have h3 := (bl_le M 53).2 (by omega)
        omega
      have HLP := hid hlp
      clear hlp
      have hres : Hid (wz.heap[w.heap.size]? = some (.cells #[.bool false, .slice none 0 0] 28 (0, 0))) := hblr
      by_cases h75 : 1075 ≤ ex
      · obtain ⟨n, hn⟩ : ∃ n, ex = 1075 + n := ⟨ex - 1075, by omega⟩
        have hn2 : (ex : Int) - 1075 = (n : Int) := by omega
        have hVe : Hid (sg false O * ((2 ^ n : Nat) : Int) = (V : Int)) := hid (by
          have := hV.out
          rw [if_neg (by omega), show ex - 1075 = n by omega] at this
          rw [this]; unfold sg; rw [hvM.out]; simp)
        have hn3 : n ≤ 1075 := by omega
        have hn4 : ex < 1075 → 0 < n := fun h => by omega
        have HN4 := hid hn4
        have hxn : ¬ ((ex : Int) == 0) = true := by simp; omega
        clear hn hn4
        go_wp2_with (first
          | (go_at_call 68; (with_reducible refine (laidR false _ 53 _ O _ hR bO).mono ?_); rintro e w2 ⟨n', len', rfl, hle, hbig, hb2⟩; obtain ⟨hp1, hp2⟩ := HLP.out _ _ _ hbig)
          | (go_at_call 56; (with_reducible refine (shiftR_up _ _ _ _ _ n _ hbig hp1 (by omega) (by omega)).mono ?_); rintro e w3 ⟨n3, o3, l3, c3, rfl, ⟨L, rL, bL, tL, hnil, ev⟩, hb3⟩; have rLx := hid (rL.alloc (.cells #[.bool n3, .slice o3 l3 c3] 28)); have EV := hid ev; clear ev hnil tL rL; obtain ⟨y0, y1, _, _⟩ := two_cells (heap_alloc_new w3 (.cells #[.bool n3, .slice o3 l3 c3] 28)))
          | (go_at_call 68; (with_reducible refine (laidR _ _ _ _ L _ rLx.out bL).mono ?_); rintro e w4 ⟨n4, l4, rfl, hle4, hbig4, hb4⟩; have hb24 := (hb2.trans (hb3.mono hb2.size)); have hb25 := (hb24.alloc hb24.size (.cells #[.bool n3, .slice o3 l3 c3] 28)); have hb26 := hb25.trans (hb4.mono hb25.size); have hb27 := hb.trans (hb26.mono hsz); have r6 := hid ((hb27.block _ (by omega)).trans hblr.out); obtain ⟨c0, c1, g0, g1⟩ := two_cells r6.out))
        all_goals
          refine bodyPost_ret (v := .tuple #[.agg #[.bool n4, .slice o3 l4 c3], .bool true]) (by simp [results, Tryd.results64, go_sem, c0, c1]) rfl ⟨_, _, _, _, rfl, ?_, ?_⟩
          · refine (hbig4.other r6.out (by simp) (by simp) _ _).cast ?_
            have e1 : bv L = V := by have h1 := EV.out; rw [hVe.out] at h1; have h2 := sg_abs n3 L; rw [h1] at h2; simpa using h2.symm
            rw [hZ.out]
            by_cases hneg : (9223372036854775808 : Int) ≤ (F : Int) <;> simp [sg, hneg, e1]
          · exact ((hzb.trans (hb27.mono (by omega))).setCell (by simp) _).setCell (by simp) _
      · obtain ⟨n, hn⟩ : ∃ n, ex + n = 1075 := ⟨1075 - ex, by omega⟩
        have hn2 : (ex : Int) - 1075 = -(n : Int) := by omega
        have hVe : Hid (sg false O / ((2 ^ n : Nat) : Int) = (V : Int)) := hid (by
          have := hV.out
          rw [if_pos (by omega), show 1075 - ex = n by omega] at this
          rw [this]; unfold sg; rw [hvM.out]; simp)
        have hn3 : n ≤ 1075 := by omega
        have hn4 : ex < 1075 → 0 < n := fun h => by omega
        have HN4 := hid hn4
        have hxn : ¬ ((ex : Int) == 0) = true := by simp; omega
        clear hn hn4
        go_wp2_with (first
          | (go_at_call 68; (with_reducible refine (laidR false _ 53 _ O _ hR bO).mono ?_); rintro e w2 ⟨n', len', rfl, hle, hbig, hb2⟩; obtain ⟨hp1, hp2⟩ := HLP.out _ _ _ hbig)
          | (go_at_call 56; (with_reducible refine (shiftR_down _ _ _ _ _ n _ hbig hp1 (by omega) (HN4.out (by omega)) (by omega)).mono ?_); rintro e w3 ⟨n3, o3, l3, c3, rfl, ⟨L, rL, bL, tL, hnil, ev⟩, hb3⟩; have rLx := hid (rL.alloc (.cells #[.bool n3, .slice o3 l3 c3] 28)); have EV := hid ev; clear ev hnil tL rL; obtain ⟨y0, y1, _, _⟩ := two_cells (heap_alloc_new w3 (.cells #[.bool n3, .slice o3 l3 c3] 28)))
          | (go_at_call 68; (with_reducible refine (laidR _ _ _ _ L _ rLx.out bL).mono ?_); rintro e w4 ⟨n4, l4, rfl, hle4, hbig4, hb4⟩; have hb24 := (hb2.trans (hb3.mono hb2.size)); have hb25 := (hb24.alloc hb24.size (.cells #[.bool n3, .slice o3 l3 c3] 28)); have hb26 := hb25.trans (hb4.mono hb25.size); have hb27 := hb.trans (hb26.mono hsz); have r6 := hid ((hb27.block _ (by omega)).trans hblr.out); obtain ⟨c0, c1, g0, g1⟩ := two_cells r6.out))
        all_goals
          refine bodyPost_ret (v := .tuple #[.agg #[.bool n4, .slice o3 l4 c3], .bool true]) (by simp [results, Tryd.results64, go_sem, c0, c1]) rfl ⟨_, _, _, _, rfl, ?_, ?_⟩
          · refine (hbig4.other r6.out (by simp) (by simp) _ _).cast ?_
            have e1 : bv L = V := by have h1 := EV.out; rw [hVe.out] at h1; have h2 := sg_abs n3 L; rw [h1] at h2; simpa using h2.symm
            rw [hZ.out]
            by_cases hneg : (9223372036854775808 : Int) ≤ (F : Int) <;> simp [sg, hneg, e1]
          · exact ((hzb.trans (hb27.mono (by omega))).setCell (by simp) _).setCell (by simp) _

theorem shiftR_dn (nx : Bool) (xo : Option Addr) (xl xc : Nat) (v : Int) (k : Nat) (w : World) (hX : Big w nx xo xl xc v) (sx : xl ≤ 1000000) (hk : 0 < k) (hk2 : k ≤ 1000000) :
    Calls Tryd.prog 56 #[.agg #[.bool nx, .slice xo xl xc], .int .i64 (-(k : Int))] w fun e w' => ∃ n' o l c, e = .returned (.agg #[.bool n', .slice o l c]) ∧ Big w' n' o l c (v / ((2 ^ k : Nat) : Int)) ∧ Below w.heap.size w w' := by
  by_cases h0 : xl = 0
  · subst h0
    have hv : v = 0 := by
      obtain ⟨L, rL, _, _, _, ev⟩ := hX
      rw [← ev, List.eq_nil_of_length_eq_zero rL.size, sg_nil]
    subst hv
    rw [Int.zero_ediv]
    exact shiftR_nil nx xo xc k w hX hk hk2
  · exact shiftR_down nx xo xl xc v k w hX (by omega) sx hk hk2

set_option maxRecDepth 100000 in
set_option maxHeartbeats 8000000 in
theorem ofFloatR_zero (F q m0 : Nat) (w : World) (hq : (F : Int) / 4503599627370496 = (q : Int)) (hq4 : q < 4096) (hex : (q : Int) % 2048 = 0) (hm : (F : Int) % 4503599627370496 = (m0 : Int)) (hm0 : m0 < 4503599627370496) :
    Calls Tryd.prog 64 #[.int .u64 (F : Int)] w fun e w' => ∃ n' o l c, e = .returned (.tuple #[.agg #[.bool n', .slice o l c], .bool true]) ∧ Big w' n' o l c 0 ∧ Below w.heap.size w w' := by
  obtain ⟨i0, hi, hz0, hz1, hz2⟩ := info_parts Tryd.infoI
  go_enter Tryd.func64, Tryd.ntmps64
  go_wp2_with fail
  obtain ⟨wz, hz⟩ : ∃ wz, wz = w.alloc (.cells #[.bool false, .slice none 0 0] 28) := ⟨_, rfl⟩
  have hzb : Below w.heap.size w wz := by rw [hz]; exact (Below.refl _ _).alloc (Nat.le_refl _) _
  have hzl : w.heap.size + 1 ≤ wz.heap.size := by rw [hz]; simp
  have hblr : Hid (wz.heap[w.heap.size]? = some (.cells #[.bool false, .slice none 0 0] 28 (0, 0))) := hid (by rw [hz]; exact heap_alloc_new _ _)
  rw [← hz]
  clear hz
  simp only [hex, hm, show ((0 : Int) == 2047) = false from rfl]
  go_loopw [5, 6, 7] (fun m o i wr => ∃ (k mm : Nat) (O : List Nat), i = .int .i64 (k : Int) ∧ m = .int .u64 (mm : Int) ∧ k ≤ 53 ∧ mm ≤ 9007199254740992 ∧ B1 O ∧ Gri wz.heap.size wr o O ∧ Hid (O.length = k) ∧ Below wz.heap.size wz wr) (fun _ _ i _ => 53 - (intOf i).toNat)
  case atStart => exact ⟨0, m0, [], rfl, rfl, by omega, by omega, B1.nil, Gri.nil _ _, hid rfl, Below.refl _ _⟩
  case round =>
    obtain ⟨k, mm, O, rfl, rfl, hk, hmm, bO, hG, hl, hb⟩ := hrel
    have hsz := hb.size
    by_cases hgo : k < 53
    · go_wp2_with (at_builtin; refine wpList_append_own _ rfl _ _ 26 rfl wz.heap.size 3 i0 (.int .i64 0) 1 8 Tryd.underlying26 hi hz0 hz1 hz2 rfl (by decide) _ _ _ rfl (hG.alloc _) ⟨_, 0, none⟩ 1 1 [.int .i64 ((mm : Int) % 2)] rfl rfl ?c1 ?c2 ?c3 ?c4 ?c5 ?_)
      case c1 =>
        intro j u hj
        match j, hj with
        | 0, hj => simp at hj; subst hj; simp [Addr.add]
      case c2 => intro u hu; simp at hu; subst hu; rfl
      case c3 => have := hl.out; unfold maxLen; omega
      case c4 => have := hl.out; omega
      case c5 => first | omega | (simp; omega)
      intro v' w5 hown' hgrow _
      have hb5 := app_below hb hsz hgrow hG.le
      clear hgrow
      go_wp2
      go_roundw
      case rel =>
        refine ⟨k + 1, mm / 2, O ++ [mm % 2], by go_num, by go_num, by omega, by omega, bO.snoc (by omega), Gri.snoc _ hown' (by omega), hid ?_, hb5⟩
        rw [List.length_append, List.length_singleton, hl.out]
      case measure => simp [intOf]; omega
    · have e53 : k = 53 := by omega
      subst e53
      obtain ⟨ao, cap, rfl, hR⟩ := hG.rd (by have := hl.out; omega)
      rw [hl.out] at hR
      rw [hl.out]
      go_wp2_with (first
        | (go_at_call 68; (with_reducible refine (laidR false _ 53 _ O _ hR bO).mono ?_); rintro e w2 ⟨n', len', rfl, hle, hbig, hb2⟩)
        | (go_at_call 56; rw [show (-1075 : Int) = -((1075 : Nat) : Int) from rfl]; (with_reducible refine (shiftR_dn _ _ _ _ _ 1075 _ hbig (by omega) (by omega) (by omega)).mono ?_); rintro e w3 ⟨n3, o3, l3, c3, rfl, -, hb3⟩; have y3 := heap_alloc_new w3 (.cells #[.bool n3, .slice o3 l3 c3] 28); obtain ⟨y0, y1, y2, y4⟩ := two_cells y3)
        | (go_at_call 68; (with_reducible refine (laidR _ _ _ _ [] _ (Ri.nil _) B1.nil).mono ?_); rintro e w4 ⟨n4, l4, rfl, hle4, hbig4, hb4⟩; have hb24 := (hb2.trans (hb3.mono hb2.size)); have hb25 := hb24.alloc hb24.size (.cells #[.bool false, .slice none 0 0] 28); have hb26 := hb25.trans (hb4.mono hb25.size); have hb27 := hb.trans (hb26.mono hsz); have r6 := hid ((hb27.block _ (by omega)).trans hblr.out); obtain ⟨c0, c1, g0, g1⟩ := two_cells r6.out))
      all_goals
        refine bodyPost_ret (v := .tuple #[.agg #[.bool n4, .slice none l4 0], .bool true]) (by simp [results, Tryd.results64, go_sem, c0, c1]) rfl ⟨_, _, _, _, rfl, ?_, ?_⟩
        · refine (hbig4.other r6.out (by simp) (by simp) _ _).cast ?_
          exact sg_nil _
        · exact ((hzb.trans (hb27.mono (by omega))).setCell (by simp) _).setCell (by simp) _
end Go.Proofs.YtldafoojkimdeaaDoor

namespace Go.Proofs.YtldafoojkimdeaaDoor
open Go.RowKit Lm

theorem fin_zero : fin 0 = true := by
  refine decide_eq_true ⟨?_, by unfold fbits; simp⟩
  have := (bl_le 0 0).2 (by simp)
  show bl 0 ≤ 1024
  omega
theorem fout_zero : fout 0 = 0 := by unfold fout; rw [fin_zero]; unfold ibits fbits; simp

theorem toFloatE {na : Bool} {aa : Option Addr} {la ca : Nat} {A : List Nat} {va : Int} {w : World} (hA : Rd w aa la ca A) (ea : num na A = va) {g : Nat} {c : Int} (hl : Hid (bl va.natAbs ≤ 4096 → g = fout va ∧ c = if fin va then 0 else 14)) (hl2 : Hid (4096 < bl va.natAbs → g = 0 ∧ c = 10)) :
    Calls Tryd.prog 61 #[.agg #[.bool na, .slice aa la ca]] w fun e w' => e = .returned (.tuple #[.int .u64 (g : Int), .int .i64 c]) ∧ Below w.heap.size w w' := by
  have hv := val_of_num ea
  by_cases h1 : 4096 < bl va.natAbs
  · obtain ⟨e1, e2⟩ := hl2.out h1
    rw [e1, e2]
    exact toFloat_long na aa la ca A w hA (by rw [hv]; exact h1)
  · obtain ⟨e1, e2⟩ := hl.out (by omega)
    rw [e1, e2]
    clear e1 e2
    by_cases h2 : 1024 < bl va.natAbs
    · have e1 : fin va = false := decide_eq_false (fun h => by omega)
      have e2 : fout va = 0 := by unfold fout; rw [e1]; rfl
      rw [e2, e1]
      exact toFloat_far na aa la ca A w hA (by rw [hv]; exact h2) (by rw [hv]; omega)
    · by_cases h0 : val A = 0
      · have e : va = 0 := by omega
        rw [e, fin_zero, fout_zero]
        exact toFloat_zero na aa la ca A w hA h0
      · have hlen : (tl A).length ≤ 300 := Nat.le_trans (len_of_bl A 32 (by rw [hv]; omega)) (by decide)
        by_cases h3 : fbits va.natAbs < 9218868437227405312
        · have e1 : fin va = true := decide_eq_true ⟨by omega, h3⟩
          have e2 : fout va = ibits va := by unfold fout; rw [e1]; rfl
          rw [e2, e1]
          have := toFloat_fin na aa la ca A w hA h0 (by rw [hv]; omega) hlen (by rw [hv]; exact h3)
          rw [ea] at this
          exact this
        · have e1 : fin va = false := decide_eq_false (fun h => h3 h.2)
          have e2 : fout va = 0 := by unfold fout; rw [e1]; rfl
          rw [e2, e1]
          exact toFloat_inf na aa la ca A w hA h0 (by rw [hv]; omega) hlen (by rw [hv]; exact Nat.le_of_not_lt h3)

/-- The integer part of the float of some bits. -/
def ofv (F : Nat) : Int := if 9223372036854775808 ≤ F then -((fread (F % 9223372036854775808) : Nat) : Int) else ((fread (F % 9223372036854775808) : Nat) : Int)

theorem AnsO.of_fits {B : Nat} {w w' : World} {n : Bool} {ao : Option Addr} {len : Nat} {c e v : Int} (h : Fits w w' n ao len c v) (he : e = 0) (hB : B ≤ w.heap.size) : AnsO B w w' n ao len c e v := by
  rcases h with ⟨h1, rfl, hN⟩ | ⟨h1, rfl, rfl, rfl, rfl⟩
  · exact ⟨.inr ⟨he, .inl ⟨h1, rfl, hN.mono hB⟩⟩, fun a e => (hN.own a e).symm⟩
  · exact ⟨.inr ⟨he, .inr ⟨h1, rfl, rfl, rfl, rfl⟩⟩, fun a e => by cases e⟩

theorem ofFloatE {B0 : Nat} {F : Nat} {e : Int} {w : World} (hF : F < 18446744073709551616) (he : e = if F / 4503599627370496 % 2048 = 2047 then 14 else 0) (h0 : B0 ≤ w.heap.size) :
    Calls Tryd.prog 63 #[.int .u64 (F : Int)] w fun r w' => ∃ n ao len c, r = .returned (.tuple #[.agg #[.bool n, .slice ao len len], .int .i64 c]) ∧ AnsO B0 w w' n ao len c e (ofv F) ∧ Below w.heap.size w w' := by
  obtain ⟨R, hR⟩ : ∃ R, R = F % 9223372036854775808 := ⟨_, rfl⟩
  have hq : R / 4503599627370496 = F / 4503599627370496 % 2048 := by omega
  have hRb : R < 9223372036854775808 := by omega
  by_cases h1 : F / 4503599627370496 % 2048 = 2047
  · rw [if_pos h1] at he
    refine (ofFloat_inf F R w hF hR.symm (by omega)).mono ?_
    rintro r w' ⟨rfl, hb⟩
    exact ⟨_, _, _, _, rfl, ⟨.inl ⟨by rw [he]; decide, he.symm, rfl, rfl, rfl⟩, fun a e => by cases e⟩, hb⟩
  · rw [if_neg h1] at he
    by_cases h2 : R / 4503599627370496 < 1023
    · refine (ofFloat_low F R _ w hF hR.symm rfl h2).mono ?_
      rintro r w' ⟨rfl, hb⟩
      have e1 : ofv F = 0 := by
        unfold ofv
        rw [← hR]
        have : fread R = 0 := by unfold fread; rw [if_pos h2]
        rw [this]; simp
      rw [e1]
      refine ⟨_, _, _, _, rfl, ⟨.inr ⟨he, .inl ⟨?_, rfl, Num.zero _ _⟩⟩, fun a e => by cases e⟩, hb⟩
      have := (bl_le 0 0).2 (by simp)
      show bl 0 ≤ 4096
      omega
    · refine (ofFloat_good F R (R / 4503599627370496 - 1023) _ (F / 9223372036854775808) w hF hR.symm rfl (by omega) (by omega) rfl (by omega)).mono ?_
      rintro r w' ⟨n', ao', len', cc, rfl, hfit, hb⟩
      refine ⟨_, _, _, _, rfl, AnsO.of_fits ?_ he h0, hb⟩
      have e1 : (if F / 9223372036854775808 = 0 then ((fread R : Nat) : Int) else -((fread R : Nat) : Int)) = ofv F := by
        unfold ofv
        rw [← hR]
        by_cases h : 9223372036854775808 ≤ F
        · rw [if_pos h, if_neg (by omega)]
        · rw [if_neg h, if_pos (by omega)]
      rw [e1] at hfit
      exact hfit

theorem ofFloatR (F : Nat) (w : World) (hF : F < 18446744073709551616) (h1 : ¬ F / 4503599627370496 % 2048 = 2047) :
    Calls Tryd.prog 64 #[.int .u64 (F : Int)] w fun e w' => ∃ n' o l c, e = .returned (.tuple #[.agg #[.bool n', .slice o l c], .bool true]) ∧ Big w' n' o l c (ofv F) ∧ Below w.heap.size w w' := by
  obtain ⟨R, hR⟩ : ∃ R, R = F % 9223372036854775808 := ⟨_, rfl⟩
  obtain ⟨ex, hex⟩ : ∃ ex, ex = F / 4503599627370496 % 2048 := ⟨_, rfl⟩
  obtain ⟨m0, hm⟩ : ∃ m0, m0 = F % 4503599627370496 := ⟨_, rfl⟩
  have hq : R / 4503599627370496 = ex := by omega
  have hr : R % 4503599627370496 = m0 := by omega
  have hm1 : (F : Int) % 4503599627370496 = (m0 : Int) := by omega
  have hm2 : m0 < 4503599627370496 := by omega
  by_cases h0 : ex = 0
  · have e1 : ofv F = 0 := by
      unfold ofv
      rw [← hR]
      have : fread R = 0 := by unfold fread; rw [hq, if_pos (by omega)]
      rw [this]; simp
    rw [e1]
    exact ofFloatR_zero F (F / 4503599627370496) m0 w (by omega) (by omega) (by omega) hm1 hm2
  · have hV : Hid (fread R = if ex < 1075 then (m0 + 4503599627370496) / 2 ^ (1075 - ex) else (m0 + 4503599627370496) * 2 ^ (ex - 1075)) := hid (by
      unfold fread
      rw [hq, hr]
      by_cases c1 : ex < 1023
      · rw [if_pos c1, if_pos (by omega), Nat.div_eq_of_lt]
        have : 2 ^ 53 ≤ 2 ^ (1075 - ex) := Nat.pow_le_pow_right (by decide) (by omega)
        omega
      · rw [if_neg c1]
        by_cases c2 : ex < 1075
        · rw [if_pos (by omega), if_pos c2, show 52 - (ex - 1023) = 1075 - ex by omega]
        · rw [if_neg c2]
          by_cases c3 : ex = 1075
          · subst c3; simp
          · rw [if_neg (by omega), show ex - 1023 - 52 = ex - 1075 by omega])
    refine ofFloatR_pos F (F / 4503599627370496) ex m0 (fread R) (ofv F) w (by omega) (by omega) (by omega) hm1 (by omega) (by omega) hm2 hV (hid ?_)
    unfold ofv
    rw [← hR]
    by_cases h : 9223372036854775808 ≤ F
    · rw [if_pos h, if_pos (by omega)]
    · rw [if_neg h, if_neg (by omega)]
end Go.Proofs.YtldafoojkimdeaaDoor
