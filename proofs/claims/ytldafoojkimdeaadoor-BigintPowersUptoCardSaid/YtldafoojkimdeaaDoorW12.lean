/- Walks: add, Add, Sub. -/
import Derived.Test.YtldafoojkimdeaaDoorW5
import Derived.Test.YtldafoojkimdeaaDoorW10
import Derived.Test.YtldafoojkimdeaaDoorW11
namespace Go.Proofs.YtldafoojkimdeaaDoor
open Go.RowKit Lm

/-- The answer of a call that refuses what is too long. -/
def Ans (bad : Bool) (w w' : World) (n : Bool) (ao : Option Addr) (len : Nat) (c : Int) (v : Int) : Prop :=
  (bad = true ∧ c = 10 ∧ n = false ∧ ao = none ∧ len = 0) ∨ (bad = false ∧ Fits w w' n ao len c v)

theorem len_of_bl (A : List Nat) (k : Nat) (h : bl (val A) ≤ 32 * k) : (tl A).length ≤ k := by
  have h2 := (bl_le _ _).1 h
  rw [← P_two] at h2
  by_cases h0 : tl A = []
  · rw [h0]; simp
  · have h3 := top_ge (tl_top A) h0
    rw [tl_val] at h3
    have h5 : ¬ k ≤ (tl A).length - 1 := fun h => by have := P_le h; omega
    omega
theorem small_len (A : List Nat) (h : tooLong A = false) : (tl A).length ≤ 128 :=
  len_of_bl A 128 (by unfold tooLong at h; simpa using h)

theorem hpS {w : World} (o : Obj) {k : Nat} {v : Obj} (h : w.heap[k]? = some v) : (w.alloc o).heap[k]? = some v := (Below.heap_alloc w o k (lt_of_block h)).trans h
theorem hp4 (w : World) (o1 o2 o3 o4 : Obj) {w1 : World} (hb : Below ((((w.alloc o1).alloc o2).alloc o3).alloc o4).heap.size ((((w.alloc o1).alloc o2).alloc o3).alloc o4) w1) :
    w1.heap[w.heap.size]? = some o1 ∧ w1.heap[w.heap.size + 1]? = some o2 ∧ w1.heap[w.heap.size + 2]? = some o3 ∧ Below w.heap.size w w1 := by
  refine ⟨?_, ?_, ?_, balloc (balloc (balloc2 hb))⟩
  · rw [hb.block _ (by simp; omega)]
    exact hpS _ (hpS _ (hpS _ (heap_alloc_new w o1)))
  · rw [hb.block _ (by simp)]
    have := heap_alloc_new (w.alloc o1) o2
    exact hpS _ (hpS _ (by simpa using this))
  · rw [hb.block _ (by simp)]
    have := heap_alloc_new ((w.alloc o1).alloc o2) o3
    exact hpS _ (by simpa using this)

theorem four_cells {w : World} {b : Nat} {x y z u : Value} {t : TypeId} (h : w.heap[b]? = some (.cells #[x, y, z, u] t (0, 0))) :
    w.cell? ⟨b, 0, none⟩ = some x ∧ w.cell? ⟨b, 1, none⟩ = some y ∧ w.cell? ⟨b, 2, none⟩ = some z ∧ w.cell? ⟨b, 3, none⟩ = some u :=
  ⟨by simp [World.cell?, h], by simp [World.cell?, h], by simp [World.cell?, h], by simp [World.cell?, h]⟩

set_option maxRecDepth 100000 in
set_option maxHeartbeats 2000000 in
theorem add_bad (na : Bool) (aa : Option Addr) (la ca : Nat) (A : List Nat) (nb : Bool) (ab : Option Addr) (lb cb : Nat) (B : List Nat) (neg : Bool) (w : World) (hA : Rd w aa la ca A) (hB : Rd w ab lb cb B) (hbad : (tooLong A || tooLong B) = true) :
    Calls Tryd.prog 76 #[.agg #[.bool na, .slice aa la ca], .agg #[.bool nb, .slice ab lb cb], .bool neg] w fun e w' => e = .returned (.tuple #[.agg #[.bool false, .slice none 0 0], .int .i64 10]) ∧ Below w.heap.size w w' := by
  go_enter Tryd.func76, Tryd.ntmps76
  go_wp2_with (go_at_call 77; refine (long2_any _ na aa la ca A nb ab lb cb B _ ((((hA.alloc _).alloc _).alloc _).alloc _) ((((hB.alloc _).alloc _).alloc _).alloc _) (by simp [go_sem]) (by simp [go_sem]) (by simp [go_sem]) (by simp [go_sem])).mono ?_; rintro e w1 ⟨rfl, hb1⟩; rw [hbad]; obtain ⟨p1, p2, p3, hbw⟩ := hp4 _ _ _ _ _ hb1; obtain ⟨c0, c1, f0, f1⟩ := two_cells p3)
  refine bodyPost_ret (v := .tuple #[.agg #[.bool false, .slice none 0 0], .int .i64 10]) (by simp [results, Tryd.results76, go_sem, c0, c1]) rfl ⟨rfl, ?_⟩
  exact (hbw.setCell (by simp; omega) _).setCell (by simp; omega) _

theorem Fits.set2 {w w2 w3 : World} {n : Bool} {ao : Option Addr} {len : Nat} {c v : Int} (h : Fits w2 w3 n ao len c v) (hle : w.heap.size ≤ w2.heap.size) {p q : Addr} (hp : p.block < w2.heap.size) (hq : q.block < w2.heap.size) (u u' : Value) :
    Fits w ((w3.setCell p u).setCell q u') n ao len c v := by
  rcases h with ⟨h1, h2, h3⟩ | h
  · exact .inl ⟨h1, h2, ((h3.set hp u).set hq u').mono hle⟩
  · exact .inr h

theorem undrew {B : Nat} {w w' : World} (h : Below B w.drew w') : Below B w w' := ⟨h.os, h.tape, h.output, h.size, h.block⟩
theorem undrewN {B n : Nat} {w w' : World} (h : Below B (w.drewN n) w') : Below B w w' := ⟨h.os, h.tape, h.output, h.size, h.block⟩
theorem cell_keep {w w' : World} {a : Addr} {v : Value} (h : w.cell? a = some v) (hb : Below w.heap.size w w') : w'.cell? a = some v := (hb.cell (World.block_lt_of_cell? w a h)).trans h
theorem heap_keep {w w' : World} {k : Nat} {o : Obj} (h : w.heap[k]? = some o) (hb : Below w.heap.size w w') : w'.heap[k]? = some o := (hb.block k (lt_of_block h)).trans h

set_option maxRecDepth 100000 in
set_option maxHeartbeats 2000000 in
theorem add_good (na : Bool) (aa : Option Addr) (la ca : Nat) (A : List Nat) (nb : Bool) (ab : Option Addr) (lb cb : Nat) (B : List Nat) (neg : Bool) (w : World) (hA : Rd w aa la ca A) (hB : Rd w ab lb cb B) (hbad : (tooLong A || tooLong B) = false) :
    Calls Tryd.prog 76 #[.agg #[.bool na, .slice aa la ca], .agg #[.bool nb, .slice ab lb cb], .bool neg] w fun e w' => ∃ n' ao' len' c, e = .returned (.tuple #[.agg #[.bool n', .slice ao' len' len'], .int .i64 c]) ∧ Fits w w' n' ao' len' c (num na A + num neg B) ∧ Below w.heap.size w w' := by
  have hsA := small_len A (by simp at hbad; exact hbad.1)
  have hsB := small_len B (by simp at hbad; exact hbad.2)
  go_enter Tryd.func76, Tryd.ntmps76
  go_wp2_with (go_at_call 77; refine (long2_any _ na aa la ca A nb ab lb cb B _ ((((hA.alloc _).alloc _).alloc _).alloc _) ((((hB.alloc _).alloc _).alloc _).alloc _) (by simp [go_sem]) (by simp [go_sem]) (by simp [go_sem]) (by simp [go_sem])).mono ?_; rintro e w1 ⟨rfl, hb1⟩; rw [hbad]; obtain ⟨p1, p2, p3, hbw⟩ := hp4 _ _ _ _ _ hb1; obtain ⟨a0, a1, _, _⟩ := two_cells p1; obtain ⟨b0, b1, _, _⟩ := two_cells p2; have hA1 := hA.keep hbw; have hB1 := hB.keep hbw)
  clear hbad
  go_quiet (first
    | (go_at_call_of 71 (Value.slice aa la ca); go_must (refine Calls.quiet_of_same (trim_q _ _ _ A _ ?_); (repeat (first | exact hA1 | apply Rd.drewN | apply Rd.drew))))
    | (go_at_call_of 71 (Value.slice ab lb cb); go_must (refine Calls.quiet_of_same (trim_q _ _ _ B _ ?_); (repeat (first | exact hB1 | apply Rd.drewN | apply Rd.drew)))))
  have hlt1 : w.heap.size + 4 ≤ (w1.drewN nq).heap.size := by have := hb1.size; simp at this ⊢; omega
  have hTA : Rd (w1.drewN nq) aa (tl A).length ca (tl A) := hA1.tl.drewN nq
  have hTB : Rd (w1.drewN nq) ab (tl B).length cb (tl B) := hB1.tl.drewN nq
  have a0' : (w1.drewN nq).cell? ⟨w.heap.size, 0, none⟩ = some (.bool na) := a0
  have p3' : (w1.drewN nq).heap[w.heap.size + 2]? = some (.cells #[.bool false, .slice none 0 0] 24 (0, 0)) := p3
  have hbv : Below w.heap.size w (w1.drewN nq) := bdrew hbw nq
  clear hb1 a0 a1 b0 b1 p1 p2 p3 hA1 hB1 hbw
  generalize w1.drewN nq = wv at *
  have HP3 := hid p3'
  clear p3'
  have hvA := hid (tl_val A)
  have hvB := hid (tl_val B)
  cases na <;> cases neg
  · have hnum : ∀ L : List Nat, val L = val (tl A) + val (tl B) → num false L = num false A + num false B := by
      intro L hL; unfold num; rw [hL, hvA.out, hvB.out]; simp; try omega
    have HN := hid hnum
    clear hnum
    go_wp2
    go_region_held3 (fun w' => w'.cell? ⟨w.heap.size, 0, none⟩ = some (.bool false)) (first | assumption | (simp [go_sem]; assumption))
      (first
        | (go_at_call 84; refine (sum_any _ _ _ (tl A) _ _ _ (tl B) _ ?_ ?_ (by omega) (by omega)).mono ?_; (first | exact hTA | exact hTA.drew); (first | exact hTB | exact hTB.drew); rintro e w2 ⟨g, L, rfl, hg, hR, hL, hok, hval, hb2⟩; have HL := hid hL; have HV := hid hval; have hLs : L.length ≤ 129 := (by omega); clear hL hval; have a02 := cell_keep a0' (undrew hb2); have hP2 := hid (heap_keep HP3.out (undrew hb2)))
        | (go_at_call 78; refine (fit_any _ _ _ _ L _ (hR.whole hok _ (Nat.le_refl _) (by omega))).mono ?_; rintro e w3 ⟨n', ao', len', c, rfl, hfit, hb3⟩; have a03 := cell_keep a02 hb3; obtain ⟨c0, c1, f0, f1⟩ := two_cells (heap_keep hP2.out hb3)))
    have hs2 := (undrew hb2).size
    rw [HN.out L HV.out] at hfit
    go_wp2
    refine bodyPost_ret (v := .tuple #[.agg #[.bool n', .slice ao' len' len'], .int .i64 c]) (by simp [results, Tryd.results76, go_sem, c0, c1]) rfl ⟨_, _, _, _, rfl, ?_, ?_⟩
    · exact hfit.set2 (by omega) (by simp; omega) (by simp; omega) _ _
    · exact (((hbv.trans ((undrew hb2).mono (by simp; omega))).trans (hb3.mono (by omega))).setCell (by simp; omega) _).setCell (by simp; omega) _
  · have hTA1 := hTA
    have hTB1 := hTB
    have htA := tl_top A
    have htB := tl_top B
    by_cases hle : val (tl B) ≤ val (tl A)
    · have hc : 0 ≤ cmp (val (tl A)) (val (tl B)) := by unfold cmp; rw [if_neg (by omega)]; split <;> decide
      have hnum : ∀ L : List Nat, val L + val (tl B) = val (tl A) → num false L = num false A + num true B := by
        intro L hL; unfold num; rw [← hvA.out, ← hvB.out, ← hL]; simp; try omega
      have HN := hid hnum
      have HLE := hid hle
      have hlen : (tl B).length ≤ (tl A).length := by
        have := fun k => top_length htB (tl_ok hA.ok) k
        omega
      clear hnum hle
      go_wp2_with (go_at_call 74; refine (compare_any _ _ _ (tl A) _ _ _ (tl B) _ hTA hTB htA htB).mono ?_; rintro e w5 ⟨rfl, q, rfl⟩)
      have hTA2 := hTA.drewN q
      have hTB2 := hTB.drewN q
      have a02 : (wv.drewN q).cell? ⟨w.heap.size, 0, none⟩ = some (.bool false) := a0'
      have HP4 : Hid ((wv.drewN q).heap[w.heap.size + 2]? = some (.cells #[.bool false, .slice none 0 0] 24 (0, 0))) := HP3
      have hbv2 := bdrew hbv q
      have hlt2 : w.heap.size + 4 ≤ (wv.drewN q).heap.size := hlt1
      clear hTA hTB hTA1 hTB1 a0' HP3 hbv hlt1
      generalize wv.drewN q = wx at *
      go_region_held3 (fun w' => w'.cell? ⟨w.heap.size, 0, none⟩ = some (.bool false)) (first | assumption | (simp [go_sem]; assumption))
        (first
          | (go_at_call 85; refine (difference_any _ _ _ (tl A) _ _ _ (tl B) _ ?_ ?_ (by omega) (by omega) HLE.out).mono ?_; (first | exact hTA2 | exact hTA2.drew); (first | exact hTB2 | exact hTB2.drew); rintro e w2 ⟨g, L, rfl, hg, hR, hL, hok, hval, hb2⟩; have HL := hid hL; have HV := hid hval; have hLs : L.length ≤ 129 := (by omega); clear hL hval; have a03 := cell_keep a02 (undrew hb2); have hP2 := hid (heap_keep HP4.out (undrew hb2)))
          | (go_at_call 78; refine (fit_any _ _ _ _ L _ (hR.whole hok _ (Nat.le_refl _) (by omega))).mono ?_; rintro e w3 ⟨n', ao', len', c, rfl, hfit, hb3⟩; have a04 := cell_keep a03 hb3; obtain ⟨c0, c1, f0, f1⟩ := two_cells (heap_keep hP2.out hb3)))
      have hs2 := (undrew hb2).size
      rw [HN.out L HV.out] at hfit
      go_wp2
      refine bodyPost_ret (v := .tuple #[.agg #[.bool n', .slice ao' len' len'], .int .i64 c]) (by simp [results, Tryd.results76, go_sem, c0, c1]) rfl ⟨_, _, _, _, rfl, ?_, ?_⟩
      · exact hfit.set2 (by omega) (by simp; omega) (by simp; omega) _ _
      · exact (((hbv2.trans ((undrew hb2).mono (by simp; omega))).trans (hb3.mono (by omega))).setCell (by simp; omega) _).setCell (by simp; omega) _
    · have hc : cmp (val (tl A)) (val (tl B)) < 0 := by unfold cmp; rw [if_pos (by omega)]; decide
      have hnum : ∀ L : List Nat, val L + val (tl A) = val (tl B) → num true L = num false A + num true B := by
        intro L hL; unfold num; rw [← hvA.out, ← hvB.out, ← hL]; simp; try omega
      have HN := hid hnum
      have HLE := hid (show val (tl A) ≤ val (tl B) by omega)
      have hlen : (tl A).length ≤ (tl B).length := by
        have := fun k => top_length htA (tl_ok hB.ok) k
        omega
      clear hnum hle
      go_wp2_with (first
        | (go_at_call 74; refine (compare_any _ _ _ (tl A) _ _ _ (tl B) _ hTA hTB htA htB).mono ?_; rintro e w5 ⟨rfl, q, rfl⟩)
        | (go_at_call 85; refine (difference_any _ _ _ (tl B) _ _ _ (tl A) _ (hTB1.drewN q) (hTA1.drewN q) (by omega) (by omega) HLE.out).mono ?_; rintro e w2 ⟨g, L, rfl, hg, hR, hL, hok, hval, hb2⟩; have HL := hid hL; have HV := hid hval; have hLs : L.length ≤ 129 := (by omega); clear hL hval; have hP2 := hid (heap_keep HP3.out (undrewN hb2)))
        | (go_at_call 78; refine (fit_any _ _ _ _ L _ (hR.whole hok _ (Nat.le_refl _) (by omega))).mono ?_; rintro e w3 ⟨n', ao', len', c, rfl, hfit, hb3⟩; obtain ⟨c0, c1, f0, f1⟩ := two_cells (heap_keep hP2.out hb3)))
      have hs2 := (undrewN hb2).size
      rw [HN.out L HV.out] at hfit
      refine bodyPost_ret (v := .tuple #[.agg #[.bool n', .slice ao' len' len'], .int .i64 c]) (by simp [results, Tryd.results76, go_sem, c0, c1]) rfl ⟨_, _, _, _, rfl, ?_, ?_⟩
      · exact hfit.set2 (by omega) (by simp; omega) (by simp; omega) _ _
      · exact (((hbv.trans ((undrewN hb2).mono (by simp; omega))).trans (hb3.mono (by omega))).setCell (by simp; omega) _).setCell (by simp; omega) _
  · have hTA1 := hTA
    have hTB1 := hTB
    have htA := tl_top A
    have htB := tl_top B
    by_cases hle : val (tl B) ≤ val (tl A)
    · have hc : 0 ≤ cmp (val (tl A)) (val (tl B)) := by unfold cmp; rw [if_neg (by omega)]; split <;> decide
      have hnum : ∀ L : List Nat, val L + val (tl B) = val (tl A) → num true L = num true A + num false B := by
        intro L hL; unfold num; rw [← hvA.out, ← hvB.out, ← hL]; simp; try omega
      have HN := hid hnum
      have HLE := hid hle
      have hlen : (tl B).length ≤ (tl A).length := by
        have := fun k => top_length htB (tl_ok hA.ok) k
        omega
      clear hnum hle
      go_wp2_with (go_at_call 74; refine (compare_any _ _ _ (tl A) _ _ _ (tl B) _ hTA hTB htA htB).mono ?_; rintro e w5 ⟨rfl, q, rfl⟩)
      have hTA2 := hTA.drewN q
      have hTB2 := hTB.drewN q
      have a02 : (wv.drewN q).cell? ⟨w.heap.size, 0, none⟩ = some (.bool true) := a0'
      have HP4 : Hid ((wv.drewN q).heap[w.heap.size + 2]? = some (.cells #[.bool false, .slice none 0 0] 24 (0, 0))) := HP3
      have hbv2 := bdrew hbv q
      have hlt2 : w.heap.size + 4 ≤ (wv.drewN q).heap.size := hlt1
      clear hTA hTB hTA1 hTB1 a0' HP3 hbv hlt1
      generalize wv.drewN q = wx at *
      go_region_held3 (fun w' => w'.cell? ⟨w.heap.size, 0, none⟩ = some (.bool true)) (first | assumption | (simp [go_sem]; assumption))
        (first
          | (go_at_call 85; refine (difference_any _ _ _ (tl A) _ _ _ (tl B) _ ?_ ?_ (by omega) (by omega) HLE.out).mono ?_; (first | exact hTA2 | exact hTA2.drew); (first | exact hTB2 | exact hTB2.drew); rintro e w2 ⟨g, L, rfl, hg, hR, hL, hok, hval, hb2⟩; have HL := hid hL; have HV := hid hval; have hLs : L.length ≤ 129 := (by omega); clear hL hval; have a03 := cell_keep a02 (undrew hb2); have hP2 := hid (heap_keep HP4.out (undrew hb2)))
          | (go_at_call 78; refine (fit_any _ _ _ _ L _ (hR.whole hok _ (Nat.le_refl _) (by omega))).mono ?_; rintro e w3 ⟨n', ao', len', c, rfl, hfit, hb3⟩; have a04 := cell_keep a03 hb3; obtain ⟨c0, c1, f0, f1⟩ := two_cells (heap_keep hP2.out hb3)))
      have hs2 := (undrew hb2).size
      rw [HN.out L HV.out] at hfit
      go_wp2
      refine bodyPost_ret (v := .tuple #[.agg #[.bool n', .slice ao' len' len'], .int .i64 c]) (by simp [results, Tryd.results76, go_sem, c0, c1]) rfl ⟨_, _, _, _, rfl, ?_, ?_⟩
      · exact hfit.set2 (by omega) (by simp; omega) (by simp; omega) _ _
      · exact (((hbv2.trans ((undrew hb2).mono (by simp; omega))).trans (hb3.mono (by omega))).setCell (by simp; omega) _).setCell (by simp; omega) _
    · have hc : cmp (val (tl A)) (val (tl B)) < 0 := by unfold cmp; rw [if_pos (by omega)]; decide
      have hnum : ∀ L : List Nat, val L + val (tl A) = val (tl B) → num false L = num true A + num false B := by
        intro L hL; unfold num; rw [← hvA.out, ← hvB.out, ← hL]; simp; try omega
      have HN := hid hnum
      have HLE := hid (show val (tl A) ≤ val (tl B) by omega)
      have hlen : (tl A).length ≤ (tl B).length := by
        have := fun k => top_length htA (tl_ok hB.ok) k
        omega
      clear hnum hle
      go_wp2_with (first
        | (go_at_call 74; refine (compare_any _ _ _ (tl A) _ _ _ (tl B) _ hTA hTB htA htB).mono ?_; rintro e w5 ⟨rfl, q, rfl⟩)
        | (go_at_call 85; refine (difference_any _ _ _ (tl B) _ _ _ (tl A) _ (hTB1.drewN q) (hTA1.drewN q) (by omega) (by omega) HLE.out).mono ?_; rintro e w2 ⟨g, L, rfl, hg, hR, hL, hok, hval, hb2⟩; have HL := hid hL; have HV := hid hval; have hLs : L.length ≤ 129 := (by omega); clear hL hval; have hP2 := hid (heap_keep HP3.out (undrewN hb2)))
        | (go_at_call 78; refine (fit_any _ _ _ _ L _ (hR.whole hok _ (Nat.le_refl _) (by omega))).mono ?_; rintro e w3 ⟨n', ao', len', c, rfl, hfit, hb3⟩; obtain ⟨c0, c1, f0, f1⟩ := two_cells (heap_keep hP2.out hb3)))
      have hs2 := (undrewN hb2).size
      rw [HN.out L HV.out] at hfit
      refine bodyPost_ret (v := .tuple #[.agg #[.bool n', .slice ao' len' len'], .int .i64 c]) (by simp [results, Tryd.results76, go_sem, c0, c1]) rfl ⟨_, _, _, _, rfl, ?_, ?_⟩
      · exact hfit.set2 (by omega) (by simp; omega) (by simp; omega) _ _
      · exact (((hbv.trans ((undrewN hb2).mono (by simp; omega))).trans (hb3.mono (by omega))).setCell (by simp; omega) _).setCell (by simp; omega) _
  · have hnum : ∀ L : List Nat, val L = val (tl A) + val (tl B) → num true L = num true A + num true B := by
      intro L hL; unfold num; rw [hL, hvA.out, hvB.out]; simp; try omega
    have HN := hid hnum
    clear hnum
    go_wp2
    go_region_held3 (fun w' => w'.cell? ⟨w.heap.size, 0, none⟩ = some (.bool true)) (first | assumption | (simp [go_sem]; assumption))
      (first
        | (go_at_call 84; refine (sum_any _ _ _ (tl A) _ _ _ (tl B) _ ?_ ?_ (by omega) (by omega)).mono ?_; (first | exact hTA | exact hTA.drew); (first | exact hTB | exact hTB.drew); rintro e w2 ⟨g, L, rfl, hg, hR, hL, hok, hval, hb2⟩; have HL := hid hL; have HV := hid hval; have hLs : L.length ≤ 129 := (by omega); clear hL hval; have a02 := cell_keep a0' (undrew hb2); have hP2 := hid (heap_keep HP3.out (undrew hb2)))
        | (go_at_call 78; refine (fit_any _ _ _ _ L _ (hR.whole hok _ (Nat.le_refl _) (by omega))).mono ?_; rintro e w3 ⟨n', ao', len', c, rfl, hfit, hb3⟩; have a03 := cell_keep a02 hb3; obtain ⟨c0, c1, f0, f1⟩ := two_cells (heap_keep hP2.out hb3)))
    have hs2 := (undrew hb2).size
    rw [HN.out L HV.out] at hfit
    go_wp2
    refine bodyPost_ret (v := .tuple #[.agg #[.bool n', .slice ao' len' len'], .int .i64 c]) (by simp [results, Tryd.results76, go_sem, c0, c1]) rfl ⟨_, _, _, _, rfl, ?_, ?_⟩
    · exact hfit.set2 (by omega) (by simp; omega) (by simp; omega) _ _
    · exact (((hbv.trans ((undrew hb2).mono (by simp; omega))).trans (hb3.mono (by omega))).setCell (by simp; omega) _).setCell (by simp; omega) _

theorem add_any (na : Bool) (aa : Option Addr) (la ca : Nat) (A : List Nat) (nb : Bool) (ab : Option Addr) (lb cb : Nat) (B : List Nat) (neg : Bool) (w : World) (hA : Rd w aa la ca A) (hB : Rd w ab lb cb B) :
    Calls Tryd.prog 76 #[.agg #[.bool na, .slice aa la ca], .agg #[.bool nb, .slice ab lb cb], .bool neg] w fun e w' => ∃ n' ao' len' c, e = .returned (.tuple #[.agg #[.bool n', .slice ao' len' len'], .int .i64 c]) ∧ Ans (tooLong A || tooLong B) w w' n' ao' len' c (num na A + num neg B) ∧ Below w.heap.size w w' := by
  by_cases hbad : (tooLong A || tooLong B) = true
  · refine (add_bad na aa la ca A nb ab lb cb B neg w hA hB hbad).mono ?_
    rintro e w' ⟨rfl, hb⟩
    exact ⟨_, _, _, _, rfl, .inl ⟨hbad, rfl, rfl, rfl, rfl⟩, hb⟩
  · have hbad' : (tooLong A || tooLong B) = false := by simpa using hbad
    refine (add_good na aa la ca A nb ab lb cb B neg w hA hB hbad').mono ?_
    rintro e w' ⟨n', ao', len', c, rfl, hf, hb⟩
    exact ⟨_, _, _, _, rfl, .inr ⟨hbad', hf⟩, hb⟩

theorem Ans.set2 {bad : Bool} {w w2 w3 : World} {n : Bool} {ao : Option Addr} {len : Nat} {c v : Int} (h : Ans bad w2 w3 n ao len c v) (hle : w.heap.size ≤ w2.heap.size) {p q : Addr} (hp : p.block < w2.heap.size) (hq : q.block < w2.heap.size) (u u' : Value) :
    Ans bad w ((w3.setCell p u).setCell q u') n ao len c v := by
  rcases h with h | ⟨h, h'⟩
  · exact .inl h
  · exact .inr ⟨h, h'.set2 hle hp hq u u'⟩

theorem hp3 (w : World) (o1 o2 o3 : Obj) {w1 : World} (hb : Below (((w.alloc o1).alloc o2).alloc o3).heap.size (((w.alloc o1).alloc o2).alloc o3) w1) :
    w1.heap[w.heap.size]? = some o1 ∧ w1.heap[w.heap.size + 1]? = some o2 ∧ w1.heap[w.heap.size + 2]? = some o3 ∧ Below w.heap.size w w1 := by
  refine ⟨?_, ?_, ?_, balloc (balloc2 hb)⟩
  · rw [hb.block _ (by simp; omega)]
    exact hpS _ (hpS _ (heap_alloc_new w o1))
  · rw [hb.block _ (by simp)]
    have := heap_alloc_new (w.alloc o1) o2
    exact hpS _ (by simpa using this)
  · rw [hb.block _ (by simp)]
    have := heap_alloc_new ((w.alloc o1).alloc o2) o3
    simpa using this

set_option maxRecDepth 100000 in
set_option maxHeartbeats 2000000 in
theorem Add_any (na : Bool) (aa : Option Addr) (la ca : Nat) (A : List Nat) (nb : Bool) (ab : Option Addr) (lb cb : Nat) (B : List Nat) (w : World) (hA : Rd w aa la ca A) (hB : Rd w ab lb cb B) :
    Calls Tryd.prog 35 #[.agg #[.bool na, .slice aa la ca], .agg #[.bool nb, .slice ab lb cb]] w fun e w' => ∃ n' ao' len' c, e = .returned (.tuple #[.agg #[.bool n', .slice ao' len' len'], .int .i64 c]) ∧ Ans (tooLong A || tooLong B) w w' n' ao' len' c (num na A + num nb B) ∧ Below w.heap.size w w' := by
  go_enter Tryd.func35, Tryd.ntmps35
  go_wp2_with (go_at_call 76; refine (add_any na aa la ca A nb ab lb cb B nb _ (((hA.alloc _).alloc _).alloc _) (((hB.alloc _).alloc _).alloc _)).mono ?_; rintro e w1 ⟨n', ao', len', c, rfl, hans, hb1⟩; obtain ⟨_, _, p3, hbw⟩ := hp3 _ _ _ _ hb1; obtain ⟨c0, c1, f0, f1⟩ := two_cells p3)
  refine bodyPost_ret (v := .tuple #[.agg #[.bool n', .slice ao' len' len'], .int .i64 c]) (by simp [results, Tryd.results35, go_sem, c0, c1]) rfl ⟨_, _, _, _, rfl, ?_, ?_⟩
  · exact hans.set2 (by simp; omega) (by simp) (by simp) _ _
  · exact (hbw.setCell (by simp; omega) _).setCell (by simp; omega) _

set_option maxRecDepth 100000 in
set_option maxHeartbeats 2000000 in
theorem Sub_any (na : Bool) (aa : Option Addr) (la ca : Nat) (A : List Nat) (nb : Bool) (ab : Option Addr) (lb cb : Nat) (B : List Nat) (w : World) (hA : Rd w aa la ca A) (hB : Rd w ab lb cb B) :
    Calls Tryd.prog 36 #[.agg #[.bool na, .slice aa la ca], .agg #[.bool nb, .slice ab lb cb]] w fun e w' => ∃ n' ao' len' c, e = .returned (.tuple #[.agg #[.bool n', .slice ao' len' len'], .int .i64 c]) ∧ Ans (tooLong A || tooLong B) w w' n' ao' len' c (num na A - num nb B) ∧ Below w.heap.size w w' := by
  have hn := hid (num_not nb B)
  go_enter Tryd.func36, Tryd.ntmps36
  go_wp2_with (go_at_call 76; refine (add_any na aa la ca A nb ab lb cb B (!nb) _ (((hA.alloc _).alloc _).alloc _) (((hB.alloc _).alloc _).alloc _)).mono ?_; rintro e w1 ⟨n', ao', len', c, rfl, hans, hb1⟩; obtain ⟨_, _, p3, hbw⟩ := hp3 _ _ _ _ hb1; obtain ⟨c0, c1, f0, f1⟩ := two_cells p3)
  rw [hn.out] at hans
  refine bodyPost_ret (v := .tuple #[.agg #[.bool n', .slice ao' len' len'], .int .i64 c]) (by simp [results, Tryd.results36, go_sem, c0, c1]) rfl ⟨_, _, _, _, rfl, ?_, ?_⟩
  · rw [Int.sub_eq_add_neg]; exact hans.set2 (by simp; omega) (by simp) (by simp) _ _
  · exact (hbw.setCell (by simp; omega) _).setCell (by simp; omega) _

end Go.Proofs.YtldafoojkimdeaaDoor
