/- Walks of the law's helpers lent and held. No condition but those that each theorem names. -/
import Derived.Test.YtldafoojkimdeaaDoorR8
import Derived.Laws.AppendOwnNone
namespace Go.Proofs.YtldafoojkimdeaaDoor
open Go.RowKit Lm

theorem Grow.put {B : Nat} {w : World} {g cap : Nat} {C : List Nat} (h : Grow B w (.slice (some ⟨g, 0, none⟩) C.length cap) C) (k : Nat) {z : Int} (x : Nat) (hz : z = (x : Int)) :
    Grow B (w.setCell ⟨g, k, none⟩ (.int .u32 z)) (.slice (some ⟨g, 0, none⟩) C.length cap) (C.set k x) := by
  subst hz
  unfold Grow at *
  rw [List.length_set]
  rcases h.2 with ⟨h', _⟩ | ⟨g', cap', cur, h', hb, hg, hnc, hcm, hcs, htk⟩
  · simp at h'
  · simp only [Value.slice.injEq, Option.some.injEq, Addr.mk.injEq, and_true, true_and] at h'
    obtain ⟨rfl, rfl⟩ := h'
    refine ⟨by simp [lims_len], .inr ⟨g, cap, cur.setIfInBounds k (.int .u32 (x : Int)), rfl, hb, heap_setCell_same w g k cur 43 _ hg, hnc, hcm, by simpa using hcs, ?_⟩⟩
    rw [Array.toList_setIfInBounds, List.take_set, htk, lims_set _ _ _ rfl]

/-- The owner's marks. -/
def mk3 (A : List Nat) : List Nat := A ++ [77, 77, 77]
theorem mk3_len (A : List Nat) : (mk3 A).length = A.length + 3 := by simp [mk3]
theorem mk3_low (A : List Nat) (k : Nat) (h : k < A.length) : dg (mk3 A) k = dg A k := dg_append_left _ _ _ h
theorem mk3_high (A : List Nat) (k : Nat) (h : A.length ≤ k) (h3 : k < A.length + 3) : dg (mk3 A) k = 77 := by
  unfold mk3
  rw [dg_append_right _ _ _ h]
  rcases (show k - A.length = 0 ∨ k - A.length = 1 ∨ k - A.length = 2 by omega) with e | e | e <;> rw [e] <;> rfl

/-- An integer lent: the limbs lie in a block of the call's own, marks behind them. -/
structure Lent (B : Nat) (w : World) (g la cap : Nat) (A : List Nat) : Prop where
  own : Grow B w (.slice (some ⟨g, 0, none⟩) (la + 3) cap) (mk3 A)
  size : A.length = la
theorem Lent.keep {B : Nat} {w w' : World} {g la cap : Nat} {A : List Nat} (h : Lent B w g la cap A) (hb : Below w.heap.size w w') : Lent B w' g la cap A :=
  ⟨World.ownsRow.kept h.own (row := none) ⟨hb.os, hb.tape, hb.output, hb.size, fun k hk _ => hb.block k hk⟩ (by simp [Value.ownBlock]), h.size⟩
theorem Lent.rd {B : Nat} {w : World} {g la cap : Nat} {A : List Nat} (h : Lent B w g la cap A) (ho : Ok A) (hl : la ≤ 4294967296) : Rd w (some ⟨g, 0, none⟩) la cap A := by
  have hk : Ok (mk3 A) := ho.append (((Ok.nil.cons (by omega)).cons (by omega)).cons (by omega))
  obtain ⟨ao, cp, e, hR⟩ := h.own.rd hk (by rw [mk3_len, h.size]; omega)
  simp only [Value.slice.injEq] at e
  obtain ⟨rfl, e2, rfl⟩ := e
  have := hR.take (n := la) (by omega)
  rwa [show (mk3 A).take la = A by unfold mk3; rw [← h.size]; simp] at this

theorem Lent.keepB {B : Nat} {w w' : World} {g la cap : Nat} {A : List Nat} (h : Lent B w g la cap A) (hb : Below B w w') (hg : w'.heap[g]? = w.heap[g]?) : Lent B w' g la cap A := by
  refine ⟨?_, h.size⟩
  have h1 := h.own
  unfold Grow at *
  rcases h1.2 with ⟨h', _⟩ | ⟨g', cap', cur, h', hb', hg', r⟩
  · simp at h'
  · have h2 := h'
    simp only [Value.slice.injEq, Option.some.injEq, Addr.mk.injEq, and_true, true_and] at h2
    obtain ⟨rfl, _⟩ := h2
    exact ⟨h1.1, .inr ⟨g, cap', cur, h', hb', by rw [hg]; exact hg', r⟩⟩

theorem lims777 (A : List Nat) : lims A ++ [.int .u32 77, .int .u32 77, .int .u32 77] = lims (mk3 A) := by simp [lims, mk3]

theorem marks_cells (w : World) : ∀ j u, ([.int .u32 77, .int .u32 77, .int .u32 77] : List Value)[j]? = some u → (w.alloc (.cells #[.int .u32 77, .int .u32 77, .int .u32 77] 43)).cell? ((⟨w.heap.size, 0, none⟩ : Addr).add j) = some u := by
  intro j u hj
  match j, hj with
  | 0, hj => simp at hj; subst hj; simp [Addr.add]
  | 1, hj => simp at hj; subst hj; simp [Addr.add]
  | 2, hj => simp at hj; subst hj; simp [Addr.add]
  | j + 3, hj => simp at hj
theorem marks_at (g : Nat) (w : World) (hg : w.heap.size = g) : ∀ j u, ([.int .u32 77, .int .u32 77, .int .u32 77] : List Value)[j]? = some u → (w.alloc (.cells #[.int .u32 77, .int .u32 77, .int .u32 77] 43)).cell? ((⟨g, 0, none⟩ : Addr).add j) = some u := by
  subst hg; exact marks_cells w
theorem marks_one : ∀ u ∈ ([.int .u32 77, .int .u32 77, .int .u32 77] : List Value), u.oneCell' = true := by
  intro u hu; simp at hu; subst hu; rfl
theorem fresh_made (B : Nat) (w : World) (hB : B ≤ w.heap.size) : (w.alloc (.cells #[] 43)).ownsRow B 43 1 (.slice (some ⟨w.heap.size, 0, none⟩) 0 0) 0 [] :=
  World.ownsRow_made (base := B) (e := 43) (size := 1) w #[] 0 hB (by unfold maxLen; omega) rfl

theorem fresh_at (B g : Nat) (w : World) (hB : B ≤ w.heap.size) (hg : w.heap.size = g) : (w.alloc (.cells #[] 43)).ownsRow B 43 1 (.slice (some ⟨g, 0, none⟩) 0 0) 0 [] := by
  subst hg; exact fresh_made B w hB

set_option maxRecDepth 100000 in
set_option maxHeartbeats 2000000 in
theorem lentR_some (na : Bool) (ad : Addr) (la ca : Nat) (A : List Nat) (w : World) (hA : Rd w (some ad) la ca A) (hcell : Hid (∀ j u, (lims A)[j]? = some u → w.cell? (ad.add j) = some u)) (hla : la ≤ 1073741824) :
    Calls Tryd.prog 18 #[.agg #[.bool na, .slice (some ad) la ca]] w fun e w' => ∃ g cap, e = .returned (.agg #[.bool na, .slice (some ⟨g, 0, none⟩) la cap]) ∧ Lent w.heap.size w' g la cap A ∧ Below w.heap.size w w' := by
  obtain ⟨i0, hi, hz0, hz1, hz2⟩ := info_parts Tryd.info43
  have HL := hid hA.size
  have hzb : ∀ n1 n2, Below w.heap.size w (((w.alloc (.cells #[.bool na, .slice (some ad) la ca] 24)).alloc (.cells n1 24)).alloc (.cells n2 43)) :=
    fun _ _ => (((Below.refl _ _).alloc (Nat.le_refl _) _).alloc (by simp) _).alloc (by simp; omega) _
  have HCC : Hid (∀ (j : Nat) u, (lims A)[j]? = some u → (((w.alloc (.cells #[.bool na, .slice (some ad) la ca] 24)).alloc (.cells #[.bool false, .slice none 0 0] 24)).alloc (.cells #[] 43)).cell? (ad.add j) = some u) := hid (fun j u hj => by
    exact cell_keep (hcell.out j u hj) (hzb _ _))
  clear hzb
  go_enter Tryd.func18, Tryd.ntmps18
  go_wp2_with (first
    | (at_builtin; (refine wpList_append_own _ (o := ⟨some 7, _, _, _, _, _⟩) rfl _ _ 22 rfl (w.heap.size + 2) 43 i0 (.int .u32 0) 1 4 Tryd.underlying22 hi hz0 hz1 hz2 rfl (by decide) (.slice (some ⟨w.heap.size + 1 + 1, 0, none⟩) 0 0) 0 [] (by rfl) (fresh_at _ _ ((w.alloc (.cells #[.bool na, .slice (some ad) la ca] 24)).alloc (.cells #[.bool false, .slice none 0 0] 24)) (by simp) (by simp)) ad la ca (lims A) (by rfl) (by rw [lims_len, HL.out, Nat.mul_one]) (HCC.out) (lims_one A) (by unfold maxLen; omega) (by omega) (by first | omega | (simp; done) | (simp; omega)) ?_); intro v1 w5 hown5 hgrow5 _)
    | (at_builtin; refine wpList_append_own _ (o := ⟨some 9, _, _, _, _, _⟩) rfl _ _ 22 rfl (w.heap.size + 2) 43 i0 (.int .u32 0) 1 4 Tryd.underlying22 hi hz0 hz1 hz2 rfl (by decide) v1 (0 + la) ([] ++ lims A) (by rfl) (World.ownsRow.alloc hown5 _) ⟨w5.heap.size, 0, none⟩ 3 3 [.int .u32 77, .int .u32 77, .int .u32 77] (by rfl) rfl (marks_cells w5) marks_one (by unfold maxLen; omega) (by omega) (by have := hgrow5.size; simp at this ⊢; omega) ?_; intro v2 w6 hown6 hgrow6 _))
  obtain ⟨W, hW⟩ : ∃ W, W = (w.alloc (.cells #[.bool na, .slice (some ad) la ca] 24)).alloc (.cells #[.bool false, .slice none 0 0] 24) := ⟨_, rfl⟩
  obtain ⟨hpx, hpy, hzb, hzl⟩ := new2 hW
  have hWs : Hid (W.heap.size = w.heap.size + 2) := hid (by rw [hW]; simp)
  rw [← hW] at hgrow5
  clear hW
  have hb5 : Below (w.heap.size + 2) W w5 := ((Below.refl _ _).alloc (Nat.le_of_eq hWs.out.symm) _).grown hgrow5 (by simp; have := hWs.out; omega) (by intro k hk; simp [Value.ownBlock] at hk; omega)
  have hs5 := hb5.size
  have hb6 : Below (w.heap.size + 2) W w6 := (hb5.alloc (by omega) _).grown hgrow6 (by simp; omega) (by
    intro k hk
    rcases hown5.2 with ⟨rfl, -⟩ | ⟨g', cap, cur, rfl, hB, -⟩
    · simp [Value.ownBlock] at hk
    · simp [Value.ownBlock] at hk; omega)
  have hs6 := hb6.size
  clear hgrow5 hgrow6 hown5 HCC
  have hG : Grow (w.heap.size + 2) w6 v2 (mk3 A) := by
    unfold Grow; rw [mk3_len, HL.out, ← lims777]; simpa using hown6
  have hg' := hG
  rcases hg'.2 with ⟨_, h0⟩ | ⟨g, cap, cur, rfl, hgB, -, hnc, -⟩
  · rw [mk3_len] at h0; omega
  rw [mk3_len, HL.out] at hnc
  rw [mk3_len, HL.out] at hG
  have hlc : la ≤ cap := by omega
  have px := (hb6.block _ (by omega)).trans hpx
  have py := (hb6.block _ (by omega)).trans hpy
  obtain ⟨x0, x1, _, _⟩ := two_cells px
  obtain ⟨y0, y1, q0, q1⟩ := two_cells py
  have HPY := hid py
  have HB := hid (hzb.trans (Below.mono hb6 (by omega)))
  clear px py hpx hpy hown6 hg' hb5 hb6 hzb hs5 hzl
  go_region_held3 (fun w' => w'.cell? ⟨w.heap.size, 0, none⟩ = some (.bool na) ∧ w'.cell? ⟨w.heap.size, 1, none⟩ = some (.slice (some ad) la ca)) (first | go_keep | (refine ⟨?_, ?_⟩ <;> first | assumption | (simp [go_sem]; assumption)))
    (fail)
  go_wp2
  refine bodyPost_ret (v := .agg #[.bool na, .slice (some ⟨g, 0, none⟩) la cap]) (by simp [results, Tryd.results18, go_sem, y0, y1]) rfl ⟨g, cap, rfl, ?_, ?_⟩
  · have hne : ∀ {p : Addr}, p.block = w.heap.size + 1 → (Value.slice (some ⟨g, 0, none⟩) (la + 3) cap).ownBlock ≠ some p.block := by
      intro p hp e
      simp only [Value.ownBlock, Option.some.injEq] at e
      omega
    exact (Lent.mk (((hG.set (hne rfl) _).set (hne rfl) _).base (by omega)) HL.out).keep ((Below.refl _ _).drew)
  · exact ((HB.out.setCell (by simp) _).setCell (by simp) _).drew

set_option maxRecDepth 100000 in
set_option maxHeartbeats 2000000 in
theorem lentR_none (na : Bool) (w : World) :
    Calls Tryd.prog 18 #[.agg #[.bool na, .slice none 0 0]] w fun e w' => ∃ g cap, e = .returned (.agg #[.bool na, .slice (some ⟨g, 0, none⟩) 0 cap]) ∧ Lent w.heap.size w' g 0 cap [] ∧ Below w.heap.size w w' := by
  obtain ⟨i0, hi, hz0, hz1, hz2⟩ := info_parts Tryd.info43
  go_enter Tryd.func18, Tryd.ntmps18
  go_wp2_with (first
    | (at_builtin; refine wpList_append_own_none (o := ⟨some 7, _, _, _, _, _⟩) rfl _ _ 22 rfl (w.heap.size + 2) 43 i0 1 Tryd.underlying22 hi (.slice (some ⟨w.heap.size + 1 + 1, 0, none⟩) 0 0) 0 [] (by rfl) (fresh_at _ _ ((w.alloc (.cells #[.bool na, .slice none 0 0] 24)).alloc (.cells #[.bool false, .slice none 0 0] 24)) (by simp) (by simp)) (by rfl) ?_)
    | (at_builtin; refine wpList_append_own _ (o := ⟨some 9, _, _, _, _, _⟩) rfl _ _ 22 rfl (w.heap.size + 2) 43 i0 (.int .u32 0) 1 4 Tryd.underlying22 hi hz0 hz1 hz2 rfl (by decide) (.slice (some ⟨w.heap.size + 1 + 1, 0, none⟩) 0 0) 0 [] (by rfl) (World.ownsRow.alloc (fresh_at _ _ ((w.alloc (.cells #[.bool na, .slice none 0 0] 24)).alloc (.cells #[.bool false, .slice none 0 0] 24)) (by simp) (by simp)) _) ⟨w.heap.size + 1 + 1 + 1, 0, none⟩ 3 3 [.int .u32 77, .int .u32 77, .int .u32 77] (by rfl) rfl (marks_at _ _ (by simp)) marks_one (by unfold maxLen; omega) (by omega) (by first | omega | (simp; done) | (simp; omega)) ?_; intro v2 w6 hown6 hgrow6 _))
  obtain ⟨W, hW⟩ : ∃ W, W = (w.alloc (.cells #[.bool na, .slice none 0 0] 24)).alloc (.cells #[.bool false, .slice none 0 0] 24) := ⟨_, rfl⟩
  obtain ⟨hpx, hpy, hzb, hzl⟩ := new2 hW
  have hWs : Hid (W.heap.size = w.heap.size + 2) := hid (by rw [hW]; simp)
  rw [← hW] at hgrow6
  clear hW
  have hb6 : Below (w.heap.size + 2) W w6 := (((Below.refl _ _).alloc (Nat.le_of_eq hWs.out.symm) _).alloc (by simp; have := hWs.out; omega) _).grown hgrow6 (by simp; have := hWs.out; omega) (by intro k hk; simp [Value.ownBlock] at hk; omega)
  have hs6 := hb6.size
  clear hgrow6
  have hG : Grow (w.heap.size + 2) w6 v2 (mk3 []) := by
    unfold Grow; rw [mk3_len]; exact hown6
  have hg' := hG
  have HL : Hid (([] : List Nat).length = 0) := hid rfl
  have la : Nat := 0
  rcases hg'.2 with ⟨_, h0⟩ | ⟨g, cap, cur, rfl, hgB, -, hnc, -⟩
  · rw [mk3_len] at h0; simp at h0
  rw [mk3_len, HL.out] at hnc
  rw [mk3_len, HL.out] at hG
  have hlc : 0 ≤ cap := by omega
  have px := (hb6.block _ (by omega)).trans hpx
  have py := (hb6.block _ (by omega)).trans hpy
  obtain ⟨x0, x1, _, _⟩ := two_cells px
  obtain ⟨y0, y1, q0, q1⟩ := two_cells py
  have HPY := hid py
  have HB := hid (hzb.trans (Below.mono hb6 (by omega)))
  clear px py hpx hpy hown6 hg' hb6 hzb hzl
  go_region_held3 (fun w' => w'.cell? ⟨w.heap.size, 0, none⟩ = some (.bool na) ∧ w'.cell? ⟨w.heap.size, 1, none⟩ = some (.slice none 0 0)) (first | go_keep | (refine ⟨?_, ?_⟩ <;> first | assumption | (simp [go_sem]; assumption)))
    (fail)
  go_wp2
  refine bodyPost_ret (v := .agg #[.bool na, .slice (some ⟨g, 0, none⟩) 0 cap]) (by simp [results, Tryd.results18, go_sem, y0, y1]) rfl ⟨g, cap, rfl, ?_, ?_⟩
  · have hne : ∀ {p : Addr}, p.block = w.heap.size + 1 → (Value.slice (some ⟨g, 0, none⟩) (0 + 3) cap).ownBlock ≠ some p.block := by
      intro p hp e
      simp only [Value.ownBlock, Option.some.injEq] at e
      omega
    exact (Lent.mk (((hG.set (hne rfl) _).set (hne rfl) _).base (by omega)) HL.out).keep ((Below.refl _ _).drew)
  · exact ((HB.out.setCell (by simp) _).setCell (by simp) _).drew

theorem lentR (na : Bool) (aa : Option Addr) (la ca : Nat) (A : List Nat) (w : World) (hA : Rd w aa la ca A) (hnil : aa = none → ca = 0) (hla : la ≤ 1073741824) :
    Calls Tryd.prog 18 #[.agg #[.bool na, .slice aa la ca]] w fun e w' => ∃ g cap, e = .returned (.agg #[.bool na, .slice (some ⟨g, 0, none⟩) la cap]) ∧ Lent w.heap.size w' g la cap A ∧ Below w.heap.size w w' := by
  cases aa with
  | none =>
    obtain rfl := hnil rfl
    have h0 : la = 0 := by
      rcases Nat.eq_zero_or_pos la with h | h
      · exact h
      · obtain ⟨b, off, e, _⟩ := hA.cells h; cases e
    subst h0
    have e : A = [] := List.eq_nil_of_length_eq_zero hA.size
    subst e
    exact lentR_none na w
  | some a =>
    refine lentR_some na a la ca A w hA (hid fun j u hj => ?_) hla
    rcases Nat.eq_zero_or_pos la with h | h
    · have e : A = [] := List.eq_nil_of_length_eq_zero (by rw [hA.size, h])
      subst e; simp [lims] at hj
    · obtain ⟨b, off, e, hc⟩ := hA.cells h
      obtain rfl := Option.some.inj e
      exact lims_news hc la (Nat.le_refl _) hA.size j u (by rwa [List.take_of_length_le (Nat.le_of_eq hA.size)])
end Go.Proofs.YtldafoojkimdeaaDoor
