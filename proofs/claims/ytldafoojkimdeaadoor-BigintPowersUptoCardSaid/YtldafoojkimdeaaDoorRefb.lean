/- Walks of the law's helpers lent and held. No condition but those that each theorem names. Walk of the law's helper held. No condition but those that the theorem names. What the laws over the document's answer share: normal integers that are the same; boxes of integers, of lent integers and of the document's integers. No condition but those that each theorem names. -/
import Derived.Test.YtldafoojkimdeaaDoorRefa
import Derived.Laws.AppendOwnNone
import Derived.Test.YtldafoojkimdeaaDoorW35
import Derived.Test.YtldafoojkimdeaaDoorW10
namespace Go.Proofs.YtldafoojkimdeaaDoor
open Go.RowKit Lm

theorem Grow.put {B : Nat} {w : World} {g cap : Nat} {C : List Nat} (h : Grow B w (.slice (some ⟨g, 0, none⟩) C.length cap) C) (k : Nat) {z : Int} (x : Nat) (hz : z = (x : Int)) :
    Grow B (w.setCell ⟨g, k, none⟩ (.int .u32 z)) (.slice (some ⟨g, 0, none⟩) C.length cap) (C.set k x) := by
  subst hz
  unfold Grow at *
  rw [List.length_set]
  rcases h.2 with ⟨h', _⟩ | ⟨g', cap', cur, h', hb, hg, hnc, hcm, hcs, htk⟩
  · simp at h'
  · simp only [Value.slice.injEq, Option.some.injEq, Addr.mk.injEq, and_true, true_and] at h'
    obtain ⟨rfl, rfl⟩ := h'
    refine ⟨by simp [lims_len], .inr ⟨g, cap, cur.setIfInBounds k (.int .u32 (x : Int)), rfl, hb, heap_setCell_same w g k cur 43 _ hg, hnc, hcm, by simpa using hcs, ?_⟩⟩
    rw [Array.toList_setIfInBounds, List.take_set, htk, lims_set _ _ _ rfl]

/-- The owner's marks. -/
def mk3 (A : List Nat) : List Nat := A ++ [77, 77, 77]
theorem mk3_len (A : List Nat) : (mk3 A).length = A.length + 3 := by simp [mk3]
theorem mk3_low (A : List Nat) (k : Nat) (h : k < A.length) : dg (mk3 A) k = dg A k := dg_append_left _ _ _ h
theorem mk3_high (A : List Nat) (k : Nat) (h : A.length ≤ k) (h3 : k < A.length + 3) : dg (mk3 A) k = 77 := by
  unfold mk3
  rw [dg_append_right _ _ _ h]
  rcases (show k - A.length = 0 ∨ k - A.length = 1 ∨ k - A.length = 2 by omega) with e | e | e <;> rw [e] <;> rfl

/-- An integer lent: the limbs lie in a block of the call's own, marks behind them. -/
structure Lent (B : Nat) (w : World) (g la cap : Nat) (A : List Nat) : Prop where
  own : Grow B w (.slice (some ⟨g, 0, none⟩) (la + 3) cap) (mk3 A)
  size : A.length = la
theorem Lent.keep {B : Nat} {w w' : World} {g la cap : Nat} {A : List Nat} (h : Lent B w g la cap A) (hb : Below w.heap.size w w') : Lent B w' g la cap A :=
  ⟨World.ownsRow.kept h.own (row := none) ⟨hb.os, hb.tape, hb.output, hb.size, fun k hk _ => hb.block k hk⟩ (by simp [Value.ownBlock]), h.size⟩
theorem Lent.rd {B : Nat} {w : World} {g la cap : Nat} {A : List Nat} (h : Lent B w g la cap A) (ho : Ok A) (hl : la ≤ 4294967296) : Rd w (some ⟨g, 0, none⟩) la cap A := by
  have hk : Ok (mk3 A) := ho.append (((Ok.nil.cons (by omega)).cons (by omega)).cons (by omega))
  obtain ⟨ao, cp, e, hR⟩ := h.own.rd hk (by rw [mk3_len, h.size]; omega)
  simp only [Value.slice.injEq] at e
  obtain ⟨rfl, e2, rfl⟩ := e
  have := hR.take (n := la) (by omega)
  rwa [show (mk3 A).take la = A by unfold mk3; rw [← h.size]; simp] at this

theorem Lent.keepB {B : Nat} {w w' : World} {g la cap : Nat} {A : List Nat} (h : Lent B w g la cap A) (hb : Below B w w') (hg : w'.heap[g]? = w.heap[g]?) : Lent B w' g la cap A := by
  refine ⟨?_, h.size⟩
  have h1 := h.own
  unfold Grow at *
  rcases h1.2 with ⟨h', _⟩ | ⟨g', cap', cur, h', hb', hg', r⟩
  · simp at h'
  · have h2 := h'
    simp only [Value.slice.injEq, Option.some.injEq, Addr.mk.injEq, and_true, true_and] at h2
    obtain ⟨rfl, _⟩ := h2
    exact ⟨h1.1, .inr ⟨g, cap', cur, h', hb', by rw [hg]; exact hg', r⟩⟩

theorem lims777 (A : List Nat) : lims A ++ [.int .u32 77, .int .u32 77, .int .u32 77] = lims (mk3 A) := by simp [lims, mk3]

theorem marks_cells (w : World) : ∀ j u, ([.int .u32 77, .int .u32 77, .int .u32 77] : List Value)[j]? = some u → (w.alloc (.cells #[.int .u32 77, .int .u32 77, .int .u32 77] 43)).cell? ((⟨w.heap.size, 0, none⟩ : Addr).add j) = some u := by
  intro j u hj
  match j, hj with
  | 0, hj => simp at hj; subst hj; simp [Addr.add]
  | 1, hj => simp at hj; subst hj; simp [Addr.add]
  | 2, hj => simp at hj; subst hj; simp [Addr.add]
  | j + 3, hj => simp at hj
theorem marks_at (g : Nat) (w : World) (hg : w.heap.size = g) : ∀ j u, ([.int .u32 77, .int .u32 77, .int .u32 77] : List Value)[j]? = some u → (w.alloc (.cells #[.int .u32 77, .int .u32 77, .int .u32 77] 43)).cell? ((⟨g, 0, none⟩ : Addr).add j) = some u := by
  subst hg; exact marks_cells w
theorem marks_one : ∀ u ∈ ([.int .u32 77, .int .u32 77, .int .u32 77] : List Value), u.oneCell' = true := by
  intro u hu; simp at hu; subst hu; rfl
theorem fresh_made (B : Nat) (w : World) (hB : B ≤ w.heap.size) : (w.alloc (.cells #[] 43)).ownsRow B 43 1 (.slice (some ⟨w.heap.size, 0, none⟩) 0 0) 0 [] :=
  World.ownsRow_made (base := B) (e := 43) (size := 1) w #[] 0 hB (by unfold maxLen; omega) rfl

theorem fresh_at (B g : Nat) (w : World) (hB : B ≤ w.heap.size) (hg : w.heap.size = g) : (w.alloc (.cells #[] 43)).ownsRow B 43 1 (.slice (some ⟨g, 0, none⟩) 0 0) 0 [] := by
  subst hg; exact fresh_made B w hB

set_option maxRecDepth 100000 in
set_option maxHeartbeats 2000000 in
theorem lentR_some (na : Bool) (ad : Addr) (la ca : Nat) (A : List Nat) (w : World) (hA : Rd w (some ad) la ca A) (hcell : Hid (∀ j u, (lims A)[j]? = some u → w.cell? (ad.add j) = some u)) (hla : la ≤ 1073741824) :
    Calls Tryd.prog 18 #[.agg #[.bool na, .slice (some ad) la ca]] w fun e w' => ∃ g cap, e = .returned (.agg #[.bool na, .slice (some ⟨g, 0, none⟩) la cap]) ∧ Lent w.heap.size w' g la cap A ∧ Below w.heap.size w w' := by
  obtain ⟨i0, hi, hz0, hz1, hz2⟩ := info_parts Tryd.info43
  have HL := hid hA.size
  have hzb : ∀ n1 n2, Below w.heap.size w (((w.alloc (.cells #[.bool na, .slice (some ad) la ca] 24)).alloc (.cells n1 24)).alloc (.cells n2 43)) :=
    fun _ _ => (((Below.refl _ _).alloc (Nat.le_refl _) _).alloc (by simp) _).alloc (by simp; omega) _
  have HCC : Hid (∀ (j : Nat) u, (lims A)[j]? = some u → (((w.alloc (.cells #[.bool na, .slice (some ad) la ca] 24)).alloc (.cells #[.bool false, .slice none 0 0] 24)).alloc (.cells #[] 43)).cell? (ad.add j) = some u) := hid (fun j u hj => by
    exact cell_keep (hcell.out j u hj) (hzb _ _))
  clear hzb
  go_enter Tryd.func18, Tryd.ntmps18
  go_wp2_with (first
    | (at_builtin; (refine wpList_append_own _ (o := ⟨some 7, _, _, _, _, _⟩) rfl _ _ 22 rfl (w.heap.size + 2) 43 i0 (.int .u32 0) 1 4 Tryd.underlying22 hi hz0 hz1 hz2 rfl (by decide) (.slice (some ⟨w.heap.size + 1 + 1, 0, none⟩) 0 0) 0 [] (by rfl) (fresh_at _ _ ((w.alloc (.cells #[.bool na, .slice (some ad) la ca] 24)).alloc (.cells #[.bool false, .slice none 0 0] 24)) (by simp) (by simp)) ad la ca (lims A) (by rfl) (by rw [lims_len, HL.out, Nat.mul_one]) (HCC.out) (lims_one A) (by unfold maxLen; omega) (by omega) (by first | omega | (simp; done) | (simp; omega)) ?_); intro v1 w5 hown5 hgrow5 _)
    | (at_builtin; refine wpList_append_own _ (o := ⟨some 9, _, _, _, _, _⟩) rfl _ _ 22 rfl (w.heap.size + 2) 43 i0 (.int .u32 0) 1 4 Tryd.underlying22 hi hz0 hz1 hz2 rfl (by decide) v1 (0 + la) ([] ++ lims A) (by rfl) (World.ownsRow.alloc hown5 _) ⟨w5.heap.size, 0, none⟩ 3 3 [.int .u32 77, .int .u32 77, .int .u32 77] (by rfl) rfl (marks_cells w5) marks_one (by unfold maxLen; omega) (by omega) (by have := hgrow5.size; simp at this ⊢; omega) ?_; intro v2 w6 hown6 hgrow6 _))
  obtain ⟨W, hW⟩ : ∃ W, W = (w.alloc (.cells #[.bool na, .slice (some ad) la ca] 24)).alloc (.cells #[.bool false, .slice none 0 0] 24) := ⟨_, rfl⟩
  obtain ⟨hpx, hpy, hzb, hzl⟩ := new2 hW
  have hWs : Hid (W.heap.size = w.heap.size + 2) := hid (by rw [hW]; simp)
  rw [← hW] at hgrow5
  clear hW
  have hb5 : Below (w.heap.size + 2) W w5 := ((Below.refl _ _).alloc (Nat.le_of_eq hWs.out.symm) _).grown hgrow5 (by simp; have := hWs.out; omega) (by intro k hk; simp [Value.ownBlock] at hk; omega)
  have hs5 := hb5.size
  have hb6 : Below (w.heap.size + 2) W w6 := (hb5.alloc (by omega) _).grown hgrow6 (by simp; omega) (by
    intro k hk
    rcases hown5.2 with ⟨rfl, -⟩ | ⟨g', cap, cur, rfl, hB, -⟩
    · simp [Value.ownBlock] at hk
    · simp [Value.ownBlock] at hk; omega)
  have hs6 := hb6.size
  clear hgrow5 hgrow6 hown5 HCC
  have hG : Grow (w.heap.size + 2) w6 v2 (mk3 A) := by
    unfold Grow; rw [mk3_len, HL.out, ← lims777]; simpa using hown6
  have hg' := hG
  rcases hg'.2 with ⟨_, h0⟩ | ⟨g, cap, cur, rfl, hgB, -, hnc, -⟩
  · rw [mk3_len] at h0; omega
  rw [mk3_len, HL.out] at hnc
  rw [mk3_len, HL.out] at hG
  have hlc : la ≤ cap := by omega
  have px := (hb6.block _ (by omega)).trans hpx
  have py := (hb6.block _ (by omega)).trans hpy
  obtain ⟨x0, x1, _, _⟩ := two_cells px
  obtain ⟨y0, y1, q0, q1⟩ := two_cells py
  have HPY := hid py
  have HB := hid (hzb.trans (Below.mono hb6 (by omega)))
  clear px py hpx hpy hown6 hg' hb5 hb6 hzb hs5 hzl
  go_region_held3 (fun w' => w'.cell? ⟨w.heap.size, 0, none⟩ = some (.bool na) ∧ w'.cell? ⟨w.heap.size, 1, none⟩ = some (.slice (some ad) la ca)) (first | go_keep | (refine ⟨?_, ?_⟩ <;> first | assumption | (simp [go_sem]; assumption)))
    (fail)
  go_wp2
  refine bodyPost_ret (v := .agg #[.bool na, .slice (some ⟨g, 0, none⟩) la cap]) (by simp [results, Tryd.results18, go_sem, y0, y1]) rfl ⟨g, cap, rfl, ?_, ?_⟩
  · have hne : ∀ {p : Addr}, p.block = w.heap.size + 1 → (Value.slice (some ⟨g, 0, none⟩) (la + 3) cap).ownBlock ≠ some p.block := by
      intro p hp e
      simp only [Value.ownBlock, Option.some.injEq] at e
      omega
    exact (Lent.mk (((hG.set (hne rfl) _).set (hne rfl) _).base (by omega)) HL.out).keep ((Below.refl _ _).drew)
  · exact ((HB.out.setCell (by simp) _).setCell (by simp) _).drew

set_option maxRecDepth 100000 in
set_option maxHeartbeats 2000000 in
theorem lentR_none (na : Bool) (w : World) :
    Calls Tryd.prog 18 #[.agg #[.bool na, .slice none 0 0]] w fun e w' => ∃ g cap, e = .returned (.agg #[.bool na, .slice (some ⟨g, 0, none⟩) 0 cap]) ∧ Lent w.heap.size w' g 0 cap [] ∧ Below w.heap.size w w' := by
  obtain ⟨i0, hi, hz0, hz1, hz2⟩ := info_parts Tryd.info43
  go_enter Tryd.func18, Tryd.ntmps18
  go_wp2_with (first
    | (at_builtin; refine wpList_append_own_none (o := ⟨some 7, _, _, _, _, _⟩) rfl _ _ 22 rfl (w.heap.size + 2) 43 i0 1 Tryd.underlying22 hi (.slice (some ⟨w.heap.size + 1 + 1, 0, none⟩) 0 0) 0 [] (by rfl) (fresh_at _ _ ((w.alloc (.cells #[.bool na, .slice none 0 0] 24)).alloc (.cells #[.bool false, .slice none 0 0] 24)) (by simp) (by simp)) (by rfl) ?_)
    | (at_builtin; refine wpList_append_own _ (o := ⟨some 9, _, _, _, _, _⟩) rfl _ _ 22 rfl (w.heap.size + 2) 43 i0 (.int .u32 0) 1 4 Tryd.underlying22 hi hz0 hz1 hz2 rfl (by decide) (.slice (some ⟨w.heap.size + 1 + 1, 0, none⟩) 0 0) 0 [] (by rfl) (World.ownsRow.alloc (fresh_at _ _ ((w.alloc (.cells #[.bool na, .slice none 0 0] 24)).alloc (.cells #[.bool false, .slice none 0 0] 24)) (by simp) (by simp)) _) ⟨w.heap.size + 1 + 1 + 1, 0, none⟩ 3 3 [.int .u32 77, .int .u32 77, .int .u32 77] (by rfl) rfl (marks_at _ _ (by simp)) marks_one (by unfold maxLen; omega) (by omega) (by first | omega | (simp; done) | (simp; omega)) ?_; intro v2 w6 hown6 hgrow6 _))
  obtain ⟨W, hW⟩ : ∃ W, W = (w.alloc (.cells #[.bool na, .slice none 0 0] 24)).alloc (.cells #[.bool false, .slice none 0 0] 24) := ⟨_, rfl⟩
  obtain ⟨hpx, hpy, hzb, hzl⟩ := new2 hW
  have hWs : Hid (W.heap.size = w.heap.size + 2) := hid (by rw [hW]; simp)
  rw [← hW] at hgrow6
  clear hW
  have hb6 : Below (w.heap.size + 2) W w6 := (((Below.refl _ _).alloc (Nat.le_of_eq hWs.out.symm) _).alloc (by simp; have := hWs.out; omega) _).grown hgrow6 (by simp; have := hWs.out; omega) (by intro k hk; simp [Value.ownBlock] at hk; omega)
  have hs6 := hb6.size
  clear hgrow6
  have hG : Grow (w.heap.size + 2) w6 v2 (mk3 []) := by
    unfold Grow; rw [mk3_len]; exact hown6
  have hg' := hG
  have HL : Hid (([] : List Nat).length = 0) := hid rfl
  have la : Nat := 0
  rcases hg'.2 with ⟨_, h0⟩ | ⟨g, cap, cur, rfl, hgB, -, hnc, -⟩
  · rw [mk3_len] at h0; simp at h0
  rw [mk3_len, HL.out] at hnc
  rw [mk3_len, HL.out] at hG
  have hlc : 0 ≤ cap := by omega
  have px := (hb6.block _ (by omega)).trans hpx
  have py := (hb6.block _ (by omega)).trans hpy
  obtain ⟨x0, x1, _, _⟩ := two_cells px
  obtain ⟨y0, y1, q0, q1⟩ := two_cells py
  have HPY := hid py
  have HB := hid (hzb.trans (Below.mono hb6 (by omega)))
  clear px py hpx hpy hown6 hg' hb6 hzb hzl
  go_region_held3 (fun w' => w'.cell? ⟨w.heap.size, 0, none⟩ = some (.bool na) ∧ w'.cell? ⟨w.heap.size, 1, none⟩ = some (.slice none 0 0)) (first | go_keep | (refine ⟨?_, ?_⟩ <;> first | assumption | (simp [go_sem]; assumption)))
    (fail)
  go_wp2
  refine bodyPost_ret (v := .agg #[.bool na, .slice (some ⟨g, 0, none⟩) 0 cap]) (by simp [results, Tryd.results18, go_sem, y0, y1]) rfl ⟨g, cap, rfl, ?_, ?_⟩
  · have hne : ∀ {p : Addr}, p.block = w.heap.size + 1 → (Value.slice (some ⟨g, 0, none⟩) (0 + 3) cap).ownBlock ≠ some p.block := by
      intro p hp e
      simp only [Value.ownBlock, Option.some.injEq] at e
      omega
    exact (Lent.mk (((hG.set (hne rfl) _).set (hne rfl) _).base (by omega)) HL.out).keep ((Below.refl _ _).drew)
  · exact ((HB.out.setCell (by simp) _).setCell (by simp) _).drew

theorem lentR (na : Bool) (aa : Option Addr) (la ca : Nat) (A : List Nat) (w : World) (hA : Rd w aa la ca A) (hnil : aa = none → ca = 0) (hla : la ≤ 1073741824) :
    Calls Tryd.prog 18 #[.agg #[.bool na, .slice aa la ca]] w fun e w' => ∃ g cap, e = .returned (.agg #[.bool na, .slice (some ⟨g, 0, none⟩) la cap]) ∧ Lent w.heap.size w' g la cap A ∧ Below w.heap.size w w' := by
  cases aa with
  | none =>
    obtain rfl := hnil rfl
    have h0 : la = 0 := by
      rcases Nat.eq_zero_or_pos la with h | h
      · exact h
      · obtain ⟨b, off, e, _⟩ := hA.cells h; cases e
    subst h0
    have e : A = [] := List.eq_nil_of_length_eq_zero hA.size
    subst e
    exact lentR_none na w
  | some a =>
    refine lentR_some na a la ca A w hA (hid fun j u hj => ?_) hla
    rcases Nat.eq_zero_or_pos la with h | h
    · have e : A = [] := List.eq_nil_of_length_eq_zero (by rw [hA.size, h])
      subst e; simp [lims] at hj
    · obtain ⟨b, off, e, hc⟩ := hA.cells h
      obtain rfl := Option.some.inj e
      exact lims_news hc la (Nat.le_refl _) hA.size j u (by rwa [List.take_of_length_le (Nat.le_of_eq hA.size)])
end Go.Proofs.YtldafoojkimdeaaDoor

namespace Go.Proofs.YtldafoojkimdeaaDoor
open Go.RowKit Lm

theorem Grow.cells {B : Nat} {w : World} {g n cap : Nat} {C : List Nat} (h : Grow B w (.slice (some ⟨g, 0, none⟩) n cap) C) : B ≤ g ∧ n = C.length ∧ n ≤ cap ∧ (∀ k, k < C.length → w.cell? ⟨g, k, none⟩ = some (.int .u32 (dg C k : Int))) ∧ (∀ k, w.frozen? ⟨g, k, none⟩ = false) := by
  rcases h.2 with ⟨h', _⟩ | ⟨g', cap', cur, h', hb, hg, hnc, hcm, hcs, htk⟩
  · simp at h'
  · simp only [Value.slice.injEq, Option.some.injEq, Addr.mk.injEq, and_true, true_and] at h'
    obtain ⟨rfl, rfl, rfl⟩ := h'
    refine ⟨hb, rfl, hnc, fun k hk => ?_, fun k => by simp [World.frozen?, hg]⟩
    have h1 := lims_get C k hk
    rw [← htk, List.getElem?_take_of_lt (by omega)] at h1
    simpa [World.cell?, hg] using h1

theorem Grow.keepw {B : Nat} {w w' : World} {g n cap : Nat} {C : List Nat} (h : Grow B w (.slice (some ⟨g, 0, none⟩) n cap) C) (hb : Below w.heap.size w w') : Grow B w' (.slice (some ⟨g, 0, none⟩) n cap) C :=
  World.ownsRow.kept h (row := none) ⟨hb.os, hb.tape, hb.output, hb.size, fun k hk _ => hb.block k hk⟩ (by simp [Value.ownBlock])
theorem Grow.mark {B : Nat} {w : World} {g n cap : Nat} {C : List Nat} (h : Grow B w (.slice (some ⟨g, 0, none⟩) n cap) C) (hn : C.length = n) (k x : Nat) {z : Int} (hz : z = (x : Int)) : Grow B (w.setCell ⟨g, k, none⟩ (.int .u32 z)) (.slice (some ⟨g, 0, none⟩) n cap) (C.set k x) := by
  subst hn; exact h.put k x hz

set_option maxRecDepth 100000 in
set_option maxHeartbeats 2000000 in
theorem heldR (na : Bool) (g cap : Nat) (aa : Option Addr) (la ca : Nat) (A : List Nat) (w0 w : World) (hA0 : Rd w0 aa la ca A) (hb0 : Below w0.heap.size w0 w) (hT : Lent w0.heap.size w g la cap A) (hla : la ≤ 1073741824) :
    Calls Tryd.prog 33 #[.agg #[.bool na, .slice (some ⟨g, 0, none⟩) la cap], .agg #[.bool na, .slice aa la ca]] w fun e w' => e = .returned (.bool true) ∧ Below w0.heap.size w0 w' ∧ (∀ b, b < w.heap.size → b ≠ g → w'.heap[b]? = w.heap[b]?) := by
  have hA := hA0.keep hb0
  have HL := hid hT.size
  obtain ⟨hgB, hn3, hcap, _, _⟩ := hT.own.cells
  have hgw : g < w.heap.size := by
    rcases hT.own.2 with ⟨h', _⟩ | ⟨g', cap', cur, h', hb, hg, _⟩
    · simp at h'
    · simp only [Value.slice.injEq, Option.some.injEq, Addr.mk.injEq, and_true, true_and] at h'
      obtain ⟨rfl, _⟩ := h'
      exact lt_of_block hg
  have HN := hid hn3
  clear hn3
  have heq : (na == na) = true := by simp
  go_enter Tryd.func33, Tryd.ntmps33
  go_wp2_with fail
  obtain ⟨wz, hz⟩ : ∃ wz, wz = (w.alloc (.cells #[.bool na, .slice (some ⟨g, 0, none⟩) la cap] 24)).alloc (.cells #[.bool na, .slice aa la ca] 24) := ⟨_, rfl⟩
  obtain ⟨hpx, hpy, hzb, hzl⟩ := new2 hz
  rw [← hz]
  clear hz
  have hTz := hT.keep hzb
  have hbz0 := hb0.trans (Below.mono hzb hb0.size)
  have HX := hid hpx
  have HY := hid hpy
  clear hpx hpy hT hA
  go_loopw [6, 7] (fun o i wr => ∃ (k : Nat) (C : List Nat), k ≤ la + 3 ∧ o = .bool true ∧ i = .int .i64 (k : Int) ∧ Hid (C.length = la + 3) ∧ Grow w0.heap.size wr (.slice (some ⟨g, 0, none⟩) (la + 3) cap) C ∧ Hid (∀ j, k ≤ j → dg C j = dg (mk3 A) j) ∧ Hid (∀ b, b < wz.heap.size → b ≠ g → wr.heap[b]? = wz.heap[b]?) ∧ Below w0.heap.size w0 wr) (fun _ i _ => la + 3 - (intOf i).toNat)
  case atStart => exact ⟨0, mk3 A, by omega, rfl, rfl, hid (by rw [mk3_len, HL.out]), hTz.own, hid (fun _ _ => rfl), hid (fun _ _ _ => rfl), hbz0⟩
  case round =>
    obtain ⟨k, C, hk, rfl, rfl, hC, hG, hsm, hst, hb⟩ := hrel
    obtain ⟨_, _, _, hcs, hfs⟩ := hG.cells
    obtain ⟨x0, x1, _, _⟩ := two_cells ((hst.out _ (by omega) (by omega)).trans HX.out)
    obtain ⟨y0, y1, _, _⟩ := two_cells ((hst.out _ (by omega) (by omega)).trans HY.out)
    by_cases hgo : k < la + 3
    · have hck := hcs k (by rw [hC.out]; exact hgo)
      have hfk := hfs k
      clear hcs hfs
      by_cases hlow : k < la
      · obtain ⟨b, off, rfl, hc⟩ := (hA0.keep hb).cells (by omega)
        have hcm := hc k hlow
        clear hc
        have hd1 : decide ((k : Int) < (la : Int)) = true := by simp; omega
        have he : ((dg C k : Int) != (dg A k : Int)) = false := by
          rw [hsm.out k (Nat.le_refl _), mk3_low A k (by rw [HL.out]; exact hlow)]; simp
        have hd2 : decide ((la : Int) ≤ (k : Int)) = false := by simp; omega
        have hd3 : decide (k < la) = true := decide_eq_true hlow
        have hd4 : decide (la ≤ k) = false := decide_eq_false (by omega)
        go_wp2
        go_quiet (fail)
        go_wp2
        go_roundw
        case rel =>
          refine ⟨k + 1, C.set k 78, by omega, rfl, by go_num, hid (by rw [List.length_set, hC.out]), (hG.keepw (bdrew (Below.refl _ _) _)).mark hC.out k 78 rfl, hid (fun j hj => ?_), hid (fun b h1 h2 => ?_), (bdrew hb _).setCell (by simp; omega) _⟩
          · rw [dg_set_ne _ _ _ _ (by omega)]; exact hsm.out j (by omega)
          · rw [Below.heap_setCell _ _ _ _ (by simpa using h2)]; exact hst.out b h1 h2
        case measure => simp [intOf]; omega
      · have hd1 : decide ((k : Int) < (la : Int)) = false := by simp; omega
        have he : ((dg C k : Int) != 77) = false := by
          rw [hsm.out k (Nat.le_refl _), mk3_high A k (by rw [HL.out]; omega) (by rw [HL.out]; omega)]; rfl
        have hd2 : decide ((la : Int) ≤ (k : Int)) = true := by simp; omega
        have hd3 : decide (k < la) = false := decide_eq_false hlow
        have hd4 : decide (la ≤ k) = true := decide_eq_true (by omega)
        go_wp2
        go_quiet (fail)
        go_wp2
        go_roundw
        case rel =>
          refine ⟨k + 1, C.set k 78, by omega, rfl, by go_num, hid (by rw [List.length_set, hC.out]), (hG.keepw (bdrew (Below.refl _ _) _)).mark hC.out k 78 rfl, hid (fun j hj => ?_), hid (fun b h1 h2 => ?_), (bdrew hb _).setCell (by simp; omega) _⟩
          · rw [dg_set_ne _ _ _ _ (by omega)]; exact hsm.out j (by omega)
          · rw [Below.heap_setCell _ _ _ _ (by simpa using h2)]; exact hst.out b h1 h2
        case measure => simp [intOf]; omega
    · go_wp2
      go_ret
      exact ⟨rfl, hb, fun b h1 h2 => (hst.out b (by omega) h2).trans (hzb.block b h1)⟩
end Go.Proofs.YtldafoojkimdeaaDoor

namespace Go.Proofs.YtldafoojkimdeaaDoor
open Go.RowKit Lm

/-- An integer as the document has them: normal limbs that can be read. -/
def Nrm (w : World) (n : Bool) (o : Option Addr) (l c : Nat) (v : Int) : Prop := ∃ L, Rd w o l c L ∧ Top L ∧ num n L = v ∧ (L = [] → n = false)
theorem Nrm.keep {w w' : World} {n : Bool} {o : Option Addr} {l c : Nat} {v : Int} (h : Nrm w n o l c v) (hb : Below w.heap.size w w') : Nrm w' n o l c v := by
  obtain ⟨L, h1, h2⟩ := h; exact ⟨L, h1.keep hb, h2⟩
theorem Nrm.of_num {B : Nat} {w : World} {n : Bool} {o : Option Addr} {l : Nat} {v u : Int} (h : Num B w n o l v) (e : v = u) : Nrm w n o l l u := by
  obtain ⟨L, h1, h2, h3, h4⟩ := h.rd
  exact ⟨L, h1, h2, h3.trans e, h4⟩
theorem num_inj {n m : Bool} {L M : List Nat} (oL : Ok L) (oM : Ok M) (tL : Top L) (tM : Top M) (hn : L = [] → n = false) (hm : M = [] → m = false) (h : num n L = num m M) : n = m ∧ L = M := by
  have hv : val L = val M := by have := congrArg Int.natAbs h; rwa [num_abs, num_abs] at this
  have hl := top_inj oL oM tL tM hv
  refine ⟨?_, hl⟩
  subst hl
  by_cases h0 : L = []
  · rw [hn h0, hm h0]
  · have hp : val L ≠ 0 := fun e => h0 (top_zero tL e)
    unfold num at h
    cases n <;> cases m <;> simp at h ⊢ <;> omega
theorem sameV {w : World} {n m : Bool} {o p : Option Addr} {l c k d : Nat} {v : Int} (h1 : Nrm w n o l c v) (h2 : Nrm w m p k d v) :
    Calls Tryd.prog 19 #[.agg #[.bool n, .slice o l c], .agg #[.bool m, .slice p k d]] w fun e w' => e = .returned (.bool true) ∧ Below w.heap.size w w' := by
  obtain ⟨L, a1, a2, a3, a4⟩ := h1
  obtain ⟨M, b1, b2, b3, b4⟩ := h2
  obtain ⟨rfl, rfl⟩ := num_inj a1.ok b1.ok a2 b2 a4 b4 (a3.trans b3.symm)
  obtain rfl : l = k := a1.size.symm.trans b1.size
  exact sameR n o l c L p d w a1 b1
theorem intN (n : Bool) (xo : Option Addr) (xl xc : Nat) (v : Int) (w : World) (h : Big w n xo xl xc v) (sx : xl ≤ 1073741824) :
    Calls Tryd.prog 21 #[.agg #[.bool n, .slice xo xl xc]] w fun e w' => ∃ n' o l c, e = .returned (.agg #[.bool n', .slice o l c]) ∧ Nrm w' n' o l c v ∧ Below w.heap.size w w' := by
  refine (intR n xo xl xc v w h sx).mono ?_
  rintro e w' ⟨n', o, l, c, M, rfl, h1, h2, h3, h4, h5⟩
  exact ⟨n', o, l, c, rfl, ⟨M, h1, h2, h3, h4⟩, h5⟩

/-- A variable's block that holds a struct of two cells. -/
def Pr (w : World) (g : Nat) (t : TypeId) (x y : Value) : Prop := w.heap[g]? = some (.cells #[x, y] t (0, 0))
theorem Pr.keep {w w' : World} {g : Nat} {t : TypeId} {x y : Value} (h : Pr w g t x y) (hb : Below w.heap.size w w') : Pr w' g t x y := heap_keep h hb
theorem Pr.lt {w : World} {g : Nat} {t : TypeId} {x y : Value} (h : Pr w g t x y) : g < w.heap.size := lt_of_block h
theorem Pr.alloc {w : World} {g : Nat} {t : TypeId} {x y : Value} (h : Pr w g t x y) (o : Obj) : Pr (w.alloc o) g t x y := h.keep ((Below.refl _ _).alloc (Nat.le_refl _) _)
theorem Pr.drew {w : World} {g : Nat} {t : TypeId} {x y : Value} (h : Pr w g t x y) : Pr w.drew g t x y := h
theorem Pr.new (w : World) (t : TypeId) (x y : Value) : Pr (w.alloc (.cells #[x, y] t)) w.heap.size t x y := heap_alloc_new w _
theorem Lent.alloc {B : Nat} {w : World} {g la cap : Nat} {A : List Nat} (h : Lent B w g la cap A) (o : Obj) : Lent B (w.alloc o) g la cap A := h.keep ((Below.refl _ _).alloc (Nat.le_refl _) _)
theorem Lent.drew {B : Nat} {w : World} {g la cap : Nat} {A : List Nat} (h : Lent B w g la cap A) : Lent B w.drew g la cap A := h.keep (Below.refl _ _).drew
theorem Lent.base {B B' : Nat} {w : World} {g la cap : Nat} {A : List Nat} (h : Lent B w g la cap A) (hb : B' ≤ B) : Lent B' w g la cap A := ⟨h.own.base hb, h.size⟩
theorem Lent.ge {B : Nat} {w : World} {g la cap : Nat} {A : List Nat} (h : Lent B w g la cap A) : B ≤ g ∧ g < w.heap.size := by
  rcases h.own.2 with ⟨h', _⟩ | ⟨g', cap', cur, h', hb, hg, _⟩
  · simp at h'
  · simp only [Value.slice.injEq, Option.some.injEq, Addr.mk.injEq, and_true, true_and] at h'
    obtain ⟨rfl, _⟩ := h'
    exact ⟨hb, lt_of_block hg⟩
theorem sign_v {w : World} {n : Bool} {ao : Option Addr} {len cap : Nat} {A : List Nat} {v : Int} (h : Rd w ao len cap A) (e : num n A = v) :
    Calls Tryd.prog 28 #[.agg #[.bool n, .slice ao len cap]] w fun e w' => e = .returned (.int .i64 v.sign) ∧ Below w.heap.size w w' := by
  subst e
  refine (sign_any n ao len cap A w h).mono ?_
  rintro e w' ⟨rfl, rfl⟩
  exact ⟨rfl, (Below.refl _ _).alloc (Nat.le_refl _) _⟩
theorem cmp_v {w : World} {n : Bool} {ao : Option Addr} {len cap : Nat} {A : List Nat} {v : Int} {m : Bool} {bo : Option Addr} {lem cbp : Nat} {B : List Nat} {u : Int} (h : Rd w ao len cap A) (e : num n A = v) (h' : Rd w bo lem cbp B) (e' : num m B = u) :
    Calls Tryd.prog 30 #[.agg #[.bool n, .slice ao len cap], .agg #[.bool m, .slice bo lem cbp]] w fun e w' => e = .returned (.int .i64 (v - u).sign) ∧ Below w.heap.size w w' := by
  subst e e'
  exact cmp_any n ao len cap A m bo lem cbp B w h h'
theorem bits_v {w : World} {n : Bool} {ao : Option Addr} {len cap : Nat} {A : List Nat} {k : Nat} (h : Rd w ao len cap A) (e : bl (val A) = k) :
    Calls Tryd.prog 32 #[.agg #[.bool n, .slice ao len cap]] w fun e w' => e = .returned (.int .i64 (k : Int)) ∧ Below w.heap.size w w' := by
  subst e
  exact bits_any n ao len cap A w h
theorem Lent.same {B : Nat} {w w' : World} {g la cap : Nat} {A : List Nat} (h : Lent B w g la cap A) (hg : w'.heap[g]? = w.heap[g]?) : Lent B w' g la cap A := by
  refine ⟨?_, h.size⟩
  have h1 := h.own
  unfold Grow at *
  rcases h1.2 with ⟨h', _⟩ | ⟨g', cap', cur, h', hb', hg', r⟩
  · simp at h'
  · have h2 := h'
    simp only [Value.slice.injEq, Option.some.injEq, Addr.mk.injEq, and_true, true_and] at h2
    obtain ⟨rfl, _⟩ := h2
    exact ⟨h1.1, .inr ⟨g, cap', cur, h', hb', by rw [hg]; exact hg', r⟩⟩
theorem Lent.apart {B : Nat} {w : World} {g la cap : Nat} {A : List Nat} (h : Lent B w g la cap A) {p : Nat} {x y : Value} (hp : Pr w p 24 x y) : p ≠ g := by
  rintro rfl
  rcases h.own.2 with ⟨h', _⟩ | ⟨g', cap', cur, h', hb', hg', r⟩
  · simp at h'
  · simp only [Value.slice.injEq, Option.some.injEq, Addr.mk.injEq, and_true, true_and] at h'
    obtain ⟨rfl, _⟩ := h'
    unfold Pr at hp
    rw [hg'] at hp
    simp at hp
end Go.Proofs.YtldafoojkimdeaaDoor
