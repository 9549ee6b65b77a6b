/- Walks of the law's helpers lent and held. No condition but those that each theorem names. Walk of the law's helper held. No condition but those that the theorem names. What the laws over the document's answer share: normal integers that are the same; boxes of integers, of lent integers and of the document's integers. No condition but those that each theorem names. Plain mathematics: what the loops of the document's answer do to bits where they multiply and divide. No condition but those that each theorem names. Walks of the document's answer: Long, long, Times. No condition but those that each theorem names. Walks of the law's helper is. No condition but those that each theorem names. Answers that the laws hold against the document's, in the call's own memory: what is kept while another one is written over. No condition but those that each theorem names. Plain mathematics: long division row by row, and a shift downwards limb by limb. Plain mathematics: how one limb of a quotient is guessed from the highest limbs (after Knuth). -/
import Derived.Test.YtldafoojkimdeaaDoorDividesM7
import Derived.Laws.AppendOwnNone
import Derived.Test.YtldafoojkimdeaaDoorDividesM5
import Derived.Test.YtldafoojkimdeaaDoorDividesM2
import Derived.Test.YtldafoojkimdeaaDoorDividesM1
import Derived.RegionTactic
import Derived.BigRegion
import Derived.IntWalk
namespace Go.Proofs.YtldafoojkimdeaaDoor
open Go.RowKit Lm

theorem Grow.put {B : Nat} {w : World} {g cap : Nat} {C : List Nat} (h : Grow B w (.slice (some ⟨g, 0, none⟩) C.length cap) C) (k : Nat) {z : Int} (x : Nat) (hz : z = (x : Int)) :
    Grow B (w.setCell ⟨g, k, none⟩ (.int .u32 z)) (.slice (some ⟨g, 0, none⟩) C.length cap) (C.set k x) := by
  subst hz
  unfold Grow at *
  rw [List.length_set]
  rcases h.2 with ⟨h', _⟩ | ⟨g', cap', cur, h', hb, hg, hnc, hcm, hcs, htk⟩
  · simp at h'
  · simp only [Value.slice.injEq, Option.some.injEq, Addr.mk.injEq, and_true, true_and] at h'
    obtain ⟨rfl, rfl⟩ := h'
    refine ⟨by simp [lims_len], .inr ⟨g, cap, cur.setIfInBounds k (.int .u32 (x : Int)), rfl, hb, heap_setCell_same w g k cur 43 _ hg, hnc, hcm, by simpa using hcs, ?_⟩⟩
    rw [Array.toList_setIfInBounds, List.take_set, htk, lims_set _ _ _ rfl]

/-- The owner's marks. -/
def mk3 (A : List Nat) : List Nat := A ++ [77, 77, 77]
theorem mk3_len (A : List Nat) : (mk3 A).length = A.length + 3 := by simp [mk3]
theorem mk3_low (A : List Nat) (k : Nat) (h : k < A.length) : dg (mk3 A) k = dg A k := dg_append_left _ _ _ h
theorem mk3_high (A : List Nat) (k : Nat) (h : A.length ≤ k) (h3 : k < A.length + 3) : dg (mk3 A) k = 77 := by
  unfold mk3
  rw [dg_append_right _ _ _ h]
  rcases (show k - A.length = 0 ∨ k - A.length = 1 ∨ k - A.length = 2 by omega) with e | e | e <;> rw [e] <;> rfl

/-- An integer lent: the limbs lie in a block of the call's own, marks behind them. -/
structure Lent (B : Nat) (w : World) (g la cap : Nat) (A : List Nat) : Prop where
  own : Grow B w (.slice (some ⟨g, 0, none⟩) (la + 3) cap) (mk3 A)
  size : A.length = la
theorem Lent.keep {B : Nat} {w w' : World} {g la cap : Nat} {A : List Nat} (h : Lent B w g la cap A) (hb : Below w.heap.size w w') : Lent B w' g la cap A :=
  ⟨World.ownsRow.kept h.own (row := none) ⟨hb.os, hb.tape, hb.output, hb.size, fun k hk _ => hb.block k hk⟩ (by simp [Value.ownBlock]), h.size⟩
theorem Lent.rd {B : Nat} {w : World} {g la cap : Nat} {A : List Nat} (h : Lent B w g la cap A) (ho : Ok A) (hl : la ≤ 4294967296) : Rd w (some ⟨g, 0, none⟩) la cap A := by
  have hk : Ok (mk3 A) := ho.append (((Ok.nil.cons (by omega)).cons (by omega)).cons (by omega))
  obtain ⟨ao, cp, e, hR⟩ := h.own.rd hk (by rw [mk3_len, h.size]; omega)
  simp only [Value.slice.injEq] at e
  obtain ⟨rfl, e2, rfl⟩ := e
  have := hR.take (n := la) (by omega)
  rwa [show (mk3 A).take la = A by unfold mk3; rw [← h.size]; simp] at this

theorem Lent.keepB {B : Nat} {w w' : World} {g la cap : Nat} {A : List Nat} (h : Lent B w g la cap A) (hb : Below B w w') (hg : w'.heap[g]? = w.heap[g]?) : Lent B w' g la cap A := by
  refine ⟨?_, h.size⟩
  have h1 := h.own
  unfold Grow at *
  rcases h1.2 with ⟨h', _⟩ | ⟨g', cap', cur, h', hb', hg', r⟩
  · simp at h'
  · have h2 := h'
    simp only [Value.slice.injEq, Option.some.injEq, Addr.mk.injEq, and_true, true_and] at h2
    obtain ⟨rfl, _⟩ := h2
    exact ⟨h1.1, .inr ⟨g, cap', cur, h', hb', by rw [hg]; exact hg', r⟩⟩

theorem lims777 (A : List Nat) : lims A ++ [.int .u32 77, .int .u32 77, .int .u32 77] = lims (mk3 A) := by simp [lims, mk3]

theorem marks_cells (w : World) : ∀ j u, ([.int .u32 77, .int .u32 77, .int .u32 77] : List Value)[j]? = some u → (w.alloc (.cells #[.int .u32 77, .int .u32 77, .int .u32 77] 43)).cell? ((⟨w.heap.size, 0, none⟩ : Addr).add j) = some u := by
  intro j u hj
  match j, hj with
  | 0, hj => simp at hj; subst hj; simp [Addr.add]
  | 1, hj => simp at hj; subst hj; simp [Addr.add]
  | 2, hj => simp at hj; subst hj; simp [Addr.add]
  | j + 3, hj => simp at hj
theorem marks_at (g : Nat) (w : World) (hg : w.heap.size = g) : ∀ j u, ([.int .u32 77, .int .u32 77, .int .u32 77] : List Value)[j]? = some u → (w.alloc (.cells #[.int .u32 77, .int .u32 77, .int .u32 77] 43)).cell? ((⟨g, 0, none⟩ : Addr).add j) = some u := by
  subst hg; exact marks_cells w
theorem marks_one : ∀ u ∈ ([.int .u32 77, .int .u32 77, .int .u32 77] : List Value), u.oneCell' = true := by
  intro u hu; simp at hu; subst hu; rfl
theorem fresh_made (B : Nat) (w : World) (hB : B ≤ w.heap.size) : (w.alloc (.cells #[] 43)).ownsRow B 43 1 (.slice (some ⟨w.heap.size, 0, none⟩) 0 0) 0 [] :=
  World.ownsRow_made (base := B) (e := 43) (size := 1) w #[] 0 hB (by unfold maxLen; omega) rfl

theorem fresh_at (B g : Nat) (w : World) (hB : B ≤ w.heap.size) (hg : w.heap.size = g) : (w.alloc (.cells #[] 43)).ownsRow B 43 1 (.slice (some ⟨g, 0, none⟩) 0 0) 0 [] := by
  subst hg; exact fresh_made B w hB

set_option maxRecDepth 100000 in
set_option maxHeartbeats 2000000 in
theorem lentR_some (na : Bool) (ad : Addr) (la ca : Nat) (A : List Nat) (w : World) (hA : Rd w (some ad) la ca A) (hcell : Hid (∀ j u, (lims A)[j]? = some u → w.cell? (ad.add j) = some u)) (hla : la ≤ 1073741824) :
    Calls Tryd.prog 18 #[.agg #[.bool na, .slice (some ad) la ca]] w fun e w' => ∃ g cap, e = .returned (.agg #[.bool na, .slice (some ⟨g, 0, none⟩) la cap]) ∧ Lent w.heap.size w' g la cap A ∧ Below w.heap.size w w' := by
  obtain ⟨i0, hi, hz0, hz1, hz2⟩ := info_parts Tryd.info43
  have HL := hid hA.size
  have hzb : ∀ n1 n2, Below w.heap.size w (((w.alloc (.cells #[.bool na, .slice (some ad) la ca] 24)).alloc (.cells n1 24)).alloc (.cells n2 43)) :=
    fun _ _ => (((Below.refl _ _).alloc (Nat.le_refl _) _).alloc (by simp) _).alloc (by simp; omega) _
  have HCC : Hid (∀ (j : Nat) u, (lims A)[j]? = some u → (((w.alloc (.cells #[.bool na, .slice (some ad) la ca] 24)).alloc (.cells #[.bool false, .slice none 0 0] 24)).alloc (.cells #[] 43)).cell? (ad.add j) = some u) := hid (fun j u hj => by
    exact cell_keep (hcell.out j u hj) (hzb _ _))
  clear hzb
  go_enter Tryd.func18, Tryd.ntmps18
  go_wp2_with (first
    | (at_builtin; (refine wpList_append_own _ (o := ⟨some 7, _, _, _, _, _⟩) rfl _ _ 22 rfl (w.heap.size + 2) 43 i0 (.int .u32 0) 1 4 Tryd.underlying22 hi hz0 hz1 hz2 rfl (by decide) (.slice (some ⟨w.heap.size + 1 + 1, 0, none⟩) 0 0) 0 [] (by rfl) (fresh_at _ _ ((w.alloc (.cells #[.bool na, .slice (some ad) la ca] 24)).alloc (.cells #[.bool false, .slice none 0 0] 24)) (by simp) (by simp)) ad la ca (lims A) (by rfl) (by rw [lims_len, HL.out, Nat.mul_one]) (HCC.out) (lims_one A) (by unfold maxLen; omega) (by omega) (by first | omega | (simp; done) | (simp; omega)) ?_); intro v1 w5 hown5 hgrow5 _)
    | (at_builtin; refine wpList_append_own _ (o := ⟨some 9, _, _, _, _, _⟩) rfl _ _ 22 rfl (w.heap.size + 2) 43 i0 (.int .u32 0) 1 4 Tryd.underlying22 hi hz0 hz1 hz2 rfl (by decide) v1 (0 + la) ([] ++ lims A) (by rfl) (World.ownsRow.alloc hown5 _) ⟨w5.heap.size, 0, none⟩ 3 3 [.int .u32 77, .int .u32 77, .int .u32 77] (by rfl) rfl (marks_cells w5) marks_one (by unfold maxLen; omega) (by omega) (by have := hgrow5.size; simp at this ⊢; omega) ?_; intro v2 w6 hown6 hgrow6 _))
  obtain ⟨W, hW⟩ : ∃ W, W = (w.alloc (.cells #[.bool na, .slice (some ad) la ca] 24)).alloc (.cells #[.bool false, .slice none 0 0] 24) := ⟨_, rfl⟩
  obtain ⟨hpx, hpy, hzb, hzl⟩ := new2 hW
  have hWs : Hid (W.heap.size = w.heap.size + 2) := hid (by rw [hW]; simp)
  rw [← hW] at hgrow5
  clear hW
  have hb5 : Below (w.heap.size + 2) W w5 := ((Below.refl _ _).alloc (Nat.le_of_eq hWs.out.symm) _).grown hgrow5 (by simp; have := hWs.out; omega) (by intro k hk; simp [Value.ownBlock] at hk; omega)
  have hs5 := hb5.size
  have hb6 : Below (w.heap.size + 2) W w6 := (hb5.alloc (by omega) _).grown hgrow6 (by simp; omega) (by
    intro k hk
    rcases hown5.2 with ⟨rfl, -⟩ | ⟨g', cap, cur, rfl, hB, -⟩
    · simp [Value.ownBlock] at hk
    · simp [Value.ownBlock] at hk; omega)
  have hs6 := hb6.size
  clear hgrow5 hgrow6 hown5 HCC
  have hG : Grow (w.heap.size + 2) w6 v2 (mk3 A) := by
    unfold Grow; rw [mk3_len, HL.out, ← lims777]; simpa using hown6
  have hg' := hG
  rcases hg'.2 with ⟨_, h0⟩ | ⟨g, cap, cur, rfl, hgB, -, hnc, -⟩
  · rw [mk3_len] at h0; omega
  rw [mk3_len, HL.out] at hnc
  rw [mk3_len, HL.out] at hG
  have hlc : la ≤ cap := by omega
  have px := (hb6.block _ (by omega)).trans hpx
  have py := (hb6.block _ (by omega)).trans hpy
  obtain ⟨x0, x1, _, _⟩ := two_cells px
  obtain ⟨y0, y1, q0, q1⟩ := two_cells py
  have HPY := hid py
  have HB := hid (hzb.trans (Below.mono hb6 (by omega)))
  clear px py hpx hpy hown6 hg' hb5 hb6 hzb hs5 hzl
  go_region_held3 (fun w' => w'.cell? ⟨w.heap.size, 0, none⟩ = some (.bool na) ∧ w'.cell? ⟨w.heap.size, 1, none⟩ = some (.slice (some ad) la ca)) (first | go_keep | (refine ⟨?_, ?_⟩ <;> first | assumption | (simp [go_sem]; assumption)))
    (fail)
  go_wp2
  refine bodyPost_ret (v := .agg #[.bool na, .slice (some ⟨g, 0, none⟩) la cap]) (by simp [results, Tryd.results18, go_sem, y0, y1]) rfl ⟨g, cap, rfl, ?_, ?_⟩
  · have hne : ∀ {p : Addr}, p.block = w.heap.size + 1 → (Value.slice (some ⟨g, 0, none⟩) (la + 3) cap).ownBlock ≠ some p.block := by
      intro p hp e
      simp only [Value.ownBlock, Option.some.injEq] at e
      omega
    exact (Lent.mk (((hG.set (hne rfl) _).set (hne rfl) _).base (by omega)) HL.out).keep ((Below.refl _ _).drew)
  · exact ((HB.out.setCell (by simp) _).setCell (by simp) _).drew

set_option maxRecDepth 100000 in
set_option maxHeartbeats 2000000 in
theorem lentR_none (na : Bool) (w : World) :
    Calls Tryd.prog 18 #[.agg #[.bool na, .slice none 0 0]] w fun e w' => ∃ g cap, e = .returned (.agg #[.bool na, .slice (some ⟨g, 0, none⟩) 0 cap]) ∧ Lent w.heap.size w' g 0 cap [] ∧ Below w.heap.size w w' := by
  obtain ⟨i0, hi, hz0, hz1, hz2⟩ := info_parts Tryd.info43
  go_enter Tryd.func18, Tryd.ntmps18
  go_wp2_with (first
    | (at_builtin; refine wpList_append_own_none (o := ⟨some 7, _, _, _, _, _⟩) rfl _ _ 22 rfl (w.heap.size + 2) 43 i0 1 Tryd.underlying22 hi (.slice (some ⟨w.heap.size + 1 + 1, 0, none⟩) 0 0) 0 [] (by rfl) (fresh_at _ _ ((w.alloc (.cells #[.bool na, .slice none 0 0] 24)).alloc (.cells #[.bool false, .slice none 0 0] 24)) (by simp) (by simp)) (by rfl) ?_)
    | (at_builtin; refine wpList_append_own _ (o := ⟨some 9, _, _, _, _, _⟩) rfl _ _ 22 rfl (w.heap.size + 2) 43 i0 (.int .u32 0) 1 4 Tryd.underlying22 hi hz0 hz1 hz2 rfl (by decide) (.slice (some ⟨w.heap.size + 1 + 1, 0, none⟩) 0 0) 0 [] (by rfl) (World.ownsRow.alloc (fresh_at _ _ ((w.alloc (.cells #[.bool na, .slice none 0 0] 24)).alloc (.cells #[.bool false, .slice none 0 0] 24)) (by simp) (by simp)) _) ⟨w.heap.size + 1 + 1 + 1, 0, none⟩ 3 3 [.int .u32 77, .int .u32 77, .int .u32 77] (by rfl) rfl (marks_at _ _ (by simp)) marks_one (by unfold maxLen; omega) (by omega) (by first | omega | (simp; done) | (simp; omega)) ?_; intro v2 w6 hown6 hgrow6 _))
  obtain ⟨W, hW⟩ : ∃ W, W = (w.alloc (.cells #[.bool na, .slice none 0 0] 24)).alloc (.cells #[.bool false, .slice none 0 0] 24) := ⟨_, rfl⟩
  obtain ⟨hpx, hpy, hzb, hzl⟩ := new2 hW
  have hWs : Hid (W.heap.size = w.heap.size + 2) := hid (by rw [hW]; simp)
  rw [← hW] at hgrow6
  clear hW
  have hb6 : Below (w.heap.size + 2) W w6 := (((Below.refl _ _).alloc (Nat.le_of_eq hWs.out.symm) _).alloc (by simp; have := hWs.out; omega) _).grown hgrow6 (by simp; have := hWs.out; omega) (by intro k hk; simp [Value.ownBlock] at hk; omega)
  have hs6 := hb6.size
  clear hgrow6
  have hG : Grow (w.heap.size + 2) w6 v2 (mk3 []) := by
    unfold Grow; rw [mk3_len]; exact hown6
  have hg' := hG
  have HL : Hid (([] : List Nat).length = 0) := hid rfl
  have la : Nat := 0
  rcases hg'.2 with ⟨_, h0⟩ | ⟨g, cap, cur, rfl, hgB, -, hnc, -⟩
  · rw [mk3_len] at h0; simp at h0
  rw [mk3_len, HL.out] at hnc
  rw [mk3_len, HL.out] at hG
  have hlc : 0 ≤ cap := by omega
  have px := (hb6.block _ (by omega)).trans hpx
  have py := (hb6.block _ (by omega)).trans hpy
  obtain ⟨x0, x1, _, _⟩ := two_cells px
  obtain ⟨y0, y1, q0, q1⟩ := two_cells py
  have HPY := hid py
  have HB := hid (hzb.trans (Below.mono hb6 (by omega)))
  clear px py hpx hpy hown6 hg' hb6 hzb hzl
  go_region_held3 (fun w' => w'.cell? ⟨w.heap.size, 0, none⟩ = some (.bool na) ∧ w'.cell? ⟨w.heap.size, 1, none⟩ = some (.slice none 0 0)) (first | go_keep | (refine ⟨?_, ?_⟩ <;> first | assumption | (simp [go_sem]; assumption)))
    (fail)
  go_wp2
  refine bodyPost_ret (v := .agg #[.bool na, .slice (some ⟨g, 0, none⟩) 0 cap]) (by simp [results, Tryd.results18, go_sem, y0, y1]) rfl ⟨g, cap, rfl, ?_, ?_⟩
  · have hne : ∀ {p : Addr}, p.block = w.heap.size + 1 → (Value.slice (some ⟨g, 0, none⟩) (0 + 3) cap).ownBlock ≠ some p.block := by
      intro p hp e
      simp only [Value.ownBlock, Option.some.injEq] at e
      omega
    exact (Lent.mk (((hG.set (hne rfl) _).set (hne rfl) _).base (by omega)) HL.out).keep ((Below.refl _ _).drew)
  · exact ((HB.out.setCell (by simp) _).setCell (by simp) _).drew

theorem lentR (na : Bool) (aa : Option Addr) (la ca : Nat) (A : List Nat) (w : World) (hA : Rd w aa la ca A) (hnil : aa = none → ca = 0) (hla : la ≤ 1073741824) :
    Calls Tryd.prog 18 #[.agg #[.bool na, .slice aa la ca]] w fun e w' => ∃ g cap, e = .returned (.agg #[.bool na, .slice (some ⟨g, 0, none⟩) la cap]) ∧ Lent w.heap.size w' g la cap A ∧ Below w.heap.size w w' := by
  cases aa with
  | none =>
    obtain rfl := hnil rfl
    have h0 : la = 0 := by
      rcases Nat.eq_zero_or_pos la with h | h
      · exact h
      · obtain ⟨b, off, e, _⟩ := hA.cells h; cases e
    subst h0
    have e : A = [] := List.eq_nil_of_length_eq_zero hA.size
    subst e
    exact lentR_none na w
  | some a =>
    refine lentR_some na a la ca A w hA (hid fun j u hj => ?_) hla
    rcases Nat.eq_zero_or_pos la with h | h
    · have e : A = [] := List.eq_nil_of_length_eq_zero (by rw [hA.size, h])
      subst e; simp [lims] at hj
    · obtain ⟨b, off, e, hc⟩ := hA.cells h
      obtain rfl := Option.some.inj e
      exact lims_news hc la (Nat.le_refl _) hA.size j u (by rwa [List.take_of_length_le (Nat.le_of_eq hA.size)])
end Go.Proofs.YtldafoojkimdeaaDoor

namespace Go.Proofs.YtldafoojkimdeaaDoor
open Go.RowKit Lm

theorem Grow.cells {B : Nat} {w : World} {g n cap : Nat} {C : List Nat} (h : Grow B w (.slice (some ⟨g, 0, none⟩) n cap) C) : B ≤ g ∧ n = C.length ∧ n ≤ cap ∧ (∀ k, k < C.length → w.cell? ⟨g, k, none⟩ = some (.int .u32 (dg C k : Int))) ∧ (∀ k, w.frozen? ⟨g, k, none⟩ = false) := by
  rcases h.2 with ⟨h', _⟩ | ⟨g', cap', cur, h', hb, hg, hnc, hcm, hcs, htk⟩
  · simp at h'
  · simp only [Value.slice.injEq, Option.some.injEq, Addr.mk.injEq, and_true, true_and] at h'
    obtain ⟨rfl, rfl, rfl⟩ := h'
    refine ⟨hb, rfl, hnc, fun k hk => ?_, fun k => by simp [World.frozen?, hg]⟩
    have h1 := lims_get C k hk
    rw [← htk, List.getElem?_take_of_lt (by omega)] at h1
    simpa [World.cell?, hg] using h1

theorem Grow.keepw {B : Nat} {w w' : World} {g n cap : Nat} {C : List Nat} (h : Grow B w (.slice (some ⟨g, 0, none⟩) n cap) C) (hb : Below w.heap.size w w') : Grow B w' (.slice (some ⟨g, 0, none⟩) n cap) C :=
  World.ownsRow.kept h (row := none) ⟨hb.os, hb.tape, hb.output, hb.size, fun k hk _ => hb.block k hk⟩ (by simp [Value.ownBlock])
theorem Grow.mark {B : Nat} {w : World} {g n cap : Nat} {C : List Nat} (h : Grow B w (.slice (some ⟨g, 0, none⟩) n cap) C) (hn : C.length = n) (k x : Nat) {z : Int} (hz : z = (x : Int)) : Grow B (w.setCell ⟨g, k, none⟩ (.int .u32 z)) (.slice (some ⟨g, 0, none⟩) n cap) (C.set k x) := by
  subst hn; exact h.put k x hz

set_option maxRecDepth 100000 in
set_option maxHeartbeats 2000000 in
theorem heldR (na : Bool) (g cap : Nat) (aa : Option Addr) (la ca : Nat) (A : List Nat) (w0 w : World) (hA0 : Rd w0 aa la ca A) (hb0 : Below w0.heap.size w0 w) (hT : Lent w0.heap.size w g la cap A) (hla : la ≤ 1073741824) :
    Calls Tryd.prog 33 #[.agg #[.bool na, .slice (some ⟨g, 0, none⟩) la cap], .agg #[.bool na, .slice aa la ca]] w fun e w' => e = .returned (.bool true) ∧ Below w0.heap.size w0 w' ∧ (∀ b, b < w.heap.size → b ≠ g → w'.heap[b]? = w.heap[b]?) := by
  have hA := hA0.keep hb0
  have HL := hid hT.size
  obtain ⟨hgB, hn3, hcap, _, _⟩ := hT.own.cells
  have hgw : g < w.heap.size := by
    rcases hT.own.2 with ⟨h', _⟩ | ⟨g', cap', cur, h', hb, hg, _⟩
    · simp at h'
    · simp only [Value.slice.injEq, Option.some.injEq, Addr.mk.injEq, and_true, true_and] at h'
      obtain ⟨rfl, _⟩ := h'
      exact lt_of_block hg
  have HN := hid hn3
  clear hn3
  have heq : (na == na) = true := by simp
  go_enter Tryd.func33, Tryd.ntmps33
  go_wp2_with fail
  obtain ⟨wz, hz⟩ : ∃ wz, wz = (w.alloc (.cells #[.bool na, .slice (some ⟨g, 0, none⟩) la cap] 24)).alloc (.cells #[.bool na, .slice aa la ca] 24) := ⟨_, rfl⟩
  obtain ⟨hpx, hpy, hzb, hzl⟩ := new2 hz
  rw [← hz]
  clear hz
  have hTz := hT.keep hzb
  have hbz0 := hb0.trans (Below.mono hzb hb0.size)
  have HX := hid hpx
  have HY := hid hpy
  clear hpx hpy hT hA
  go_loopw [6, 7] (fun o i wr => ∃ (k : Nat) (C : List Nat), k ≤ la + 3 ∧ o = .bool true ∧ i = .int .i64 (k : Int) ∧ Hid (C.length = la + 3) ∧ Grow w0.heap.size wr (.slice (some ⟨g, 0, none⟩) (la + 3) cap) C ∧ Hid (∀ j, k ≤ j → dg C j = dg (mk3 A) j) ∧ Hid (∀ b, b < wz.heap.size → b ≠ g → wr.heap[b]? = wz.heap[b]?) ∧ Below w0.heap.size w0 wr) (fun _ i _ => la + 3 - (intOf i).toNat)
  case atStart => exact ⟨0, mk3 A, by omega, rfl, rfl, hid (by rw [mk3_len, HL.out]), hTz.own, hid (fun _ _ => rfl), hid (fun _ _ _ => rfl), hbz0⟩
  case round =>
    obtain ⟨k, C, hk, rfl, rfl, hC, hG, hsm, hst, hb⟩ := hrel
    obtain ⟨_, _, _, hcs, hfs⟩ := hG.cells
    obtain ⟨x0, x1, _, _⟩ := two_cells ((hst.out _ (by omega) (by omega)).trans HX.out)
    obtain ⟨y0, y1, _, _⟩ := two_cells ((hst.out _ (by omega) (by omega)).trans HY.out)
    by_cases hgo : k < la + 3
    · have hck := hcs k (by rw [hC.out]; exact hgo)
      have hfk := hfs k
      clear hcs hfs
      by_cases hlow : k < la
      · obtain ⟨b, off, rfl, hc⟩ := (hA0.keep hb).cells (by omega)
        have hcm := hc k hlow
        clear hc
        have hd1 : decide ((k : Int) < (la : Int)) = true := by simp; omega
        have he : ((dg C k : Int) != (dg A k : Int)) = false := by
          rw [hsm.out k (Nat.le_refl _), mk3_low A k (by rw [HL.out]; exact hlow)]; simp
        have hd2 : decide ((la : Int) ≤ (k : Int)) = false := by simp; omega
        have hd3 : decide (k < la) = true := decide_eq_true hlow
        have hd4 : decide (la ≤ k) = false := decide_eq_false (by omega)
        go_wp2
        go_quiet (fail)
        go_wp2
        go_roundw
        case rel =>
          refine ⟨k + 1, C.set k 78, by omega, rfl, by go_num, hid (by rw [List.length_set, hC.out]), (hG.keepw (bdrew (Below.refl _ _) _)).mark hC.out k 78 rfl, hid (fun j hj => ?_), hid (fun b h1 h2 => ?_), (bdrew hb _).setCell (by simp; omega) _⟩
          · rw [dg_set_ne _ _ _ _ (by omega)]; exact hsm.out j (by omega)
          · rw [Below.heap_setCell _ _ _ _ (by simpa using h2)]; exact hst.out b h1 h2
        case measure => simp [intOf]; omega
      · have hd1 : decide ((k : Int) < (la : Int)) = false := by simp; omega
        have he : ((dg C k : Int) != 77) = false := by
          rw [hsm.out k (Nat.le_refl _), mk3_high A k (by rw [HL.out]; omega) (by rw [HL.out]; omega)]; rfl
        have hd2 : decide ((la : Int) ≤ (k : Int)) = true := by simp; omega
        have hd3 : decide (k < la) = false := decide_eq_false hlow
        have hd4 : decide (la ≤ k) = true := decide_eq_true (by omega)
        go_wp2
        go_quiet (fail)
        go_wp2
        go_roundw
        case rel =>
          refine ⟨k + 1, C.set k 78, by omega, rfl, by go_num, hid (by rw [List.length_set, hC.out]), (hG.keepw (bdrew (Below.refl _ _) _)).mark hC.out k 78 rfl, hid (fun j hj => ?_), hid (fun b h1 h2 => ?_), (bdrew hb _).setCell (by simp; omega) _⟩
          · rw [dg_set_ne _ _ _ _ (by omega)]; exact hsm.out j (by omega)
          · rw [Below.heap_setCell _ _ _ _ (by simpa using h2)]; exact hst.out b h1 h2
        case measure => simp [intOf]; omega
    · go_wp2
      go_ret
      exact ⟨rfl, hb, fun b h1 h2 => (hst.out b (by omega) h2).trans (hzb.block b h1)⟩
end Go.Proofs.YtldafoojkimdeaaDoor

namespace Go.Proofs.YtldafoojkimdeaaDoor
open Go.RowKit Lm

/-- An integer as the document has them: normal limbs that can be read. -/
def Nrm (w : World) (n : Bool) (o : Option Addr) (l c : Nat) (v : Int) : Prop := ∃ L, Rd w o l c L ∧ Top L ∧ num n L = v ∧ (L = [] → n = false)
theorem Nrm.keep {w w' : World} {n : Bool} {o : Option Addr} {l c : Nat} {v : Int} (h : Nrm w n o l c v) (hb : Below w.heap.size w w') : Nrm w' n o l c v := by
  obtain ⟨L, h1, h2⟩ := h; exact ⟨L, h1.keep hb, h2⟩
theorem Nrm.of_num {B : Nat} {w : World} {n : Bool} {o : Option Addr} {l : Nat} {v u : Int} (h : Num B w n o l v) (e : v = u) : Nrm w n o l l u := by
  obtain ⟨L, h1, h2, h3, h4⟩ := h.rd
  exact ⟨L, h1, h2, h3.trans e, h4⟩
theorem num_inj {n m : Bool} {L M : List Nat} (oL : Ok L) (oM : Ok M) (tL : Top L) (tM : Top M) (hn : L = [] → n = false) (hm : M = [] → m = false) (h : num n L = num m M) : n = m ∧ L = M := by
  have hv : val L = val M := by have := congrArg Int.natAbs h; rwa [num_abs, num_abs] at this
  have hl := top_inj oL oM tL tM hv
  refine ⟨?_, hl⟩
  subst hl
  by_cases h0 : L = []
  · rw [hn h0, hm h0]
  · have hp : val L ≠ 0 := fun e => h0 (top_zero tL e)
    unfold num at h
    cases n <;> cases m <;> simp at h ⊢ <;> omega
theorem sameV {w : World} {n m : Bool} {o p : Option Addr} {l c k d : Nat} {v : Int} (h1 : Nrm w n o l c v) (h2 : Nrm w m p k d v) :
    Calls Tryd.prog 19 #[.agg #[.bool n, .slice o l c], .agg #[.bool m, .slice p k d]] w fun e w' => e = .returned (.bool true) ∧ Below w.heap.size w w' := by
  obtain ⟨L, a1, a2, a3, a4⟩ := h1
  obtain ⟨M, b1, b2, b3, b4⟩ := h2
  obtain ⟨rfl, rfl⟩ := num_inj a1.ok b1.ok a2 b2 a4 b4 (a3.trans b3.symm)
  obtain rfl : l = k := a1.size.symm.trans b1.size
  exact sameR n o l c L p d w a1 b1
theorem intN (n : Bool) (xo : Option Addr) (xl xc : Nat) (v : Int) (w : World) (h : Big w n xo xl xc v) (sx : xl ≤ 1073741824) :
    Calls Tryd.prog 21 #[.agg #[.bool n, .slice xo xl xc]] w fun e w' => ∃ n' o l c, e = .returned (.agg #[.bool n', .slice o l c]) ∧ Nrm w' n' o l c v ∧ Below w.heap.size w w' := by
  refine (intR n xo xl xc v w h sx).mono ?_
  rintro e w' ⟨n', o, l, c, M, rfl, h1, h2, h3, h4, h5⟩
  exact ⟨n', o, l, c, rfl, ⟨M, h1, h2, h3, h4⟩, h5⟩

/-- A variable's block that holds a struct of two cells. -/
def Pr (w : World) (g : Nat) (t : TypeId) (x y : Value) : Prop := w.heap[g]? = some (.cells #[x, y] t (0, 0))
theorem Pr.keep {w w' : World} {g : Nat} {t : TypeId} {x y : Value} (h : Pr w g t x y) (hb : Below w.heap.size w w') : Pr w' g t x y := heap_keep h hb
theorem Pr.lt {w : World} {g : Nat} {t : TypeId} {x y : Value} (h : Pr w g t x y) : g < w.heap.size := lt_of_block h
theorem Pr.alloc {w : World} {g : Nat} {t : TypeId} {x y : Value} (h : Pr w g t x y) (o : Obj) : Pr (w.alloc o) g t x y := h.keep ((Below.refl _ _).alloc (Nat.le_refl _) _)
theorem Pr.drew {w : World} {g : Nat} {t : TypeId} {x y : Value} (h : Pr w g t x y) : Pr w.drew g t x y := h
theorem Pr.new (w : World) (t : TypeId) (x y : Value) : Pr (w.alloc (.cells #[x, y] t)) w.heap.size t x y := heap_alloc_new w _
theorem Lent.alloc {B : Nat} {w : World} {g la cap : Nat} {A : List Nat} (h : Lent B w g la cap A) (o : Obj) : Lent B (w.alloc o) g la cap A := h.keep ((Below.refl _ _).alloc (Nat.le_refl _) _)
theorem Lent.drew {B : Nat} {w : World} {g la cap : Nat} {A : List Nat} (h : Lent B w g la cap A) : Lent B w.drew g la cap A := h.keep (Below.refl _ _).drew
theorem Lent.base {B B' : Nat} {w : World} {g la cap : Nat} {A : List Nat} (h : Lent B w g la cap A) (hb : B' ≤ B) : Lent B' w g la cap A := ⟨h.own.base hb, h.size⟩
theorem Lent.ge {B : Nat} {w : World} {g la cap : Nat} {A : List Nat} (h : Lent B w g la cap A) : B ≤ g ∧ g < w.heap.size := by
  rcases h.own.2 with ⟨h', _⟩ | ⟨g', cap', cur, h', hb, hg, _⟩
  · simp at h'
  · simp only [Value.slice.injEq, Option.some.injEq, Addr.mk.injEq, and_true, true_and] at h'
    obtain ⟨rfl, _⟩ := h'
    exact ⟨hb, lt_of_block hg⟩
theorem sign_v {w : World} {n : Bool} {ao : Option Addr} {len cap : Nat} {A : List Nat} {v : Int} (h : Rd w ao len cap A) (e : num n A = v) :
    Calls Tryd.prog 28 #[.agg #[.bool n, .slice ao len cap]] w fun e w' => e = .returned (.int .i64 v.sign) ∧ Below w.heap.size w w' := by
  subst e
  refine (sign_any n ao len cap A w h).mono ?_
  rintro e w' ⟨rfl, rfl⟩
  exact ⟨rfl, (Below.refl _ _).alloc (Nat.le_refl _) _⟩
theorem cmp_v {w : World} {n : Bool} {ao : Option Addr} {len cap : Nat} {A : List Nat} {v : Int} {m : Bool} {bo : Option Addr} {lem cbp : Nat} {B : List Nat} {u : Int} (h : Rd w ao len cap A) (e : num n A = v) (h' : Rd w bo lem cbp B) (e' : num m B = u) :
    Calls Tryd.prog 30 #[.agg #[.bool n, .slice ao len cap], .agg #[.bool m, .slice bo lem cbp]] w fun e w' => e = .returned (.int .i64 (v - u).sign) ∧ Below w.heap.size w w' := by
  subst e e'
  exact cmp_any n ao len cap A m bo lem cbp B w h h'
theorem bits_v {w : World} {n : Bool} {ao : Option Addr} {len cap : Nat} {A : List Nat} {k : Nat} (h : Rd w ao len cap A) (e : bl (val A) = k) :
    Calls Tryd.prog 32 #[.agg #[.bool n, .slice ao len cap]] w fun e w' => e = .returned (.int .i64 (k : Int)) ∧ Below w.heap.size w w' := by
  subst e
  exact bits_any n ao len cap A w h
theorem Lent.same {B : Nat} {w w' : World} {g la cap : Nat} {A : List Nat} (h : Lent B w g la cap A) (hg : w'.heap[g]? = w.heap[g]?) : Lent B w' g la cap A := by
  refine ⟨?_, h.size⟩
  have h1 := h.own
  unfold Grow at *
  rcases h1.2 with ⟨h', _⟩ | ⟨g', cap', cur, h', hb', hg', r⟩
  · simp at h'
  · have h2 := h'
    simp only [Value.slice.injEq, Option.some.injEq, Addr.mk.injEq, and_true, true_and] at h2
    obtain ⟨rfl, _⟩ := h2
    exact ⟨h1.1, .inr ⟨g, cap', cur, h', hb', by rw [hg]; exact hg', r⟩⟩
theorem Lent.apart {B : Nat} {w : World} {g la cap : Nat} {A : List Nat} (h : Lent B w g la cap A) {p : Nat} {x y : Value} (hp : Pr w p 24 x y) : p ≠ g := by
  rintro rfl
  rcases h.own.2 with ⟨h', _⟩ | ⟨g', cap', cur, h', hb', hg', r⟩
  · simp at h'
  · simp only [Value.slice.injEq, Option.some.injEq, Addr.mk.injEq, and_true, true_and] at h'
    obtain ⟨rfl, _⟩ := h'
    unfold Pr at hp
    rw [hg'] at hp
    simp at hp
end Go.Proofs.YtldafoojkimdeaaDoor

namespace Lm

theorem dg_set_eq (l : List Nat) (j v : Nat) (h : j < l.length) : dg (l.set j v) j = v := by
  unfold dg; rw [getD_in _ _ (by simpa using h)]; simp
theorem dg_repl (n j : Nat) : dg (List.replicate n 0) j = 0 := by
  unfold dg
  by_cases h : j < n
  · rw [getD_in _ _ (by simpa using h)]; simp
  · rw [getD_out _ _ (by simpa using h)]

/-! ### Products -/
theorem btimes_set {l : List Nat} {j y s p t u : Nat} (h : j < l.length) (hv : bv l = s + p * u) (hj : 2 ^ j = p * t) : bv (l.set j (dg l j + y)) = s + p * (u + t * y) := by
  rw [bv_set_add l j y h, hv, hj]; grind
/-- Carrying: the list's low places are bits already. -/
theorem bcarry_set {l : List Nat} {k c s o c' : Nat} (h : k < l.length) (hv : bv l + 2 ^ k * c = s) (he : dg l k + c = o + 2 * c') : bv (l.set k o) + 2 ^ (k + 1) * c' = s := by
  have h1 := bv_set l k o h
  have h2 : 2 ^ k * dg l k + 2 ^ k * c = 2 ^ k * o + 2 ^ k * (2 * c') := by rw [← Nat.mul_add, he, Nat.mul_add]
  have h3 : 2 ^ (k + 1) * c' = 2 ^ k * (2 * c') := by rw [Nat.pow_succ, Nat.mul_assoc]
  omega
theorem B1_of_dg {l : List Nat} (h : ∀ j, j < l.length → dg l j ≤ 1) : B1 l := by
  intro x hx
  obtain ⟨i, hi, rfl⟩ := List.mem_iff_getElem.1 hx
  have := h i hi
  unfold dg at this; rwa [getD_in _ _ hi] at this

/-! ### Quotients -/
theorem bsub_set {l : List Nat} {i k x o y c c' s u : Nat} (h : k < l.length) (hi : i ≤ k) (hx : dg l k = x) (hv : bv l + 2 ^ i * u = s + 2 ^ k * c) (he : o + y + c = x + 2 * c') :
    bv (l.set k o) + 2 ^ i * (u + 2 ^ (k - i) * y) = s + 2 ^ (k + 1) * c' := by
  have h1 := bv_set l k o h
  rw [hx] at h1
  have h2 : 2 ^ k * o + 2 ^ k * y + 2 ^ k * c = 2 ^ k * x + 2 ^ k * (2 * c') := by rw [← Nat.mul_add, ← Nat.mul_add, he, Nat.mul_add]
  have h3 : 2 ^ (k + 1) * c' = 2 ^ k * (2 * c') := by rw [Nat.pow_succ, Nat.mul_assoc]
  have h4 : 2 ^ i * (u + 2 ^ (k - i) * y) = 2 ^ i * u + 2 ^ k * y := by
    rw [Nat.mul_add, ← Nat.mul_assoc, ← Nat.pow_add]; congr 3; omega
  omega
/-- Above a place all is nought: the rest is small. -/
theorem bv_drop_lt {l : List Nat} (h1 : B1 l) {t : Nat} (h : ∀ j, t ≤ j → j < l.length → dg l j = 0) (i : Nat) (hi : i ≤ t) : bv (l.drop i) < 2 ^ (t - i) := by
  have e : bv (l.drop i) = bv ((l.drop i).take (t - i)) := by
    have s := bv_split_any (l.drop i) (t - i)
    rw [List.drop_drop, show i + (t - i) = t by omega] at s
    have z : bv (l.drop t) = 0 := by
      have := bv_above l (List.replicate l.length 0) t (by simp) (fun j a b => by rw [h j a b, dg_repl])
      rw [this, List.drop_replicate, bv_zeros]
    rw [z] at s; simpa using s
  rw [e]; exact chunk_lt h1 i (t - i)
theorem bv_chunk {l : List Nat} {t : Nat} (h : ∀ j, t ≤ j → j < l.length → dg l j = 0) (i : Nat) (hi : i ≤ t) : bv ((l.drop i).take (t - i)) = bv (l.drop i) := by
  have s := bv_split_any (l.drop i) (t - i)
  rw [List.drop_drop, show i + (t - i) = t by omega] at s
  have z : bv (l.drop t) = 0 := by
    have := bv_above l (List.replicate l.length 0) t (by simp) (fun j a b => by rw [h j a b, dg_repl])
    rw [this, List.drop_replicate, bv_zeros]
  rw [z] at s; omega
/-- What is cut at a place that is not nought is normal. -/
theorem top_chunk {l : List Nat} {i t : Nat} (ht : t ≤ l.length) (h : i < t → dg l (t - 1) ≠ 0) : Top ((l.drop i).take (t - i)) := by
  intro hl
  rcases Nat.lt_or_ge i t with h1 | h1
  · have h2 := h h1
    have h3 : ((l.drop i).take (t - i)).length = t - i := by rw [List.length_take, List.length_drop]; omega
    rw [List.getLast_eq_getElem]
    simp only [h3]
    rw [List.getElem_take, List.getElem_drop]
    unfold dg at h2
    rw [getD_in _ _ (by omega)] at h2
    simpa [show i + (t - i - 1) = t - 1 by omega] using h2
  · exact absurd (by rw [show t - i = 0 by omega, List.take_zero]) hl
/-- The state of the division ahead of place m - 1. -/
structure Dv (A B : List Nat) (m : Nat) (Q R : List Nat) : Prop where
  lq : Q.length = A.length
  lr : R.length = A.length
  bq : B1 Q
  br : B1 R
  zq : ∀ j, j < m → dg Q j = 0
  eq : bv A = bv Q * bv B + bv R
  lt : bv (R.drop m) < bv B
theorem Dv.start {A B : List Nat} (h : B1 A) (hb : 0 < bv B) : Dv A B A.length (List.replicate A.length 0) A :=
  ⟨by simp, rfl, B1.zeros _, h, fun j _ => dg_repl _ j, by simp [bv_zeros], by rw [List.drop_length]; exact hb⟩
theorem Dv.skip {A B Q R : List Nat} {i : Nat} (h : Dv A B (i + 1) Q R) (hl : bv (R.drop i) < bv B) : Dv A B i Q R :=
  ⟨h.lq, h.lr, h.bq, h.br, fun j hj => h.zq j (by omega), h.eq, hl⟩
theorem Dv.take {A B Q R R' : List Nat} {i t c : Nat} (h : Dv A B (i + 1) Q R) (hi : i < A.length) (hl : bv B ≤ bv (R.drop i)) (hti : i ≤ t)
    (hz : ∀ j, t ≤ j → j < R.length → dg R j = 0) (hlen : R'.length = R.length) (hb : B1 R') (hlow : ∀ j, j < i → dg R' j = dg R j) (hhigh : ∀ j, t ≤ j → dg R' j = dg R j)
    (hv : bv R' + 2 ^ i * bv B = bv R + 2 ^ t * c) (hc : c ≤ 1) : Dv A B i (Q.set i 1) R' ∧ c = 0 := by
  have hR' : ∀ j, t ≤ j → j < R'.length → dg R' j = 0 := fun j a b => by rw [hhigh j a, hz j a (by omega)]
  have hlr := h.lr
  have hlq := h.lq
  have s1 := bv_split_any R i
  have s2 := bv_split_any R' i
  have e1 : R'.take i = R.take i := by
    apply List.ext_getElem
    · simp [hlen]
    · intro j a b
      simp at a b
      have := hlow j (by omega)
      unfold dg at this
      rw [getD_in _ _ (by omega), getD_in _ _ (by omega)] at this
      simpa using this
  have hlt := bv_drop_lt hb hR' i hti
  have hp : 2 ^ t = 2 ^ i * 2 ^ (t - i) := by rw [← Nat.pow_add]; congr 1; omega
  have hpos : 0 < 2 ^ i := Nat.pow_pos (by decide)
  have k1 : 2 ^ i * (bv (R'.drop i) + bv B) = 2 ^ i * (bv (R.drop i) + 2 ^ (t - i) * c) := by
    rw [Nat.mul_add, Nat.mul_add, ← Nat.mul_assoc, ← hp]
    rw [e1] at s2; omega
  have k2 := Nat.eq_of_mul_eq_mul_left hpos k1
  have hc0 : c = 0 := by
    rcases (show c = 0 ∨ c = 1 by omega) with rfl | rfl
    · rfl
    · omega
  subst hc0
  have hset := bv_set Q i 1 (by omega)
  rw [h.zq i (by omega)] at hset
  have hd := bv_drop_dg R i
  have hx := h.br.dg i
  have hl2 := h.lt
  refine ⟨⟨by simp [hlq], by omega, h.bq.set i (by omega), hb, fun j hj => ?_, ?_, by omega⟩, rfl⟩
  · rw [dg_set_ne _ _ _ _ (by omega)]; exact h.zq j (by omega)
  · have : bv (Q.set i 1) = bv Q + 2 ^ i := by omega
    rw [this, Nat.add_mul, h.eq]; omega
theorem Dv.done {A B Q R : List Nat} (h : Dv A B 0 Q R) : bv Q = bv A / bv B ∧ bv R = bv A % bv B := by
  have h1 := h.lt
  rw [List.drop_zero] at h1
  have h2 := h.eq
  have hb : 0 < bv B := by omega
  refine ⟨?_, ?_⟩
  · rw [h2, Nat.mul_comm, Nat.mul_add_div hb, Nat.div_eq_of_lt h1]; rfl
  · rw [h2, Nat.mul_comm, Nat.mul_add_mod, Nat.mod_eq_of_lt h1]
end Lm

namespace Go.Proofs.YtldafoojkimdeaaDoor
open Go.RowKit Lm

set_option maxRecDepth 100000 in
set_option maxHeartbeats 1000000 in
theorem longR1 (n : Bool) (o : Option Addr) (l c : Nat) (w : World) :
    Calls Tryd.prog 45 #[.agg #[.bool n, .slice o l c]] w fun e w' => e = .returned (.bool (decide (4096 < l))) ∧ Below w.heap.size w w' := by
  have hd : decide ((4096 : Int) < (l : Int)) = decide (4096 < l) := by simp; omega
  go_enter Tryd.func45, Tryd.ntmps45
  go_wp2
  go_ret
  exact ⟨by simp, (Below.refl _ _).alloc (Nat.le_refl _) _⟩

set_option maxRecDepth 100000 in
set_option maxHeartbeats 1000000 in
theorem longR (nx : Bool) (xo : Option Addr) (xl xc : Nat) (ny : Bool) (yo : Option Addr) (yl yc : Nat) (w : World) :
    Calls Tryd.prog 34 #[.agg #[.bool nx, .slice xo xl xc], .agg #[.bool ny, .slice yo yl yc]] w fun e w' => e = .returned (.int .i64 (if 4096 < xl ∨ 4096 < yl then 10 else 0)) ∧ Below w.heap.size w w' := by
  by_cases h1 : 4096 < xl
  · have h0 : decide (4096 < xl) = true := decide_eq_true h1
    rw [if_pos (.inl h1)]
    go_enter Tryd.func34, Tryd.ntmps34
    go_wp2_with (go_at_call 45; refine (longR1 nx xo xl xc _).mono ?_; rintro e w1 ⟨rfl, hb1⟩; rw [h0])
    go_ret
    exact ⟨rfl, balloc2 hb1⟩
  · have h0 : decide (4096 < xl) = false := decide_eq_false h1
    by_cases h2 : 4096 < yl
    · have h3 : decide (4096 < yl) = true := decide_eq_true h2
      rw [if_pos (.inr h2)]
      go_enter Tryd.func34, Tryd.ntmps34
      go_wp2_with (first
        | (go_at_call_of 45 (Value.agg #[.bool nx, .slice xo xl xc]); refine (longR1 nx xo xl xc _).mono ?_; rintro e w1 ⟨rfl, hb1⟩; rw [h0]; have hy1 := heap_keep (heap_alloc_new (w.alloc (.cells #[.bool nx, .slice xo xl xc] 28)) (.cells #[.bool ny, .slice yo yl yc] 28)) hb1; simp only [World.size_alloc] at hy1; obtain ⟨y0, y1, _, _⟩ := two_cells hy1)
        | (go_at_call_of 45 (Value.agg #[.bool ny, .slice yo yl yc]); refine (longR1 ny yo yl yc _).mono ?_; rintro e w2 ⟨rfl, hb2⟩; rw [h3]))
      go_ret
      exact ⟨rfl, (balloc2 hb1).trans (hb2.mono (balloc2 hb1).size)⟩
    · have h3 : decide (4096 < yl) = false := decide_eq_false h2
      rw [if_neg (by omega)]
      go_enter Tryd.func34, Tryd.ntmps34
      go_wp2_with (first
        | (go_at_call_of 45 (Value.agg #[.bool nx, .slice xo xl xc]); refine (longR1 nx xo xl xc _).mono ?_; rintro e w1 ⟨rfl, hb1⟩; rw [h0]; have hy1 := heap_keep (heap_alloc_new (w.alloc (.cells #[.bool nx, .slice xo xl xc] 28)) (.cells #[.bool ny, .slice yo yl yc] 28)) hb1; simp only [World.size_alloc] at hy1; obtain ⟨y0, y1, _, _⟩ := two_cells hy1)
        | (go_at_call_of 45 (Value.agg #[.bool ny, .slice yo yl yc]); refine (longR1 ny yo yl yc _).mono ?_; rintro e w2 ⟨rfl, hb2⟩; rw [h3]))
      go_ret
      exact ⟨rfl, (balloc2 hb1).trans (hb2.mono (balloc2 hb1).size)⟩

theorem sg_mul (nx ny : Bool) {A B C : List Nat} (h : bv C = bv A * bv B) : sg (nx != ny) C = sg nx A * sg ny B := by
  unfold sg; rw [h]
  cases nx <;> cases ny <;> simp [Int.natCast_mul, Int.neg_mul, Int.mul_neg]
theorem times_end {a b n l m c s t : Nat} (h : s + 2 ^ n * c = a * b) (ha : a < 2 ^ l) (hb : b < 2 ^ m) (hn : n = l + m + 1) (e : t = s) : c = 0 ∧ t = a * b := by
  have h1 : a * b < 2 ^ (l + m) := by
    rw [Nat.pow_add]
    rcases Nat.eq_zero_or_pos b with rfl | hb0
    · rw [Nat.mul_zero]; exact Nat.mul_pos (Nat.pow_pos (by decide)) (Nat.pow_pos (by decide))
    · exact Nat.lt_of_lt_of_le (Nat.mul_lt_mul_of_pos_right ha hb0) (Nat.mul_le_mul_left _ (by omega))
  have h2 : 2 ^ n = 2 * 2 ^ (l + m) := by rw [hn, Nat.pow_succ, Nat.mul_comm]
  rcases Nat.eq_zero_or_pos c with rfl | hc
  · exact ⟨rfl, by omega⟩
  · have : 2 ^ n * 1 ≤ 2 ^ n * c := Nat.mul_le_mul_left _ hc
    omega

set_option maxRecDepth 100000 in
set_option maxHeartbeats 4000000 in
theorem timesR (nx : Bool) (xo : Option Addr) (xl xc : Nat) (vx : Int) (ny : Bool) (yo : Option Addr) (yl yc : Nat) (vy : Int) (w : World) (hX : Big w nx xo xl xc vx) (hY : Big w ny yo yl yc vy) (sx : xl ≤ 1048576) (sy : yl ≤ 1048576) :
    Calls Tryd.prog 40 #[.agg #[.bool nx, .slice xo xl xc], .agg #[.bool ny, .slice yo yl yc]] w fun e w' => ∃ n' ao len cap, e = .returned (.agg #[.bool n', .slice ao len cap]) ∧ len ≤ xl + yl + 1 ∧ Big w' n' ao len cap (vx * vy) ∧ Below w.heap.size w w' := by
  obtain ⟨i0, hi, hz0, hz1, hz2⟩ := info_parts Tryd.infoI
  obtain ⟨A, rA, bA, tA, _, ex⟩ := hX
  obtain ⟨B, rB, bB, tB, _, ey⟩ := hY
  have HX := hid ex
  have HY := hid ey
  clear ex ey
  have HA := hid rA.size
  have HB := hid rB.size
  go_enter Tryd.func40, Tryd.ntmps40
  go_wp2_with (at_make; refine wpList_make_full _ rfl _ _ 26 rfl (w.heap.size + 3) 3 i0 (.int .i64 0) 1 Tryd.underlying26 hi hz0 hz1 .i64 .i64 _ _ (xl + yl + 1) rfl rfl (by omega) (by omega) ?c1 ?c2 ?c3 ?_)
  case c1 => rw [hz2]; omega
  case c2 => unfold maxLen; omega
  case c3 => simp
  intro w1 hown hgrow
  obtain ⟨wz, hz⟩ : ∃ wz, wz = ((w.alloc (.cells #[.bool nx, .slice xo xl xc] 28)).alloc (.cells #[.bool ny, .slice yo yl yc] 28)).alloc (.cells #[.bool false, .slice none 0 0] 28) := ⟨_, rfl⟩
  have hzs : wz.heap.size = w.heap.size + 1 + 1 + 1 := by rw [hz]; simp
  obtain ⟨hpx, hpy, hpr, hzb, hzl⟩ := new3 hz
  rw [← hz] at hgrow
  clear hz
  have HPx := hid hpx
  have HPy := hid hpy
  have HPr := hid hpr
  have zA := rA.keep hzb
  have zB := rB.keep hzb
  clear hpx hpy hpr rA rB
  have HZ := hid hzs
  have hrow : Rwi w1 (w.heap.size + 1 + 1 + 1) (List.replicate (xl + yl + 1) 0) := Rwi.of_own hown (made_zeros_i _ _ (by omega))
  have hbel : Below wz.heap.size wz w1 := (Below.refl _ _).grown hgrow (Nat.le_refl _) (by intro k hk; simp at hk)
  clear hown hgrow hi hz0 hz1 hz2 hzs hzl
  go_wp2
  go_loopw [6] (fun i wr => ∃ (k : Nat) (S : List Nat), k ≤ xl ∧ i = .int .i64 (k : Int) ∧ Hid (S.length = xl + yl + 1) ∧ Hid (∀ j, dg S j ≤ k) ∧ Hid (bv S = bv (A.take k) * bv B) ∧ Rwi wr (w.heap.size + 1 + 1 + 1) S ∧ Below wz.heap.size wz wr) (fun i _ => xl - (intOf i).toNat)
  case atStart => exact ⟨0, _, by omega, rfl, hid (by simp), hid (fun j => by rw [dg_repl]; omega), hid (by rw [bv_zeros]; simp [bv]), hrow, hbel⟩
  case round =>
    obtain ⟨k, S, hk, rfl, hSl, hSb, hSv, hR, hb⟩ := hrel
    clear hrow hbel
    obtain ⟨x0, x1, _, _⟩ := two_cells (heap_keep HPx.out hb)
    obtain ⟨y0, y1, _, _⟩ := two_cells (heap_keep HPy.out hb)
    have zAr := zA.keep hb
    have zBr := zB.keep hb
    by_cases hlt : k < xl
    · obtain ⟨b, off, rfl, hc⟩ := zAr.cells (by omega)
      have hcell := hc k hlt
      have hxb := bA.dg k
      clear hc zAr
      by_cases hone : dg A k = 1
      · have ht1 : ((dg A k : Int) == 1) = true := by simp; omega
        have HONE := hid hone
        clear hone
        go_wp2
        go_loopw [7] (fun j ws => ∃ (m : Nat) (N : List Nat), m ≤ yl ∧ j = .int .i64 (m : Int) ∧ Hid (N.length = xl + yl + 1) ∧ Hid (∀ j, k + m ≤ j → dg N j ≤ k) ∧ Hid (∀ j, dg N j ≤ k + 1) ∧ Hid (bv N = bv S + 2 ^ k * bv (B.take m)) ∧ Rwi ws (w.heap.size + 1 + 1 + 1) N ∧ Below wz.heap.size wz ws) (fun j _ => yl - (intOf j).toNat)
        case atStart => exact ⟨0, S, by omega, rfl, hSl, hid (fun j _ => hSb.out j), hid (fun j => by have := hSb.out j; omega), hid (by simp [bv]), hR, hb⟩
        case round =>
          obtain ⟨m, N, hm, rfl, hNl, hNa, hNb, hNv, hRN, hb2⟩ := hrel
          clear hR x0 x1 y0 y1 zBr hcell
          obtain ⟨y0, y1, _, _⟩ := two_cells (heap_keep HPy.out hb2)
          have zBr := zB.keep hb2
          by_cases hlt2 : m < yl
          · obtain ⟨b', off', rfl, hc'⟩ := zBr.cells (by omega)
            have hcell' := hc' m hlt2
            clear hc' zBr
            have hyb := bB.dg m
            have hcur := hRN.cell (k + m) (by rw [hNl.out]; omega)
            have hfr := hRN.free (k + m)
            have hnb := hNa.out (k + m) (Nat.le_refl _)
            have s1 : IntKind.i64.wrap ((k : Int) + (m : Int)) = (k : Int) + (m : Int) := IntWalk.i64_in _ (by omega)
            have s2 : 0 ≤ (k : Int) + (m : Int) := by omega
            have s3 : ((k : Int) + (m : Int)).toNat = k + m := by omega
            have s4 : IntKind.i64.wrap ((dg N (k + m) : Int) + (dg B m : Int)) = (dg N (k + m) : Int) + (dg B m : Int) := IntWalk.i64_in _ (by omega)
            go_wp2_with fail
            go_region
            clear s1 s2 s3 s4
            go_wp2
            go_roundw
            case rel =>
              refine ⟨m + 1, N.set (k + m) (dg N (k + m) + dg B m), by omega, by go_num, hid (by rw [List.length_set, hNl.out]), hid (fun j hj => ?_), hid (fun j => ?_), hid ?_, (hRN.set' (k + m) _ (by simp)).drew, (hb2.setCell (by rw [HZ.out]; simp) _).drew⟩
              · rw [dg_set_ne _ _ _ _ (by omega)]; exact hNa.out j (by omega)
              · by_cases hj : k + m = j
                · subst hj; rw [dg_set_eq _ _ _ (by rw [hNl.out]; omega)]; omega
                · rw [dg_set_ne _ _ _ _ hj]; exact hNb.out j
              · rw [bv_set_add _ _ _ (by rw [hNl.out]; omega), hNv.out, bv_take_any, Nat.pow_add, Nat.mul_add, Nat.mul_assoc]; omega
            case measure => simp [intOf]; omega
          · obtain rfl : m = yl := by omega
            go_wp2
            go_roundw
            case rel =>
              refine ⟨k + 1, N, by omega, by go_num, hNl, hNb, hid ?_, hRN, hb2⟩
              rw [hNv.out, hSv.out, bv_take_ge B m (by rw [HB.out]; omega), bv_take_dg A k (by rw [HA.out]; omega), HONE.out, Nat.add_mul, Nat.mul_one]
            case measure => simp [intOf]; omega
      · have ht0 : ((dg A k : Int) == 1) = false := by simp; omega
        have HONE : Hid (dg A k = 0) := hid (by omega)
        clear hone
        go_wp2
        go_roundw
        case rel =>
          refine ⟨k + 1, S, by omega, by go_num, hSl, hid (fun j => by have := hSb.out j; omega), hid ?_, hR, hb⟩
          rw [hSv.out, bv_take_dg A k (by rw [HA.out]; omega), HONE.out, Nat.mul_zero, Nat.add_zero]
        case measure => simp [intOf]; omega
    · obtain rfl : k = xl := by omega
      have HV : Hid (bv S = bv A * bv B) := hid (by rw [hSv.out, bv_take_ge A k (by rw [HA.out]; omega)])
      clear hSv zAr zBr
      go_wp2
      go_loopw [8, 9] (fun c i ws => ∃ (m cv : Nat) (N : List Nat), m ≤ k + yl + 1 ∧ i = .int .i64 (m : Int) ∧ c = .int .i64 (cv : Int) ∧ cv ≤ k ∧ Hid (N.length = k + yl + 1) ∧ Hid (∀ j, m ≤ j → dg N j ≤ k) ∧ Hid (∀ j, j < m → dg N j ≤ 1) ∧ Hid (bv N + 2 ^ m * cv = bv A * bv B) ∧ Rwi ws (w.heap.size + 1 + 1 + 1) N ∧ Below wz.heap.size wz ws) (fun _ i _ => k + yl + 1 - (intOf i).toNat)
      case atStart => exact ⟨0, 0, S, by omega, rfl, rfl, by omega, hSl, hid (fun j _ => hSb.out j), hid (fun j h => by omega), hid (by rw [HV.out]; simp), hR, hb⟩
      case round =>
        obtain ⟨m, cv, N, hm, rfl, rfl, hcv, hNl, hNa, hN1, hNv, hRN, hb2⟩ := hrel
        clear hR
        by_cases hlt2 : m < k + yl + 1
        · have hcur := hRN.cell m (by rw [hNl.out]; omega)
          have hfr := hRN.free m
          have hnb := hNa.out m (Nat.le_refl _)
          go_wp2
          go_roundw
          case rel =>
            refine ⟨m + 1, (dg N m + cv) / 2, N.set m ((dg N m + cv) % 2), by omega, by go_num, congrArg (Value.int .i64) (by omega), by omega, hid (by rw [List.length_set, hNl.out]), hid (fun j hj => ?_), hid (fun j hj => ?_), hid ?_, hRN.set' m _ (by omega), hb2.setCell (by rw [HZ.out]; simp) _⟩
            · rw [dg_set_ne _ _ _ _ (by omega)]; exact hNa.out j (by omega)
            · by_cases hj2 : m = j
              · subst hj2; rw [dg_set_eq _ _ _ (by rw [hNl.out]; omega)]; omega
              · rw [dg_set_ne _ _ _ _ hj2]; exact hN1.out j (by omega)
            · exact bcarry_set (by rw [hNl.out]; omega) hNv.out (by omega)
          case measure => simp [intOf]; omega
        · obtain rfl : m = k + yl + 1 := by omega
          have hE := times_end (l := k) (m := yl) hNv.out (by have := bv_lt bA; rwa [HA.out] at this) (by have := bv_lt bB; rwa [HB.out] at this) rfl (t := bv N)
          have bN : B1 N := B1_of_dg fun j hj => hN1.out j (by rw [hNl.out] at hj; exact hj)
          have HE : Hid (bv N = bv A * bv B) := hid (by
            have h1 := hNv.out
            rcases Nat.eq_zero_or_pos cv with rfl | hp
            · simpa using h1
            · have h2 := times_end (l := k) (m := yl) h1 (by have := bv_lt bA; rwa [HA.out] at this) (by have := bv_lt bB; rwa [HB.out] at this) rfl rfl
              omega)
          clear hE
          have hRi := hRN.whole (k + yl + 1) (by rw [hNl.out]; omega) (by rw [hNl.out]; omega)
          rw [hNl.out] at hRi
          obtain ⟨x0, x1, _, _⟩ := two_cells (heap_keep HPx.out hb2)
          obtain ⟨y0, y1, _, _⟩ := two_cells (heap_keep HPy.out hb2)
          have hPr2 := heap_keep HPr.out hb2
          go_wp2_with (go_at_call 68; refine (laidR (nx != ny) _ _ _ N _ hRi bN).mono ?_; rintro e w3 ⟨n', len', rfl, hle, hbig, hb3⟩; have k0 := heap_keep hPr2 hb3; obtain ⟨c0, c1, f0, f1⟩ := two_cells k0)
          have hs3 := hb3.size
          have hs2 := hb2.size
          have HB3 := hzb.trans ((hb2.trans (hb3.mono hs2)).mono hzb.size)
          refine bodyPost_ret (v := .agg #[.bool n', .slice (some ⟨w.heap.size + 1 + 1 + 1, 0, none⟩) len' (k + yl + 1)]) (by simp [results, Tryd.results40, go_sem, c0, c1]) rfl ⟨_, _, _, _, rfl, ?_, ?_, ?_⟩
          · omega
          · exact (hbig.other k0 (by simp) (by simp) _ _).cast (by rw [sg_mul nx ny HE.out, HX.out, HY.out])
          · exact (HB3.setCell (by simp; omega) _).setCell (by simp; omega) _
end Go.Proofs.YtldafoojkimdeaaDoor

namespace Go.Proofs.YtldafoojkimdeaaDoor
open Go.RowKit Lm

set_option maxRecDepth 100000 in
set_option maxHeartbeats 1000000 in
/-- The error that is asked for, and nothing beside it. -/
theorem isR_bad (c : Int) (hc : c ≠ 0) (nw : Bool) (wo : Option Addr) (wl wc : Nat) (w : World) :
    Calls Tryd.prog 38 #[.agg #[.bool false, .slice none 0 0], .int .i64 c, .agg #[.bool nw, .slice wo wl wc], .int .i64 c] w fun e w' => e = .returned (.bool true) ∧ Below w.heap.size w w' := by
  have h1 : (c == 0) = false := by simpa using hc
  have h2 : (c != 0) = true := by simpa using hc
  have h3 : (c == c) = true := by simp
  clear hc
  go_enter Tryd.func38, Tryd.ntmps38
  go_wp2
  go_ret
  exact ⟨rfl, ((Below.refl _ _).alloc (Nat.le_refl _) _).alloc (by simp) _⟩

set_option maxRecDepth 100000 in
set_option maxHeartbeats 1000000 in
/-- What is too long is refused. -/
theorem isR_long (nw : Bool) (wo : Option Addr) (wl wc : Nat) (w : World) (hl : 4096 < wl) :
    Calls Tryd.prog 38 #[.agg #[.bool false, .slice none 0 0], .int .i64 10, .agg #[.bool nw, .slice wo wl wc], .int .i64 0] w fun e w' => e = .returned (.bool true) ∧ Below w.heap.size w w' := by
  have h0 : decide (4096 < wl) = true := decide_eq_true hl
  have HA := hid (heap_alloc_new w (.cells #[.bool false, .slice none 0 0] 24))
  go_enter Tryd.func38, Tryd.ntmps38
  go_wp2_with (go_at_call 45; refine (longR1 nw wo wl wc _).mono ?_; rintro e w1 ⟨rfl, hb1⟩; rw [h0]; obtain ⟨a0, a1, _, _⟩ := two_cells (heap_keep (hpS (.cells #[.bool nw, .slice wo wl wc] 28) HA.out) hb1))
  go_ret
  exact ⟨rfl, balloc2 hb1⟩

/-- What is in nobody's way: all blocks but an answer's own. -/
def Apart (ao : Option Addr) (b : Nat) : Prop := ∀ a, ao = some a → b ≠ a.block
theorem Own.lt {base : Nat} {w : World} {ao : Option Addr} {len : Nat} {L : List Nat} (h : Own base w ao len L) : ∀ a, ao = some a → a.block < w.heap.size ∧ base ≤ a.block := by
  intro a e
  rcases h with ⟨_, h, _⟩ | ⟨_, _, g, h3, h4, h5⟩
  · rw [h] at e; cases e
  · rw [h4] at e; cases e; exact ⟨h5.lt, h3⟩
theorem Own.cells {base : Nat} {w : World} {ao : Option Addr} {len : Nat} {L : List Nat} (h : Own base w ao len L) : len = L.length ∧ (ao = none → len = 0 ∧ len = 0) ∧ ∀ b, ao = some b → ∀ j u, (lims L)[j]? = some u → w.cell? (b.add j) = some u := by
  rcases h with ⟨rfl, h, rfl⟩ | ⟨h1, h2, g, h3, h4, h5⟩
  · exact ⟨rfl, fun _ => ⟨rfl, rfl⟩, fun b e => by rw [h] at e; cases e⟩
  · refine ⟨h2, (fun e => by (rw [h4] at e; cases e)), fun b e j u hj => ?_⟩
    rw [h4] at e; cases e
    have hlt : j < L.length := by
      rcases Nat.lt_or_ge j L.length with h | h
      · exact h
      · rw [List.getElem?_eq_none (by rw [lims_len]; exact h)] at hj; cases hj
    have := h5.cell j hlt
    rw [lims_get L j hlt] at hj
    simp only [Option.some.injEq] at hj
    rcases Nat.eq_zero_or_pos j with rfl | h0
    · simpa [Addr.add, ← hj] using this
    · simpa [Addr.add, ← hj, Nat.ne_of_gt h0] using this

theorem fives_cells (w : World) : ∀ j u, ([.int .u32 5, .int .u32 5] : List Value)[j]? = some u → (w.alloc (.cells #[.int .u32 5, .int .u32 5] 43)).cell? ((⟨w.heap.size, 0, none⟩ : Addr).add j) = some u := by
  intro j u hj
  match j, hj with
  | 0, hj => simp at hj; subst hj; simp [Addr.add]
  | 1, hj => simp at hj; subst hj; simp [Addr.add]
  | j + 2, hj => simp at hj
theorem fives_one : ∀ u ∈ ([.int .u32 5, .int .u32 5] : List Value), u.oneCell' = true := by
  intro u hu; simp at hu; subst hu; rfl

set_option maxRecDepth 100000 in
set_option maxHeartbeats 4000000 in
/-- The document's integer, not too long: the answer's limbs are written over, and nothing else that was there. -/
theorem isR_good (n : Bool) (ao : Option Addr) (len : Nat) (v : Int) (nw : Bool) (wo : Option Addr) (wl wc : Nat) (w0 w : World) (hb0 : Below w0.heap.size w0 w) (hN : Num w0.heap.size w n ao len v) (hB : Big w nw wo wl wc v) (hl : wl ≤ 4096) :
    Calls Tryd.prog 38 #[.agg #[.bool n, .slice ao len len], .int .i64 0, .agg #[.bool nw, .slice wo wl wc], .int .i64 0] w fun e w' => e = .returned (.bool true) ∧ Below w0.heap.size w0 w' ∧ (∀ b, b < w.heap.size → Apart ao b → w'.heap[b]? = w.heap[b]?) ∧ w.heap.size ≤ w'.heap.size := by
  obtain ⟨i0, hi, hz0, hz1, hz2⟩ := info_parts Tryd.info43
  have h0 : decide (4096 < wl) = false := decide_eq_false (by omega)
  have HA := hid (heap_alloc_new w (.cells #[.bool n, .slice ao len len] 24))
  have HY := hid (heap_alloc_new (w.alloc (.cells #[.bool n, .slice ao len len] 24)) (.cells #[.bool nw, .slice wo wl wc] 28))
  go_enter Tryd.func38, Tryd.ntmps38
  go_wp2_with (go_at_call 45; refine (longR1 nw wo wl wc _).mono ?_; rintro e w1 ⟨rfl, hb1⟩; rw [h0]; have p0 := heap_keep (hpS (.cells #[.bool nw, .slice wo wl wc] 28) HA.out) hb1; have p1 := heap_keep HY.out hb1; simp only [World.size_alloc] at p1; obtain ⟨a0, a1, _, _⟩ := two_cells p0; obtain ⟨y0, y1, _, _⟩ := two_cells p1)
  have P0 := hid p0
  have P1 := hid p1
  have hb2 := balloc2 hb1
  have hs1 : w.heap.size + 2 ≤ w1.heap.size := by have := hb1.size; simp at this ⊢; omega
  clear p0 p1 hb1 HA HY
  have n1 := (Nrm.of_num hN rfl).keep hb2.drew
  have d_b := (hB.keep hb2).drew
  have h_a := hid (show w1.drew.heap[w.heap.size]? = some (.cells #[.bool n, .slice ao len len] 24 (0, 0)) from P0.out)
  have h_y := hid (show w1.drew.heap[w.heap.size + 1]? = some (.cells #[.bool nw, .slice wo wl wc] 28 (0, 0)) from P1.out)
  have hacc : Below w.heap.size w w1.drew := hb2.drew
  obtain ⟨L, oL, tL, hO, hnil, hv, hlen⟩ := hN
  have HO := hid hO.lt
  have HL := hid hO.cells.1
  have hl2 : len ≤ 128 := by
    have h1 := hB.len
    rw [← hv, num_abs] at h1
    rw [HL.out, ← tL.tl]
    exact len_of_bl L 128 (by omega)
  clear hnil hv tL hB hb2
  go_region_held3 (fun w' => w'.cell? ⟨w.heap.size, 0, none⟩ = some (.bool n) ∧ w'.cell? ⟨w.heap.size, 1, none⟩ = some (.slice ao len len) ∧ w'.cell? ⟨w.heap.size + 1, 0, none⟩ = some (.bool nw) ∧ w'.cell? ⟨w.heap.size + 1, 1, none⟩ = some (.slice wo wl wc))
    (first
      | go_keep
      | (with_reducible exact ⟨(two_cells h_a.out).1, (two_cells h_a.out).2.1, (two_cells h_y.out).1, (two_cells h_y.out).2.1⟩))
    (first
      | (go_at_call 21; (with_reducible refine (intN _ _ _ _ v _ d_b (by omega)).mono ?_); rintro e w5 ⟨n2, o2, l2, c2, rfl, hI, hbk⟩; have h_a := hid (heap_keep h_a.out hbk); have h_y := hid (heap_keep h_y.out hbk); have n1 := n1.keep hbk; have hacc := hacc.trans (hbk.mono hacc.size))
      | (go_at_call 19; (with_reducible refine (sameV n1 hI).mono ?_); rintro e w5 ⟨rfl, hbk⟩; have h_a := hid (heap_keep h_a.out hbk); have h_y := hid (heap_keep h_y.out hbk); have hacc := hacc.trans (hbk.mono hacc.size)))
  generalize hwd : w5 = wd at *
  clear hwd n1 hI
  have hO2 := hO.keep hacc
  have hsd := hacc.size
  have hb3 := hb0.trans (hacc.mono hb0.size)
  clear d_b
  go_wp2
  go_loopw [11] (fun i ws => ∃ (k : Nat) (M : List Nat), k ≤ len ∧ i = .int .i64 (k : Int) ∧ Own w0.heap.size ws ao len M ∧ Hid (∀ b, b < wd.heap.size → Apart ao b → ws.heap[b]? = wd.heap[b]?) ∧ Below w0.heap.size w0 ws) (fun i _ => len - (intOf i).toNat)
  case atStart => exact ⟨0, L, by omega, rfl, hO2, hid (fun _ _ _ => rfl), hb3⟩
  case round =>
    obtain ⟨k, M, hk, rfl, hOw, hst, hb⟩ := hrel
    have hxx : wd.heap.size > w.heap.size + 1 := by have := lt_of_block h_y.out; omega
    have hp := (hst.out w.heap.size (by omega) (fun a e => by have := (HO.out a e).1; omega)).trans h_a.out
    obtain ⟨x0, x1, _, _⟩ := two_cells hp
    have HP := hid hp
    clear hp
    by_cases hgo : k < len
    · rcases hOw with ⟨_, _, h⟩ | ⟨hne, hlM, g, hg, rfl, hR⟩
      · omega
      have HM := hid hlM
      clear hlM hne
      have hck := hR.cell k (by rw [← HM.out]; exact hgo)
      have hfk := hR.free k
      go_wp2
      go_roundw
      case rel =>
        refine ⟨k + 1, M.set k 99, by omega, by go_num, .inr ⟨by intro e; have := congrArg List.length e; rw [List.length_set, ← HM.out] at this; simp at this; omega, by rw [List.length_set]; exact HM.out, g, hg, rfl, hR.set' k 99 rfl⟩, hid (fun b h1 h2 => ?_), hb.setCell (by simpa using hg) _⟩
        rw [Below.heap_setCell _ _ _ _ (by have := h2 _ rfl; simpa using this)]; exact hst.out b h1 h2
      case measure => simp [intOf]; omega
    · obtain rfl : k = len := by omega
      obtain ⟨c1, c2, c3⟩ := hOw.cells
      have HC1 := hid c1
      have HC2 := hid c2
      have HC3 : Hid (∀ b, ao = some b → ∀ j u, (lims M)[j]? = some u → (wr.alloc (.cells #[.int .u32 5, .int .u32 5] 43)).cell? (b.add j) = some u) := hid (fun b e j u hj => cell_keep (c3 b e j u hj) ((Below.refl _ _).alloc (Nat.le_refl _) _))
      clear c1 c2 c3
      go_wp2_with (at_builtin; refine wpList_append_grows _ rfl _ _ 22 rfl 43 i0 (.int .u32 0) 1 4 Tryd.underlying22 hi hz0 hz1 hz2 rfl (by decide) ao k k (lims M) rfl HC2.out (by rw [lims_len, Nat.mul_one]; exact HC1.out.symm) HC3.out ⟨wr.heap.size, 0, none⟩ 2 2 [.int .u32 5, .int .u32 5] rfl rfl (fives_cells wr) fives_one (by omega) (by unfold maxLen; omega) (by omega) ?_)
      intro v2 w6 hown6 hgrow6
      have HB6 := hid (show Below w0.heap.size w0 w6 from (hb.alloc hb.size _).grown hgrow6 (by have := hb.size; simp; omega) (by intro k hk; cases hk))
      have hsr := hb.size
      have hsp := lt_of_block HP.out
      rcases hown6.2 with ⟨_, h0⟩ | ⟨g, cap, cur, rfl, hgB, hgb, hnc, -⟩
      · omega
      have hgs := lt_of_block hgb
      have hfr6 := hown6.frozenAt 0
      have HST : Hid (∀ b, b < w.heap.size → Apart ao b → w6.heap[b]? = w.heap[b]?) := hid (fun b h1 h2 => by
        rw [hgrow6.block b (by simp; omega) (by simp)]
        rw [Below.heap_alloc _ _ _ (by omega), hst.out b (by omega) h2, hacc.block b h1])
      have HG : Hid (w.heap.size ≤ g) := hid (by first | omega | (simp at hgB; omega))
      have HG0 : Hid (w0.heap.size ≤ g) := hid (by have := hb0.size; have := HG.out; omega)
      have hc0 := hown6.cellAt 0 (by omega)
      have HSZ : Hid (w.heap.size ≤ w6.heap.size) := hid (by have := HG.out; omega)
      clear hown6 hgrow6 hgB hgb
      go_wp2
      go_ret
      refine ⟨rfl, HB6.out.setCell HG0.out _, fun b h1 h2 => ?_, by simpa using HSZ.out⟩
      rw [Below.heap_setCell _ _ _ _ (by have := HG.out; simp; omega)]
      exact HST.out b h1 h2
end Go.Proofs.YtldafoojkimdeaaDoor

namespace Go.Proofs.YtldafoojkimdeaaDoor
open Go.RowKit Lm

/-- An answer: the error that is asked for, or the integer, or nothing and the error of what is too long. -/
def AnsE (B : Nat) (w : World) (n : Bool) (ao : Option Addr) (len : Nat) (c e v : Int) : Prop :=
  (e ≠ 0 ∧ c = e ∧ n = false ∧ ao = none ∧ len = 0) ∨ (e = 0 ∧ ((bl v.natAbs ≤ 4096 ∧ c = 0 ∧ Num B w n ao len v) ∨ (4096 < bl v.natAbs ∧ c = 10 ∧ n = false ∧ ao = none ∧ len = 0)))

theorem Num.own {B : Nat} {w : World} {n : Bool} {ao : Option Addr} {len : Nat} {v : Int} (h : Num B w n ao len v) : ∀ a, ao = some a → a.block < w.heap.size ∧ B ≤ a.block := by
  obtain ⟨L, _, _, h3, _⟩ := h; exact h3.lt
/-- A call's answer, laid in new memory. -/
def AnsO (B : Nat) (w w' : World) (n : Bool) (ao : Option Addr) (len : Nat) (c e v : Int) : Prop :=
  AnsE B w' n ao len c e v ∧ ∀ a, ao = some a → w.heap.size ≤ a.block ∧ a.block < w'.heap.size

/-- An answer in a variable's block; both lie from lo on, below hi. -/
structure An (B lo hi : Nat) (w : World) (g : Nat) (n : Bool) (ao : Option Addr) (len : Nat) (c e v : Int) : Prop where
  box : Pr w g 24 (.bool n) (.slice ao len len)
  ans : AnsE B w n ao len c e v
  low : lo ≤ g
  high : g < hi
  own : ∀ a, ao = some a → lo ≤ a.block ∧ a.block < g
  top : hi ≤ w.heap.size

theorem AnsE.same {B : Nat} {w w' : World} {n : Bool} {ao : Option Addr} {len : Nat} {c e v : Int} (h : AnsE B w n ao len c e v) (hs : ∀ a, ao = some a → w'.heap[a.block]? = w.heap[a.block]?) : AnsE B w' n ao len c e v := by
  rcases h with h | ⟨h0, ⟨h1, h2, L, k1, k2, k3, k4⟩ | h⟩
  · exact .inl h
  · refine .inr ⟨h0, .inl ⟨h1, h2, L, k1, k2, ?_, k4⟩⟩
    rcases k3 with k3 | ⟨l1, l2, g, l3, l4, l5⟩
    · exact .inl k3
    · exact .inr ⟨l1, l2, g, l3, l4, ⟨by rw [hs _ l4]; exact l5.block⟩⟩
  · exact .inr ⟨h0, .inr h⟩
theorem An.keep {B lo hi : Nat} {w w' : World} {g : Nat} {n : Bool} {ao : Option Addr} {len : Nat} {c e v : Int} (h : An B lo hi w g n ao len c e v) (hb : Below w.heap.size w w') : An B lo hi w' g n ao len c e v :=
  ⟨h.box.keep hb, h.ans.same fun a ha => hb.block _ (by have := (h.own a ha).2; have := h.high; have := h.top; omega), h.low, h.high, h.own, Nat.le_trans h.top hb.size⟩
theorem An.alloc {B lo hi : Nat} {w : World} {g : Nat} {n : Bool} {ao : Option Addr} {len : Nat} {c e v : Int} (h : An B lo hi w g n ao len c e v) (o : Obj) : An B lo hi (w.alloc o) g n ao len c e v := h.keep ((Below.refl _ _).alloc (Nat.le_refl _) _)
theorem An.drew {B lo hi : Nat} {w : World} {g : Nat} {n : Bool} {ao : Option Addr} {len : Nat} {c e v : Int} (h : An B lo hi w g n ao len c e v) : An B lo hi w.drew g n ao len c e v := h.keep (Below.refl _ _).drew
/-- Another answer is written over: this one stays. -/
theorem An.keepA {B lo hi : Nat} {w w' : World} {g : Nat} {n : Bool} {ao : Option Addr} {len : Nat} {c e v : Int} (h : An B lo hi w g n ao len c e v) {ao' : Option Addr} (hz : w.heap.size ≤ w'.heap.size)
    (hs : ∀ b, b < w.heap.size → Apart ao' b → w'.heap[b]? = w.heap[b]?) (ha : ∀ a, ao' = some a → a.block < lo ∨ hi ≤ a.block) : An B lo hi w' g n ao len c e v := by
  have h1 := h.low
  have h2 := h.high
  have h3 := h.top
  refine ⟨(hs g (by omega) fun a e => by have := ha a e; omega).trans h.box, h.ans.same fun a e => ?_, h1, h2, h.own, Nat.le_trans h3 hz⟩
  have := h.own a e
  exact hs _ (by omega) fun a' e' => by have := ha a' e'; omega
theorem An.apart {B lo hi : Nat} {w : World} {g : Nat} {n : Bool} {ao : Option Addr} {len : Nat} {c e v : Int} (h : An B lo hi w g n ao len c e v) : Apart ao g := fun a e => by have := h.own a e; omega
theorem An.later {B lo hi : Nat} {w : World} {g : Nat} {n : Bool} {ao : Option Addr} {len : Nat} {c e v : Int} (h : An B lo hi w g n ao len c e v) {lo' hi' : Nat} (hh : hi ≤ lo') : ∀ a, ao = some a → a.block < lo' ∨ hi' ≤ a.block := fun a e => by have := h.own a e; have := h.high; omega
theorem An.new {B lo : Nat} {w w' : World} {n : Bool} {ao : Option Addr} {len : Nat} {c e v : Int} (h : AnsO B w w' n ao len c e v) (hlo : lo ≤ w.heap.size) (hz : w.heap.size ≤ w'.heap.size) :
    An B lo (w'.heap.size + 1) (w'.alloc (.cells #[.bool n, .slice ao len len] 24)) w'.heap.size n ao len c e v :=
  ⟨Pr.new _ _ _ _, h.1.same fun a e => Below.heap_alloc _ _ _ (h.2 a e).2, by omega, by omega, fun a e => by have := h.2 a e; omega, by simp⟩

/-- The helper is, of an answer and the document's integer. -/
theorem isA {n : Bool} {ao : Option Addr} {len : Nat} {c e v v' : Int} {nw : Bool} {wo : Option Addr} {wl wc : Nat} {w0 w : World} (hb0 : Below w0.heap.size w0 w) (hA : AnsE w0.heap.size w n ao len c e v) (hB : Big w nw wo wl wc v') (hv : e = 0 → v' = v) :
    Calls Tryd.prog 38 #[.agg #[.bool n, .slice ao len len], .int .i64 c, .agg #[.bool nw, .slice wo wl wc], .int .i64 e] w fun r w' => r = .returned (.bool true) ∧ Below w0.heap.size w0 w' ∧ (∀ b, b < w.heap.size → Apart ao b → w'.heap[b]? = w.heap[b]?) ∧ w.heap.size ≤ w'.heap.size := by
  have hl := hB.len
  rcases hA with ⟨h0, rfl, rfl, rfl, rfl⟩ | ⟨rfl, ⟨h1, rfl, hN⟩ | ⟨h1, rfl, rfl, rfl, rfl⟩⟩
  · refine (isR_bad c h0 nw wo wl wc w).mono ?_
    rintro r w' ⟨rfl, hb⟩
    exact ⟨rfl, hb0.trans (hb.mono hb0.size), fun b h1 _ => hb.block b h1, hb.size⟩
  · obtain rfl := hv rfl
    refine (isR_good n ao len v' nw wo wl wc w0 w hb0 hN hB (by omega)).mono ?_
    rintro r w' ⟨rfl, hb, hs⟩
    exact ⟨rfl, hb, hs⟩
  · obtain rfl := hv rfl
    refine (isR_long nw wo wl wc w (by omega)).mono ?_
    rintro r w' ⟨rfl, hb⟩
    exact ⟨rfl, hb0.trans (hb.mono hb0.size), fun b h1 _ => hb.block b h1, hb.size⟩

theorem AnsO.of_ans {bad : Bool} {B : Nat} {w w' : World} {n : Bool} {ao : Option Addr} {len : Nat} {c e v : Int} (h : Ans bad w w' n ao len c v) (he : e = if bad then 10 else 0) (hB : B ≤ w.heap.size) : AnsO B w w' n ao len c e v := by
  rcases h with ⟨rfl, rfl, rfl, rfl, rfl⟩ | ⟨rfl, ⟨h1, rfl, hN⟩ | ⟨h1, rfl, rfl, rfl, rfl⟩⟩
  · exact ⟨.inl ⟨by rw [he]; decide, by rw [he]; rfl, rfl, rfl, rfl⟩, fun a e => by cases e⟩
  · exact ⟨.inr ⟨he, .inl ⟨h1, rfl, hN.mono hB⟩⟩, fun a e => (hN.own a e).symm⟩
  · exact ⟨.inr ⟨he, .inr ⟨h1, rfl, rfl, rfl, rfl⟩⟩, fun a e => by cases e⟩
theorem bad_of {n m : Bool} {A B : List Nat} {va vb : Int} {xl yl : Nat} (ha : num n A = va) (hb : num m B = vb) (hx : xl = bl va.natAbs) (hy : yl = bl vb.natAbs) : (if (tooLong A || tooLong B) = true then (10 : Int) else 0) = if 4096 < xl ∨ 4096 < yl then 10 else 0 := by
  subst ha hb
  rw [num_abs] at hx hy
  unfold tooLong
  subst hx hy
  simp

theorem addE {B0 : Nat} {na : Bool} {aa : Option Addr} {la ca : Nat} {A : List Nat} {nb : Bool} {ab : Option Addr} {lb cb : Nat} {B : List Nat} {va vb e : Int} {w : World} (hA : Rd w aa la ca A) (hB : Rd w ab lb cb B) (ea : num na A = va) (eb : num nb B = vb) (he : e = if tooLong A || tooLong B then 10 else 0) (h0 : B0 ≤ w.heap.size) :
    Calls Tryd.prog 35 #[.agg #[.bool na, .slice aa la ca], .agg #[.bool nb, .slice ab lb cb]] w fun r w' => ∃ n ao len c, r = .returned (.tuple #[.agg #[.bool n, .slice ao len len], .int .i64 c]) ∧ AnsO B0 w w' n ao len c e (va + vb) ∧ Below w.heap.size w w' := by
  refine (Add_any na aa la ca A nb ab lb cb B w hA hB).mono ?_
  rintro r w' ⟨n, ao, len, c, rfl, hans, hb⟩
  rw [ea, eb] at hans
  exact ⟨_, _, _, _, rfl, AnsO.of_ans hans he h0, hb⟩
theorem subE {B0 : Nat} {na : Bool} {aa : Option Addr} {la ca : Nat} {A : List Nat} {nb : Bool} {ab : Option Addr} {lb cb : Nat} {B : List Nat} {va vb e : Int} {w : World} (hA : Rd w aa la ca A) (hB : Rd w ab lb cb B) (ea : num na A = va) (eb : num nb B = vb) (he : e = if tooLong A || tooLong B then 10 else 0) (h0 : B0 ≤ w.heap.size) :
    Calls Tryd.prog 36 #[.agg #[.bool na, .slice aa la ca], .agg #[.bool nb, .slice ab lb cb]] w fun r w' => ∃ n ao len c, r = .returned (.tuple #[.agg #[.bool n, .slice ao len len], .int .i64 c]) ∧ AnsO B0 w w' n ao len c e (va + -vb) ∧ Below w.heap.size w w' := by
  refine (Sub_any na aa la ca A nb ab lb cb B w hA hB).mono ?_
  rintro r w' ⟨n, ao, len, c, rfl, hans, hb⟩
  rw [ea, eb, Int.sub_eq_add_neg] at hans
  exact ⟨_, _, _, _, rfl, AnsO.of_ans hans he h0, hb⟩
theorem mulE {B0 : Nat} {na : Bool} {aa : Option Addr} {la ca : Nat} {A : List Nat} {nb : Bool} {ab : Option Addr} {lb cb : Nat} {B : List Nat} {va vb e : Int} {w : World} (hA : Rd w aa la ca A) (hB : Rd w ab lb cb B) (ea : num na A = va) (eb : num nb B = vb) (he : e = if tooLong A || tooLong B then 10 else 0) (h0 : B0 ≤ w.heap.size) :
    Calls Tryd.prog 37 #[.agg #[.bool na, .slice aa la ca], .agg #[.bool nb, .slice ab lb cb]] w fun r w' => ∃ n ao len c, r = .returned (.tuple #[.agg #[.bool n, .slice ao len len], .int .i64 c]) ∧ AnsO B0 w w' n ao len c e (va * vb) ∧ Below w.heap.size w w' := by
  refine (Mul_any na aa la ca A nb ab lb cb B w hA hB).mono ?_
  rintro r w' ⟨n, ao, len, c, rfl, hans, hb⟩
  rw [ea, eb] at hans
  exact ⟨_, _, _, _, rfl, AnsO.of_ans hans he h0, hb⟩
end Go.Proofs.YtldafoojkimdeaaDoor

namespace Lm

theorem val_take_small {L : List Nat} (k : Nat) (h : val L < P k) : val (L.take k) = val L := by
  rcases Nat.lt_or_ge k L.length with hk | hk
  · have e := val_split L k (by omega)
    rcases Nat.eq_zero_or_pos (val (L.drop k)) with h0 | h0
    · rw [h0, Nat.mul_zero] at e; omega
    · have := Nat.mul_le_mul_left (P k) h0
      rw [Nat.mul_succ, Nat.mul_zero] at this; omega
  · rw [List.take_of_length_le hk]
theorem val_drop_small {L : List Nat} (k : Nat) (h : val L < P k) : val (L.drop k) = 0 := by
  rcases Nat.lt_or_ge k L.length with hk | hk
  · have e := val_split L k (by omega)
    rcases Nat.eq_zero_or_pos (val (L.drop k)) with h0 | h0
    · exact h0
    · have := Nat.mul_le_mul_left (P k) h0
      rw [Nat.mul_succ, Nat.mul_zero] at this; omega
  · rw [List.drop_eq_nil_of_le hk]; rfl
theorem val_drop_succ (L : List Nat) (i : Nat) (h : i < L.length) : val (L.drop i) = dg L i + 4294967296 * val (L.drop (i + 1)) := by
  rw [List.drop_eq_getElem_cons h, val_cons]
  unfold dg; rw [getD_in _ _ h]

/-- The part that a row of long division divides is less than the divisor times 2^32. -/
theorem div_row {L : List Nat} {D i n : Nat} (oL : Ok L) (hi : i < L.length) (hD : D ≤ P n) (hb : val (L.drop (i + 1)) < D) :
    val ((L.drop i).take (n + 1)) = val (L.drop i) ∧ val (L.drop i) < D * 4294967296 ∧ val ((L.drop i).drop (n + 1)) = 0 := by
  have h1 : val (L.drop i) < D * 4294967296 := by
    rw [val_drop_succ L i hi]
    have := oL.dg i
    omega
  have h2 : val (L.drop i) < P (n + 1) := by
    rw [P_succ]
    exact Nat.lt_of_lt_of_le h1 (Nat.mul_le_mul_right _ hD)
  exact ⟨val_take_small _ h2, h1, val_drop_small _ h2⟩

theorem div_sum (X D p q Q a r row : Nat) (hI : X = D * (p * 4294967296 * Q) + (a + p * row)) (hr : row = D * q + r) :
    X = D * (p * (q + 4294967296 * Q)) + (a + p * r) := by
  subst hr; rw [hI]; grind

/-- One row of long division. -/
theorem div_next {L M : List Nat} {X D Q i n : Nat} (oL : Ok L) (hl : i + (n + 1) ≤ L.length) (hD0 : 0 < D) (hD : D ≤ P n)
    (hI : X = D * (P (i + 1) * Q) + val L) (hb : val (L.drop (i + 1)) < D) (hM : val M = val ((L.drop i).take (n + 1)) % D) (hMl : M.length = n + 1) :
    X = D * (P i * (val ((L.drop i).take (n + 1)) / D + 4294967296 * Q)) + val (L.take i ++ M ++ L.drop (i + (n + 1))) ∧ val ((L.take i ++ M ++ L.drop (i + (n + 1))).drop i) < D := by
  obtain ⟨h1, h2, h3⟩ := div_row oL (by omega) hD hb
  have ht : (L.take i).length = i := by rw [List.length_take]; omega
  rw [List.drop_drop] at h3
  have e1 : val (L.take i ++ M ++ L.drop (i + (n + 1))) = val (L.take i) + P i * val M := by
    rw [List.append_assoc, val_append, val_append, ht, h3]; simp
  have e2 : val ((L.take i ++ M ++ L.drop (i + (n + 1))).drop i) = val M := by
    rw [List.append_assoc, List.drop_append_of_le_length (by omega), List.drop_eq_nil_of_le (by omega), List.nil_append, val_append, h3]; simp
  rw [e1, e2]
  refine ⟨?_, by rw [hM]; exact Nat.mod_lt _ hD0⟩
  refine div_sum X D (P i) _ Q _ _ (val (L.drop i)) ?_ ?_
  · rw [← P_succ, ← val_split L i (by omega)]; exact hI
  · rw [hM, h1]; exact (Nat.div_add_mod _ _).symm

theorem P_split {la n : Nat} (h : n ≤ la) (hn : 0 < n) : P la = P (la - n + 1) * P (n - 1) := by
  rw [← P_add]; congr 1; omega
/-- Before the first row: what stands above is less than the divisor. -/
theorem div_first {L B : List Nat} {X up la n : Nat} (_oL : Ok L) (hL : val L = X * 2 ^ up) (hX : X < P la) (hLl : L.length = la + 1) (hn : 0 < n) (hnl : n ≤ la) (hup : up ≤ 31) (hBl : B.length = n) (hB : 2147483648 ≤ dg B (n - 1)) :
    val (L.drop (la - n + 1)) < val B := by
  have e := val_split L (la - n + 1) (by omega)
  have e2 := val_split B (n - 1) (by omega)
  have e3 := val_drop_succ B (n - 1) (by omega)
  have h5 : P (n - 1) * 2147483648 ≤ val B := by
    rw [e2, e3]
    refine Nat.le_trans (Nat.mul_le_mul_left (P (n - 1)) (show 2147483648 ≤ dg B (n - 1) + 4294967296 * val (B.drop (n - 1 + 1)) by omega)) (Nat.le_add_left _ _)
  have h6 : 2 ^ up ≤ 2147483648 := by
    have : 2 ^ up ≤ 2 ^ 31 := Nat.pow_le_pow_right (by decide) hup
    simpa using this
  have h7 : P (la - n + 1) * val (L.drop (la - n + 1)) < P (la - n + 1) * val B := by
    have a1 : P (la - n + 1) * val (L.drop (la - n + 1)) ≤ X * 2 ^ up := by rw [← hL]; omega
    have a2 : X * 2 ^ up ≤ X * 2147483648 := Nat.mul_le_mul_left _ h6
    have a3 : X * 2147483648 < P la * 2147483648 := Nat.mul_lt_mul_of_pos_right hX (by decide)
    have a4 : P la * 2147483648 ≤ P (la - n + 1) * val B := by
      rw [P_split hnl hn, Nat.mul_assoc]
      exact Nat.mul_le_mul_left _ h5
    omega
  exact Nat.lt_of_mul_lt_mul_left h7

/-- After the last row. -/
theorem div_last {A B D V Q u : Nat} (hu : 0 < u) (hI : A * u = D * (P 0 * Q) + V) (hD : D = B * u) (hB : 0 < B) (hV : V < D) : Q = A / B ∧ V = A % B * u := by
  subst hD
  rw [P_zero, Nat.one_mul] at hI
  have e := Nat.div_add_mod A B
  have hm := Nat.mod_lt A hB
  have h1 : Q = A * u / (B * u) := by
    rw [hI]
    rw [Nat.add_comm, Nat.add_mul_div_left _ _ (Nat.mul_pos hB hu), Nat.div_eq_of_lt hV, Nat.zero_add]
  have h2 : V = A * u % (B * u) := by
    rw [hI, Nat.add_comm, Nat.add_mul_mod_self_left, Nat.mod_eq_of_lt hV]
  refine ⟨?_, ?_⟩
  · rw [h1]; exact Nat.mul_div_mul_right _ _ hu
  · rw [h2]; exact Nat.mul_mod_mul_right u A B

theorem val_mod_dg (L : List Nat) (oL : Ok L) : val L % 4294967296 = dg L 0 := by
  cases L with
  | nil => rfl
  | cons x l =>
    rw [val_cons, Nat.add_mul_mod_self_left]
    exact Nat.mod_eq_of_lt (oL.head)

theorem down_step {p : Nat} (hp : p ≤ 32) (x d Y : Nat) (hx : x < 4294967296) (hd : d = Y % 4294967296) :
    (x + 4294967296 * Y) / 2 ^ p = ((d * 4294967296 + x) / 2 ^ p) % 4294967296 + 4294967296 * (Y / 2 ^ p) := by
  have hq : (4294967296 : Nat) = 2 ^ p * 2 ^ (32 - p) := by rw [← Nat.pow_add, Nat.add_sub_cancel' hp]
  have hpos : 0 < 2 ^ p := Nat.two_pow_pos p
  have key : ∀ Z : Nat, (x + 4294967296 * Z) / 2 ^ p = (x + 4294967296 * (Z % 2 ^ p)) / 2 ^ p + 4294967296 * (Z / 2 ^ p) := by
    intro Z
    have e := Nat.div_add_mod Z (2 ^ p)
    have e2 : x + 4294967296 * Z = (x + 4294967296 * (Z % 2 ^ p)) + 2 ^ p * (4294967296 * (Z / 2 ^ p)) := by
      conv => lhs; rw [← e]
      grind
    rw [e2, Nat.add_mul_div_left _ _ hpos]
  have hlt : ∀ Z : Nat, (x + 4294967296 * (Z % 2 ^ p)) / 2 ^ p < 4294967296 := by
    intro Z
    rw [Nat.div_lt_iff_lt_mul hpos]
    have := Nat.mod_lt Z hpos
    have h3 := Nat.mul_le_mul_left 4294967296 (show Z % 2 ^ p + 1 ≤ 2 ^ p from this)
    omega
  have hm : d % 2 ^ p = Y % 2 ^ p := by
    rw [hd, hq, Nat.mod_mul_right_mod]
  rw [key Y, show d * 4294967296 + x = x + 4294967296 * d by omega, key d, Nat.add_mul_mod_self_left, hm, Nat.mod_eq_of_lt (hlt Y)]

/-- Whether a bit is lost when a number is cut at a limb and a bit. -/
theorem lost_mod (A : List Nat) (oA : Ok A) (w p : Nat) (hw : w < A.length) (hp : p ≤ 32) :
    val A % 2 ^ (32 * w + p) = val (A.take w) + P w * (dg A w % 2 ^ p) := by
  have e := val_split A w (by omega)
  have e2 : val (A.drop w) % 2 ^ p = dg A w % 2 ^ p := by
    rw [val_drop_succ A w hw]
    have hq : (4294967296 : Nat) = 2 ^ p * 2 ^ (32 - p) := by rw [← Nat.pow_add, Nat.add_sub_cancel' hp]
    rw [hq, Nat.mul_assoc, Nat.add_mul_mod_self_left]
  have h1 : val (A.take w) < P w := by
    have := val_lt (oA.take w)
    rwa [List.length_take, Nat.min_eq_left (by omega)] at this
  rw [Nat.pow_add, ← P_two, Nat.mod_mul, e, Nat.add_mul_mod_self_left, Nat.mod_eq_of_lt h1, Nat.add_mul_div_left _ _ (P_pos w), Nat.div_eq_of_lt h1, Nat.zero_add, e2]

theorem shift_split (A : List Nat) (oA : Ok A) (w p : Nat) (hw : w ≤ A.length) : val A / 2 ^ (32 * w + p) = val (A.drop w) / 2 ^ p := by
  have e := val_split A w hw
  have h1 : val (A.take w) < P w := by
    have := val_lt (oA.take w)
    rwa [List.length_take, Nat.min_eq_left (by omega)] at this
  rw [Nat.pow_add, ← P_two, ← Nat.div_div_eq_div_mul, e, Nat.add_mul_div_left _ _ (P_pos w), Nat.div_eq_of_lt h1, Nat.zero_add]
end Lm

namespace Lm

/-- The highest limbs of what is divided (X) and of the divisor (Y): p is the power of the place below them. -/
structure Kn (X Y p r0 r1 r2 d1 d2 : Nat) : Prop where
  hp : 0 < p
  x : p * ((r0 * 4294967296 + r1) * 4294967296 + r2) ≤ X
  x' : X < p * ((r0 * 4294967296 + r1) * 4294967296 + r2 + 1)
  y : p * (d1 * 4294967296 + d2) ≤ Y
  y' : Y < p * (d1 * 4294967296 + d2 + 1)
  lt : X < Y * 4294967296
  high : 2147483648 ≤ d1
  b1 : r1 < 4294967296
  b2 : r2 < 4294967296
  e1 : d1 < 4294967296
  e2 : d2 < 4294967296

variable {X Y p r0 r1 r2 d1 d2 : Nat}

theorem Kn.pos (h : Kn X Y p r0 r1 r2 d1 d2) : 0 < Y := by
  have h1 := h.y
  have h2 : 0 < p * (d1 * 4294967296 + d2) := Nat.mul_pos h.hp (by have := h.high; omega)
  omega

/-- The quotient times the divisor's two highest limbs is at most the three highest limbs. -/
theorem Kn.two (h : Kn X Y p r0 r1 r2 d1 d2) : X / Y * (d1 * 4294967296 + d2) ≤ (r0 * 4294967296 + r1) * 4294967296 + r2 := by
  have h1 : X / Y * Y ≤ X := Nat.div_mul_le_self X Y
  have h2 : X / Y * (p * (d1 * 4294967296 + d2)) ≤ X / Y * Y := Nat.mul_le_mul_left _ h.y
  have h3 := h.x'
  have h4 : p * (X / Y * (d1 * 4294967296 + d2)) < p * ((r0 * 4294967296 + r1) * 4294967296 + r2 + 1) := by
    have e : X / Y * (p * (d1 * 4294967296 + d2)) = p * (X / Y * (d1 * 4294967296 + d2)) := Nat.mul_left_comm _ _ _
    omega
  have := Nat.lt_of_mul_lt_mul_left h4
  omega

theorem Kn.one (h : Kn X Y p r0 r1 r2 d1 d2) : X / Y * d1 ≤ r0 * 4294967296 + r1 := by
  have h1 := h.two
  have h2 := h.b2
  have e : X / Y * (d1 * 4294967296 + d2) = X / Y * d1 * 4294967296 + X / Y * d2 := by rw [Nat.mul_add, Nat.mul_assoc]
  omega

theorem Kn.small (h : Kn X Y p r0 r1 r2 d1 d2) : X / Y < 4294967296 := by
  rw [Nat.div_lt_iff_lt_mul h.pos, Nat.mul_comm]; exact h.lt

theorem Kn.first (h : Kn X Y p r0 r1 r2 d1 d2) : X / Y ≤ (r0 * 4294967296 + r1) / d1 := by
  rw [Nat.le_div_iff_mul_le (by have := h.high; omega)]
  exact h.one

theorem Kn.top (h : Kn X Y p r0 r1 r2 d1 d2) : r0 * 4294967296 + r1 ≤ d1 * 4294967296 + d2 := by
  have h1 : p * ((r0 * 4294967296 + r1) * 4294967296 + r2) < p * ((d1 * 4294967296 + d2 + 1) * 4294967296) := by
    have a := h.x
    have b := h.lt
    have c := Nat.mul_lt_mul_of_pos_right h.y' (show 0 < 4294967296 by decide)
    rw [Nat.mul_assoc] at c
    omega
  have := Nat.lt_of_mul_lt_mul_left h1
  omega

theorem Kn.first_le (h : Kn X Y p r0 r1 r2 d1 d2) : (r0 * 4294967296 + r1) / d1 ≤ 4294967297 := by
  have h1 := h.top
  have h2 := h.high
  have h3 := h.e2
  have h4 : (r0 * 4294967296 + r1) / d1 < 4294967298 := (Nat.div_lt_iff_lt_mul (by omega)).2 (by omega)
  omega

/-- A guess that fails the test is too great. -/
theorem Kn.less (h : Kn X Y p r0 r1 r2 d1 d2) {t s : Nat} (ht : t * d1 + s = r0 * 4294967296 + r1) (hc : s * 4294967296 + r2 < t * d2) : X / Y < t := by
  have h1 := h.two
  have h2 : (r0 * 4294967296 + r1) * 4294967296 + r2 < t * (d1 * 4294967296 + d2) := by
    have e : t * (d1 * 4294967296 + d2) = t * d1 * 4294967296 + t * d2 := by rw [Nat.mul_add, Nat.mul_assoc]
    rw [e, ← ht, Nat.add_mul, Nat.add_assoc]
    exact Nat.add_lt_add_left hc _
  exact Nat.lt_of_mul_lt_mul_right (a := d1 * 4294967296 + d2) (by omega)

/-- A guess that passes it is at most once too great. -/
theorem Kn.most (h : Kn X Y p r0 r1 r2 d1 d2) {t s : Nat} (ht : t * d1 + s = r0 * 4294967296 + r1) (hc : t * d2 ≤ s * 4294967296 + r2) (hb : t ≤ 4294967296) : t ≤ X / Y + 1 := by
  have h2 : t * (d1 * 4294967296 + d2) ≤ (r0 * 4294967296 + r1) * 4294967296 + r2 := by
    have e : t * (d1 * 4294967296 + d2) = t * d1 * 4294967296 + t * d2 := by rw [Nat.mul_add, Nat.mul_assoc]
    rw [e, ← ht, Nat.add_mul, Nat.add_assoc]
    exact Nat.add_le_add_left hc _
  have h3 : t * Y ≤ t * (p * (d1 * 4294967296 + d2 + 1)) := Nat.mul_le_mul_left _ (Nat.le_of_lt h.y')
  have e3 : t * (p * (d1 * 4294967296 + d2 + 1)) = p * (t * (d1 * 4294967296 + d2)) + p * t := by
    rw [Nat.mul_left_comm, Nat.mul_add t, Nat.mul_one, Nat.mul_add]
  have h4 : p * (t * (d1 * 4294967296 + d2)) ≤ p * ((r0 * 4294967296 + r1) * 4294967296 + r2) := Nat.mul_le_mul_left _ h2
  have h5 : p * t ≤ p * (d1 * 4294967296 + d2) := Nat.mul_le_mul_left _ (by have := h.high; omega)
  have h6 : t * Y ≤ X + Y := by
    have a := h.x
    have b := h.y
    omega
  have h7 : X < (X / Y + 1) * Y := by
    have := Nat.lt_div_mul_add h.pos (a := X)
    rw [Nat.add_mul, Nat.one_mul]; exact this
  have h8 : t * Y < (X / Y + 2) * Y := by
    have e : (X / Y + 2) * Y = (X / Y + 1) * Y + Y := by rw [Nat.add_mul, Nat.add_mul]; omega
    omega
  have := Nat.lt_of_mul_lt_mul_right h8
  omega

/-- Where the rest passes the base the guess passes too. -/
theorem Kn.broke (h : Kn X Y p r0 r1 r2 d1 d2) {t s : Nat} (ht : t * d1 + s = r0 * 4294967296 + r1) (hs : 4294967296 ≤ s) (hb : t < 4294967296) : t ≤ X / Y + 1 := by
  refine h.most ht ?_ (by omega)
  have h1 : t * d2 ≤ 4294967296 * 4294967296 := Nat.mul_le_mul (by omega) (by have := h.e2; omega)
  have h2 : 4294967296 * 4294967296 ≤ s * 4294967296 := Nat.mul_le_mul_right _ hs
  omega

/-- Behind the greatest first guess the rest does not pass the base. -/
theorem Kn.great (h : Kn X Y p r0 r1 r2 d1 d2) {s : Nat} (ht : 4294967297 * d1 + s = r0 * 4294967296 + r1) : s + d1 < 4294967296 := by
  have h1 := h.top
  have h2 := h.e2
  omega

theorem Kn.of_limbs {R D : List Nat} {m : Nat} (hR : R.length = m + 3) (hD : D.length = m + 2) (oR : Ok R) (oD : Ok D) (hh : 2147483648 ≤ dg D (m + 1)) (hlt : val R < val D * 4294967296) :
    Kn (val R) (val D) (P m) (dg R (m + 2)) (dg R (m + 1)) (dg R m) (dg D (m + 1)) (dg D m) := by
  have r3 : R.take (m + 3) = R := List.take_of_length_le (by omega)
  have d3 : D.take (m + 2) = D := List.take_of_length_le (by omega)
  have s1 := val_take_dg R (m + 2) (by omega)
  have s2 := val_take_dg R (m + 1) (by omega)
  have s3 := val_take_dg R m (by omega)
  have u1 := val_take_dg D (m + 1) (by omega)
  have u2 := val_take_dg D m (by omega)
  have l1 := val_lt (oR.take m)
  have l2 := val_lt (oD.take m)
  rw [List.length_take, Nat.min_eq_left (by omega)] at l1 l2
  rw [r3] at s1
  rw [d3] at u1
  rw [P_succ, P_succ] at s1
  rw [P_succ] at s2 u1
  have eX : val R = val (R.take m) + P m * ((dg R (m + 2) * 4294967296 + dg R (m + 1)) * 4294967296 + dg R m) := by rw [s1, s2, s3]; grind
  have eY : val D = val (D.take m) + P m * (dg D (m + 1) * 4294967296 + dg D m) := by rw [u1, u2]; grind
  refine ⟨P_pos m, by omega, ?_, by omega, ?_, hlt, hh, oR.dg _, oR.dg _, oD.dg _, oD.dg _⟩
  · rw [Nat.mul_add _ _ 1, Nat.mul_one]; omega
  · rw [Nat.mul_add _ _ 1, Nat.mul_one]; omega
end Lm
