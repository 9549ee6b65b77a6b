/- Walks: slices.Reverse at []byte. -/
import Derived.Test.YtldafoojkimdeaaDoorW29
namespace Go.Proofs.YtldafoojkimdeaaDoor
open Go.RowKit Lm

def bys (L : List Nat) : List Value := L.map fun x : Nat => Value.int .u8 (x : Int)
theorem bys_len (L : List Nat) : (bys L).length = L.length := by simp [bys]
theorem bys_get (L : List Nat) (i : Nat) (h : i < L.length) : (bys L)[i]? = some (.int .u8 (dg L i : Int)) := by
  unfold bys dg; rw [getD_in _ _ h]; simp [h]
theorem bys_set (L : List Nat) (i : Nat) (x : Nat) : (bys L).set i (.int .u8 (x : Int)) = bys (L.set i x) := by
  unfold bys; rw [List.map_set]

/-- A slice of bytes of the call's own that may grow. -/
def GrowC (B : Nat) (w : World) (v : Value) (L : List Nat) : Prop := w.ownsRow B 5 1 v L.length (bys L)

/-- So it reads when k at each end are exchanged. -/
def Turned (L D : List Nat) (k : Nat) : Prop := D.length = L.length ∧ ∀ t, t < L.length → dg D t = if t < k ∨ L.length - 1 - t < k then dg L (L.length - 1 - t) else dg L t

theorem turned_zero (L : List Nat) : Turned L L 0 := ⟨rfl, fun t _ => by simp⟩
theorem turned_step {L D : List Nat} {k j : Nat} (h : Turned L D k) (hj : k + j + 1 = L.length) (hkj : k < j) : Turned L ((D.set k (dg D j)).set j (dg D k)) (k + 1) := by
  obtain ⟨hl, h⟩ := h
  refine ⟨by simp [hl], fun t ht => ?_⟩
  by_cases h1 : j = t
  · subst h1
    rw [dg_set_self _ _ _ (by simp; omega), h k (by omega), if_neg (by omega), if_pos (by omega)]
    congr 1; omega
  · rw [dg_set_ne _ _ _ _ h1]
    by_cases h2 : k = t
    · subst h2
      rw [dg_set_self _ _ _ (by omega), h j (by omega), if_neg (by omega), if_pos (by omega)]
      congr 1; omega
    · rw [dg_set_ne _ _ _ _ h2, h t ht]
      by_cases h3 : t < k ∨ L.length - 1 - t < k
      · rw [if_pos h3, if_pos (by omega)]
      · rw [if_neg h3, if_neg (by omega)]
theorem turned_end {L D : List Nat} {k : Nat} (h : Turned L D k) (hk : L.length ≤ 2 * k + 1) : D = L.reverse := by
  obtain ⟨hl, h⟩ := h
  apply List.ext_getElem (by simp [hl])
  intro t h1 h2
  have h3 := h t (by omega)
  unfold dg at h3
  rw [getD_in _ _ h1, getD_in _ _ (by omega)] at h3
  rw [h3, List.getElem_reverse]
  by_cases h4 : t < k ∨ L.length - 1 - t < k
  · rw [if_pos h4]
  · rw [if_neg h4, getD_in _ _ (by omega)]
    congr 1; omega

set_option maxRecDepth 100000 in
set_option maxHeartbeats 2000000 in
theorem reverse_any (B : Nat) (v : Value) (L : List Nat) (w : World) (hG : GrowC B w v L) (hl : L.length ≤ 5000) :
    Calls Tryd.prog 107 #[v] w fun e w' => e = .returned (.tuple #[]) ∧ GrowC B w' v L.reverse ∧ Below B w w' := by
  rcases hG.2 with ⟨rfl, hn0⟩ | ⟨g, cap, cur, rfl, hBg, hgb, hnc, hcm, hcs, htk⟩
  · have hL : L = [] := List.eq_nil_of_length_eq_zero hn0
    subst hL
    clear hn0
    go_enter Tryd.func107, Tryd.ntmps107
    go_wp2
    go_loopw [2, 3] (fun i j wr => i = .int .i64 0 ∧ j = .int .i64 (-1) ∧ Hid (wr = w)) (fun i _ _ => 0)
    case atStart => exact ⟨rfl, rfl, hid rfl⟩
    case round =>
      obtain ⟨rfl, rfl, hwr⟩ := hrel
      obtain rfl := hwr.out
      clear hwr
      go_wp2
      go_end0
      exact ⟨rfl, hG, Below.refl _ _⟩
  · clear hgb hnc hcm hcs htk
    go_enter Tryd.func107, Tryd.ntmps107
    go_wp2
    go_loopw [2, 3] (fun i j wr => ∃ (k : Nat) (jz : Int) (D : List Nat), i = .int .i64 (k : Int) ∧ j = .int .i64 jz ∧ jz ≤ (L.length : Int) - 1 - k ∧ (L.length : Int) - 1 - k ≤ jz ∧ Hid (Turned L D k) ∧
        wr.ownsRow B 5 1 (.slice (some ⟨g, 0, none⟩) L.length cap) L.length (bys D) ∧ Below B w wr) (fun i _ _ => L.length - (intOf i).toNat)
    case atStart => exact ⟨0, _, L, rfl, rfl, by omega, by omega, hid (turned_zero L), hG, Below.refl _ _⟩
    case round =>
      obtain ⟨k, jz, D, rfl, rfl, hj1, hj2, hT, hown, hbel⟩ := hrel
      by_cases hlt : (k : Int) < jz
      · obtain ⟨jn, rfl⟩ : ∃ jn : Nat, jz = (jn : Int) := ⟨jz.toNat, by omega⟩
        have hck := hown.cellAt k (by omega)
        have hcj := hown.cellAt jn (by omega)
        rw [bys_get _ _ (by have := hT.out.1; omega)] at hck hcj
        have hfk := hown.frozenAt k
        have hfj := hown.frozenAt jn
        go_wp2_with fail
        go_region
        go_wp2
        go_roundw
        case rel =>
          have h1 := (hown.stored k (Value.int .u8 (dg D jn : Int))).1
          rw [bys_set] at h1
          have h2 := (h1.stored jn (Value.int .u8 (dg D k : Int))).1
          rw [bys_set] at h2
          exact ⟨k + 1, _, _, by go_num, rfl, by omega, by omega, hid (turned_step hT.out (by omega) (by omega)), h2, ((hbel.setCell hBg _).setCell hBg _).drew⟩
        case measure => simp [intOf]; omega
      · go_wp2
        go_end0
        have := turned_end hT.out (by omega)
        subst this
        refine ⟨rfl, ?_, hbel⟩
        unfold GrowC
        rw [List.length_reverse]; exact hown
theorem chs_bys (E : List Nat) : chs E = bys (E.map dch) := by simp [chs, bys, List.map_map, Function.comp_def]
theorem GrowB.bytes {B : Nat} {w : World} {v : Value} {E : List Nat} (h : GrowB B w v E) : GrowC B w v (E.map dch) := by
  unfold GrowC; rw [List.length_map, ← chs_bys]; exact h
end Go.Proofs.YtldafoojkimdeaaDoor
