/- Walks: slices.Backward over a row of two terms, for every loop body that leaves what is not its own. No condition but those that each theorem names. Walks: what a round of List leaves. No condition but those that each theorem names. Walks: List of two terms without arguments that are no variables. No condition but those that the theorem names. -/
import Derived.RangeFuncNested
import Derived.RangeFuncBound
import Derived.RangeFuncCalls
import Derived.RangeFuncLeaves
import Derived.Shelf.Abstract
import Derived.OwnWalkIn
import Derived.TacticsInMore
import Derived.LoopNIn
import Derived.LoopIn
import Derived.Test.YtiaddfedaikaiaaGreatDoorT14m
import Derived.Test.YtiaddfedaikaiaaGreatDoorT17m
import Derived.Deep.Quiet
import Derived.Deep.QuietTactic
import Derived.BigQuiet
import Derived.OrdersIn
import Derived.TacticsIn
import Derived.RegionTactic
import Derived.Test.YtiaddfedaikaiaaGreatDoorProg
import Derived.Test.YtiaddfedaikaiaaGreatDoorT53m
namespace Go.Proofs.YtiaddfedaikaiaaGreatDoor
open Go.RowKit Go.Shelf

/-- What a loop body leaves: each block of cells but its own. -/
structure Lv (K : Nat) (W W' : World) : Prop where
  size : W.heap.size ≤ W'.heap.size
  same : ∀ k cs t m, k ≠ K → W.heap[k]? = some (.cells cs t m) → W'.heap[k]? = some (.cells cs t m)
theorem Lv.of_below {K : Nat} {W W' : World} (h : Below W.heap.size W W') : Lv K W W' := ⟨h.size, fun k _cs _t _m _ hk => (h.block k (lt_of_block hk)).trans hk⟩
theorem Lv.of_grown {K : Nat} {W W' : World} (h : W.grownBy W' (some K)) : Lv K W W' := ⟨h.size, fun k cs t m hne hk => (h.block k (lt_of_block hk) (by simpa using hne)).trans hk⟩
abbrev El := Tm × Option Addr × Nat
def El.val (x : El) : Value := x.1.val x.2.1 x.2.2
end Go.Proofs.YtiaddfedaikaiaaGreatDoor

namespace Go.Proofs.YtiaddfedaikaiaaGreatDoor
open Go.RowKit Go.Shelf

mutual
theorem TmAt.same {w w' : World} (hb : ∀ b o v, w.cell? ⟨b, o, none⟩ = some v → w'.cell? ⟨b, o, none⟩ = some v) : ∀ {t : Tm} {p : Option Addr}, TmAt w t p → TmAt w' t p
  | .mk _ _ _ _ _ l, p, h => by
    unfold TmAt at h ⊢
    refine ⟨h.1, ?_⟩
    rcases h.2 with h | ⟨b, o, e, h⟩
    · exact .inl h
    · exact .inr ⟨b, o, e, RowT.same hb h⟩
theorem RowT.same {w w' : World} (hb : ∀ b o v, w.cell? ⟨b, o, none⟩ = some v → w'.cell? ⟨b, o, none⟩ = some v) : ∀ {l : List Tm} {b o : Nat}, RowT w l b o → RowT w' l b o
  | [], _, _, _ => by unfold RowT; trivial
  | t :: l, b, o, h => by
    unfold RowT at h ⊢
    obtain ⟨⟨p, cap, h1, h2⟩, h3⟩ := h
    exact ⟨⟨p, cap, ⟨hb _ _ _ h1.c0, hb _ _ _ h1.c1, hb _ _ _ h1.c2, hb _ _ _ h1.c3, hb _ _ _ h1.c4, hb _ _ _ h1.c5⟩, TmAt.same hb h2⟩, RowT.same hb h3⟩
end
/-- The world without the cells of its first blocks. -/
def above (W : World) (B : Nat) : World := { W with heap := W.heap.mapIdx fun i o => if i < B then .deferred none else o }
theorem above_heap {W : World} {B k : Nat} (hk : B ≤ k) : (above W B).heap[k]? = W.heap[k]? := by
  have h : ¬ k < B := by omega
  simp [above, Array.getElem?_mapIdx, h]
theorem above_low {W : World} {B k : Nat} (hk : k < B) (o : Obj) (h : (above W B).heap[k]? = some o) : o = .deferred none := by
  simp [above, Array.getElem?_mapIdx, hk] at h
  exact h.2.symm
theorem above_cell {W : World} {B b o : Nat} {v : Value} (h : (above W B).cell? ⟨b, o, none⟩ = some v) : B ≤ b ∧ W.cell? ⟨b, o, none⟩ = some v := by
  by_cases e : b < B
  · cases hg : (above W B).heap[b]? with
    | none => simp [World.cell?, hg] at h
    | some x =>
      have := above_low e x hg
      subst this
      simp [World.cell?, hg] at h
  · have e : B ≤ b := by omega
    exact ⟨e, (World.cell?_of_block (a := ⟨b, o, none⟩) (above_heap e)).symm.trans h⟩
theorem cell_above {W : World} {B b o : Nat} {v : Value} (hb : B ≤ b) (h : W.cell? ⟨b, o, none⟩ = some v) : (above W B).cell? ⟨b, o, none⟩ = some v :=
  (World.cell?_of_block (a := ⟨b, o, none⟩) (above_heap hb)).trans h
theorem above_keep {W W' : World} {B : Nat} {t : Tm} {p : Option Addr} (h : TmAt (above W B) t p) (hb : ∀ b o v, B ≤ b → W.cell? ⟨b, o, none⟩ = some v → W'.cell? ⟨b, o, none⟩ = some v) : TmAt (above W' B) t p ∧ TmAt W' t p :=
  ⟨h.same fun b o v hc => cell_above (above_cell hc).1 (hb b o v (above_cell hc).1 (above_cell hc).2), h.same fun b o v hc => hb b o v (above_cell hc).1 (above_cell hc).2⟩
theorem above_mono {W : World} {A B : Nat} {t : Tm} {p : Option Addr} (h : TmAt (above W B) t p) (hA : A ≤ B) : TmAt (above W A) t p := h.same fun _ _ _ hc => cell_above (by have := (above_cell hc).1; omega) (above_cell hc).2
end Go.Proofs.YtiaddfedaikaiaaGreatDoor

namespace Go.Proofs.YtiaddfedaikaiaaGreatDoor
open Go.RowKit Go.Shelf

theorem results_pair {fn : Func} {p u : Tmp} {b : Nat} {t : Tm} {q : Option Addr} {cap : Nat} (h : fn.results = #[.cell p 25, .tmp u]) (tmps : Array Value) (W : World) (x : Value) (hp : tmps.getD p undef = .pointer (some ⟨b, 0, none⟩) ∧ tmps.getD u undef = x) (hg : W.heap[b]? = some (tobj t q cap)) :
    (results fn tmps).run Tryz.prog W = .ok (.tuple #[t.val q cap, x]) W := by
  have hl := run_loadVar_row (P := Tryz.prog) W b 25 25 _ _ _ hg Tryz.underlying25 rfl (by kernel_rfl)
  rw [results_cell_tmp h, hp.1, hp.2]
  simp [asAddr, Result.andThen, hl, Tm.val]
end Go.Proofs.YtiaddfedaikaiaaGreatDoor
