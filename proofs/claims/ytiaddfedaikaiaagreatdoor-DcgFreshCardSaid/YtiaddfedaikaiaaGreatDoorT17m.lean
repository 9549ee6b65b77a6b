/- Walks: the document's makers of terms A, V, N. No condition. Walks: the document's maker of compounds F; SameInts. No condition but those that each theorem names. Walks: SameInts of two lists that are the same. No condition but those that the theorem names. -/
import Derived.Laws.ResultCell
import Derived.Test.YtiaddfedaikaiaaGreatDoorT2m
import Derived.Maps.AppendAt
import Derived.Lib.SmallJoins
import Derived.Test.YtiaddfedaikaiaaGreatDoorT10m
namespace Go.Proofs.YtiaddfedaikaiaaGreatDoor
open Go.RowKit

theorem results_tm {fn : Func} {p : Tmp} (h : fn.results = #[.cell p 25]) (tmps : Array Value) (W : World) (b : Nat) (t : Tm) (q : Option Addr) (cap : Nat) (hp : tmps.getD p undef = .pointer (some ⟨b, 0, none⟩)) (hg : W.heap[b]? = some (tobj t q cap)) :
    (results fn tmps).run Tryz.prog W = .ok (t.val q cap) W := by
  have hp' : tmps[p]?.getD undef = .pointer (some ⟨b, 0, none⟩) := by simpa using hp
  have hl := run_loadVar_row (P := Tryz.prog) W b 25 25 _ _ _ hg Tryz.underlying25 rfl (by kernel_rfl)
  simp [results, h, hp', asAddr, hl, Tm.val]
theorem six_free {W : World} {b : Nat} {c0 c1 c2 c3 c4 c5 : Value} {t : TypeId} (h : W.heap[b]? = some (.cells #[c0, c1, c2, c3, c4, c5] t (0, 0))) :
    (W.cell? ⟨b, 0, none⟩ = some c0 ∧ W.cell? ⟨b, 1, none⟩ = some c1 ∧ W.cell? ⟨b, 2, none⟩ = some c2 ∧ W.cell? ⟨b, 3, none⟩ = some c3 ∧ W.cell? ⟨b, 4, none⟩ = some c4 ∧ W.cell? ⟨b, 5, none⟩ = some c5) ∧
    (W.frozen? ⟨b, 0, none⟩ = false ∧ W.frozen? ⟨b, 1, none⟩ = false ∧ W.frozen? ⟨b, 2, none⟩ = false ∧ W.frozen? ⟨b, 3, none⟩ = false ∧ W.frozen? ⟨b, 4, none⟩ = false ∧ W.frozen? ⟨b, 5, none⟩ = false) :=
  ⟨⟨(cells_of h 0).trans rfl, (cells_of h 1).trans rfl, (cells_of h 2).trans rfl, (cells_of h 3).trans rfl, (cells_of h 4).trans rfl, (cells_of h 5).trans rfl⟩,
   ⟨by simp [World.frozen?, h], by simp [World.frozen?, h], by simp [World.frozen?, h], by simp [World.frozen?, h], by simp [World.frozen?, h], by simp [World.frozen?, h]⟩⟩
/-- A term stored whole. -/
theorem set6 {W : World} {b : Nat} {c0 c1 c2 c3 c4 c5 : Value} {t : TypeId} (h : W.heap[b]? = some (.cells #[c0, c1, c2, c3, c4, c5] t (0, 0))) (d0 d1 d2 d3 d4 d5 : Value) :
    ((((((W.setCell ⟨b, 0, none⟩ d0).setCell ⟨b, 1, none⟩ d1).setCell ⟨b, 2, none⟩ d2).setCell ⟨b, 3, none⟩ d3).setCell ⟨b, 4, none⟩ d4).setCell ⟨b, 5, none⟩ d5).heap[b]? = some (.cells #[d0, d1, d2, d3, d4, d5] t (0, 0)) := by
  have h0 := heap_setCell_same W b 0 _ _ d0 h
  have h1 := heap_setCell_same _ b 1 _ _ d1 h0
  have h2 := heap_setCell_same _ b 2 _ _ d2 h1
  have h3 := heap_setCell_same _ b 3 _ _ d3 h2
  have h4 := heap_setCell_same _ b 4 _ _ d4 h3
  exact heap_setCell_same _ b 5 _ _ d5 h4
theorem set6_below {B : Nat} {a W : World} {b : Nat} (h : Below B a W) (hb : B ≤ b) (d0 d1 d2 d3 d4 d5 : Value) :
    Below B a ((((((W.setCell ⟨b, 0, none⟩ d0).setCell ⟨b, 1, none⟩ d1).setCell ⟨b, 2, none⟩ d2).setCell ⟨b, 3, none⟩ d3).setCell ⟨b, 4, none⟩ d4).setCell ⟨b, 5, none⟩ d5) :=
  (((((h.setCell hb _).setCell hb _).setCell hb _).setCell hb _).setCell hb _).setCell hb _
/-- A term without arguments. -/
def leaf (k : Int) (s u : ByteArray) (v : Int) : Tm := .mk k s u 0 v []
theorem leaf_at (w : World) (k : Int) (s u : ByteArray) (v : Int) (p : Option Addr) : TmAt w (leaf k s u v) p := by
  unfold leaf TmAt
  exact ⟨by unfold maxLen; simp, .inl rfl⟩
end Go.Proofs.YtiaddfedaikaiaaGreatDoor

namespace Go.Proofs.YtiaddfedaikaiaaGreatDoor
open Go.RowKit Go.Joins

/-- Terms, and where their arguments lie. -/
abbrev Row := List (Tm × Option Addr × Nat)
def cellsT (x : Tm × Option Addr × Nat) : List Value := [.int .i64 x.1.kind, .string x.1.name, .string x.1.num, .int .u64 x.1.bits, .int .i64 x.1.var, .slice x.2.1 x.1.args.length x.2.2]
def flat (L : Row) : List Value := L.flatMap cellsT
theorem flat_length (L : Row) : (flat L).length = L.length * 6 := by
  induction L with
  | nil => rfl
  | cons x L ih =>
    have h : flat (x :: L) = cellsT x ++ flat L := rfl
    rw [h, List.length_append, ih]
    simp [cellsT]
    omega
theorem flat_one (L : Row) : ∀ u ∈ flat L, u.oneCell' = true := by
  intro u hu
  obtain ⟨x, _, hx⟩ := List.mem_flatMap.1 hu
  simp [cellsT] at hx
  rcases hx with rfl | rfl | rfl | rfl | rfl | rfl <;> rfl
theorem infoTerm : (Tryz.prog.info? 25).map (fun i => (i.zero, i.size, i.bytes)) = some (some (.agg #[.int .i64 0, .string ⟨#[]⟩, .string ⟨#[]⟩, .int .u64 0, .int .i64 0, .slice none 0 0]), 6, 80) := by kernel_rfl
theorem set6_grown (W : World) (b : Nat) (d0 d1 d2 d3 d4 d5 : Value) :
    W.grownBy ((((((W.setCell ⟨b, 0, none⟩ d0).setCell ⟨b, 1, none⟩ d1).setCell ⟨b, 2, none⟩ d2).setCell ⟨b, 3, none⟩ d3).setCell ⟨b, 4, none⟩ d4).setCell ⟨b, 5, none⟩ d5) (some b) := by
  have st : ∀ (A B : World) (i : Nat) (d : Value), A.grownBy B (some b) → A.grownBy (B.setCell ⟨b, i, none⟩ d) (some b) := fun A B i d h =>
    ⟨h.os, h.tape, h.output, by simpa using h.size, fun k hk hne => (Below.heap_setCell B ⟨b, i, none⟩ d k (fun e => hne (by rw [e]))).trans (h.block k hk hne)⟩
  exact st _ _ 5 _ (st _ _ 4 _ (st _ _ 3 _ (st _ _ 2 _ (st _ _ 1 _ (st _ _ 0 _ ⟨rfl, rfl, rfl, Nat.le_refl _, fun _ _ _ => rfl⟩)))))
end Go.Proofs.YtiaddfedaikaiaaGreatDoor

namespace Go.Proofs.YtiaddfedaikaiaaGreatDoor
open Go.RowKit

theorem rowI_get {w : World} {base : Nat} {v : Value} {S : List Int} (h : w.ownsRow base 3 1 v S.length (ints S)) {p : Option Addr} {cap : Nat} (hv : v = .slice p S.length cap) (k : Nat) (hk : k < S.length) : ∃ g, p = some ⟨g, 0, none⟩ ∧ w.cell? ⟨g, k, none⟩ = some (.int .i64 S[k]) := by
  rcases h.2 with ⟨h1, h2⟩ | ⟨g, cap', cur, h1, h2⟩
  · omega
  · rw [hv] at h1
    cases h1
    have hc := h.cells (g := g) (by rw [hv]; rfl) k (.int .i64 S[k]) (by simp [ints, hk])
    rw [Addr.add_lit, Nat.zero_add] at hc
    exact ⟨g, rfl, hc⟩
end Go.Proofs.YtiaddfedaikaiaaGreatDoor
