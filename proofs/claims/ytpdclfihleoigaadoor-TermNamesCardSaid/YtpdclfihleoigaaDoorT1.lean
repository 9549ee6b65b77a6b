/- Trees of terms: plain, and how they lie in memory. No condition but those that each theorem names. -/
import Derived.Test.YtpdclfihleoigaaDoorBigMem
import Derived.WalkKit
import Derived.WalkSpells
import Derived.Lib.Hide
import Derived.Deep.QuietTactic
import Derived.BigQuiet
namespace Go.Proofs.YtpdclfihleoigaaDoor
open Go.RowKit

/-- A tree. -/
inductive Tm where
  | mk (kind : Int) (name num : ByteArray) (bits var : Int) (args : List Tm)
namespace Tm
def kind : Tm → Int | .mk k _ _ _ _ _ => k
def name : Tm → ByteArray | .mk _ n _ _ _ _ => n
def num : Tm → ByteArray | .mk _ _ n _ _ _ => n
def bits : Tm → Int | .mk _ _ _ b _ _ => b
def var : Tm → Int | .mk _ _ _ _ v _ => v
def args : Tm → List Tm | .mk _ _ _ _ _ a => a
end Tm
mutual
/-- How many nodes. -/
def nodes : Tm → Nat
  | .mk _ _ _ _ _ l => nodesL l + 1
def nodesL : List Tm → Nat
  | [] => 0
  | t :: l => nodes t + nodesL l
end
theorem nodes_pos (t : Tm) : 0 < nodes t := by cases t; simp [nodes]
theorem nodes_args (t : Tm) : nodes t = nodesL t.args + 1 := by cases t; simp [nodes, Tm.args]
theorem nodesL_take : ∀ (l : List Tm) (k : Nat) (h : k < l.length), nodesL (l.take (k + 1)) = nodesL (l.take k) + nodes l[k]
  | [], k, h => by simp at h
  | t :: l, 0, _ => by simp [nodesL]
  | t :: l, k + 1, h => by
    have := nodesL_take l k (by simpa using h)
    simp only [List.take_succ_cons, nodesL, List.getElem_cons_succ]
    omega
theorem nodesL_take_le (l : List Tm) : ∀ k, nodesL (l.take k) ≤ nodesL l := by
  induction l with
  | nil => intro k; simp
  | cons t l ih =>
    intro k
    cases k with
    | zero => simp [nodesL]
    | succ k => have := ih k; simp only [List.take_succ_cons, nodesL]; omega
theorem nodes_mem {l : List Tm} {t : Tm} (h : t ∈ l) : nodes t ≤ nodesL l := by
  induction l with
  | nil => cases h
  | cons u l ih =>
    rcases List.mem_cons.1 h with rfl | h
    · simp [nodesL]
    · have := ih h; simp only [nodesL]; omega
theorem nodes_lt {t : Tm} {k : Nat} (h : k < t.args.length) : nodes t.args[k] < nodes t := by
  have := nodes_mem (List.getElem_mem h)
  rw [nodes_args t]
  omega
/-- A term's value, where its arguments lie from p on. -/
def Tm.val (t : Tm) (p : Option Addr) (cap : Nat) : Value := .agg #[.int .i64 t.kind, .string t.name, .string t.num, .int .u64 t.bits, .int .i64 t.var, .slice p t.args.length cap]
/-- Six cells from an offset on hold the term's fields. -/
structure Six (w : World) (b o : Nat) (t : Tm) (p : Option Addr) (cap : Nat) : Prop where
  c0 : w.cell? ⟨b, o, none⟩ = some (.int .i64 t.kind)
  c1 : w.cell? ⟨b, o + 1, none⟩ = some (.string t.name)
  c2 : w.cell? ⟨b, o + 2, none⟩ = some (.string t.num)
  c3 : w.cell? ⟨b, o + 3, none⟩ = some (.int .u64 t.bits)
  c4 : w.cell? ⟨b, o + 4, none⟩ = some (.int .i64 t.var)
  c5 : w.cell? ⟨b, o + 5, none⟩ = some (.slice p t.args.length cap)
mutual
/-- The arguments of a term, and theirs, lie from p on. -/
def TmAt (w : World) : Tm → Option Addr → Prop
  | .mk _ _ _ _ _ l, p => l.length ≤ maxLen ∧ (l = [] ∨ ∃ b o, p = some ⟨b, o, none⟩ ∧ RowT w l b o)
def RowT (w : World) : List Tm → Nat → Nat → Prop
  | [], _, _ => True
  | t :: l, b, o => (∃ p cap, Six w b o t p cap ∧ TmAt w t p) ∧ RowT w l b (o + 6)
end
theorem heap_cell_keep {w w' : World} {b o : Nat} {v : Value} (hb : Below w.heap.size w w') (h : w.cell? ⟨b, o, none⟩ = some v) : w'.cell? ⟨b, o, none⟩ = some v := by
  have hlt := World.block_lt_of_cell? w _ h
  exact (hb.cell (by simpa using hlt)).trans h
theorem Six.keep {w w' : World} {b o : Nat} {t : Tm} {p : Option Addr} {cap : Nat} (h : Six w b o t p cap) (hb : Below w.heap.size w w') : Six w' b o t p cap :=
  ⟨heap_cell_keep hb h.c0, heap_cell_keep hb h.c1, heap_cell_keep hb h.c2, heap_cell_keep hb h.c3, heap_cell_keep hb h.c4, heap_cell_keep hb h.c5⟩
mutual
theorem TmAt.keep {w w' : World} (hb : Below w.heap.size w w') : ∀ {t : Tm} {p : Option Addr}, TmAt w t p → TmAt w' t p
  | .mk _ _ _ _ _ l, p, h => by
    unfold TmAt at h ⊢
    refine ⟨h.1, ?_⟩
    rcases h.2 with h | ⟨b, o, e, h⟩
    · exact .inl h
    · exact .inr ⟨b, o, e, RowT.keep hb h⟩
theorem RowT.keep {w w' : World} (hb : Below w.heap.size w w') : ∀ {l : List Tm} {b o : Nat}, RowT w l b o → RowT w' l b o
  | [], _, _, _ => by unfold RowT; trivial
  | t :: l, b, o, h => by
    unfold RowT at h ⊢
    obtain ⟨⟨p, cap, h1, h2⟩, h3⟩ := h
    exact ⟨⟨p, cap, h1.keep hb, TmAt.keep hb h2⟩, RowT.keep hb h3⟩
end
theorem RowT.get {w : World} : ∀ {l : List Tm} {b o : Nat}, RowT w l b o → ∀ k (h : k < l.length), ∃ p cap, Six w b (o + k * 6) l[k] p cap ∧ TmAt w l[k] p
  | [], _, _, _, k, h => by simp at h
  | t :: l, b, o, h, 0, _ => by
    unfold RowT at h
    simpa using h.1
  | t :: l, b, o, h, k + 1, hk => by
    unfold RowT at h
    obtain ⟨p, cap, h1, h2⟩ := RowT.get h.2 k (by simpa using hk)
    rw [show o + 6 + k * 6 = o + (k + 1) * 6 by omega] at h1
    exact ⟨p, cap, by simpa using h1, by simpa using h2⟩
theorem TmAt.get {w : World} {t : Tm} {p : Option Addr} (h : TmAt w t p) (k : Nat) (hk : k < t.args.length) : ∃ b o, p = some ⟨b, o, none⟩ ∧ ∃ q cap, Six w b (o + k * 6) t.args[k] q cap ∧ TmAt w t.args[k] q := by
  cases t with
  | mk _ _ _ _ _ l =>
    unfold TmAt at h
    rcases h.2 with rfl | ⟨b, o, e, h⟩
    · simp [Tm.args] at hk
    · exact ⟨b, o, e, h.get k hk⟩
theorem TmAt.len {w : World} {t : Tm} {p : Option Addr} (h : TmAt w t p) : t.args.length ≤ maxLen := by
  cases t with
  | mk _ _ _ _ _ l => unfold TmAt at h; exact h.1
end Go.Proofs.YtpdclfihleoigaaDoor
