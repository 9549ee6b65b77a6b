/- Walks: List and Elements of the program and of the document, of anything. No condition but those that each theorem names. The law TermLists: it answers true of any trees as elements and end, where the tables of unicode/utf8 lie as its text lays them. -/
import Derived.Test.YtiaddfedaikaiaaGreatDoorT62
import Derived.Test.YtiaddfedaikaiaaGreatDoorT56m
import Derived.Test.YtiaddfedaikaiaaGreatDoorT36m
namespace Go.Proofs.YtiaddfedaikaiaaGreatDoor
open Go.RowKit

/-- The term of no kind. -/
def noT : Tm := leaf 0 ⟨#[]⟩ ⟨#[]⟩ 0
theorem noT_mine (w : World) : MineT w noT none 0 [] := leaf_mine w 0 ⟨#[]⟩ ⟨#[]⟩ 0
section
variable (l : List Tm) (e : Tm) (pl pe : Option Addr) (cl ce : Nat) (w : World)
end
/-- What Elements answers: elements and rest in memory of their own. -/
def elemsA (t : Tm) : List Tm × Tm := if checkErr vName numOk bitsOk t = 0 then elems t else ([], noT)
/-- A list and a rest, in memory of their own. -/
structure PairM (B : Nat) (w' : World) (t : Tm) (q : Option Addr) (n c : Nat) (S : List Nat) (r : Option Addr) (cr : Nat) (S2 : List Nat) : Prop where
  list : ListM w' q n c (elemsA t).1 S
  rest : MineT w' (elemsA t).2 r cr S2
  apart : ∀ x ∈ foot q S, x ∉ S2
  low : ∀ x ∈ foot q S, B ≤ x
  low2 : ∀ x ∈ S2, B ≤ x
theorem nil_listM (w : World) : ListM w none 0 0 [] [] := ⟨rfl, .inl ⟨rfl, rfl, rfl⟩, fun g h => (by cases h), fun x hx => (by cases hx)⟩
theorem ElemsAt.pair {B : Nat} {w' : World} {t : Tm} {v y : Value} {L : Row} {S S2 : List Nat} (h : ElemsAt B w' t v y L S S2) (hv : checkErr vName numOk bitsOk t = 0) : ∃ q n c r cr, v = .slice q n c ∧ y = (elemsA t).2.val r cr ∧ PairM B w' t q n c S r cr S2 := by
  have hA : elemsA t = elems t := by unfold elemsA; rw [if_pos hv]
  obtain ⟨q, n, c, rfl, h1, h2⟩ := h.list
  obtain ⟨r, cr, rfl, h3⟩ := h.rest
  refine ⟨q, n, c, r, cr, rfl, by rw [hA], ⟨?_, by rw [hA]; exact h3, fun x hx hx2 => ?_, fun x hx => ?_, h.low⟩⟩
  · rw [hA, ← h.same]; exact h1.listM
  · unfold foot at hx
    cases q with
    | none => exact h.apart x hx hx2
    | some a =>
      rcases List.mem_cons.1 hx with rfl | hx
      · exact h2 _ hx2 rfl
      · exact h.apart x hx hx2
  · unfold foot at hx
    cases q with
    | none => exact h1.low x hx
    | some a =>
      rcases List.mem_cons.1 hx with rfl | hx
      · exact ownBlock_le h1.row rfl
      · exact h1.low x hx
theorem elements_any (t : Tm) (p : Option Addr) (cap : Nat) (w : World) (hT : TmAt w t p) (hD : AllT DomA t) (hX : Utf w) :
    Calls Tryz.prog 145 #[t.val p cap] w fun e w' => ∃ q n c S r cr S2, e = .returned (.tuple #[.slice q n c, (elemsA t).2.val r cr, .int .i64 (checkErr vName numOk bitsOk t)]) ∧ PairM w.heap.size w' t q n c S r cr S2 ∧ Below w.heap.size w w' := by
  by_cases h : checkErr vName numOk bitsOk t = 0
  · rw [h]
    exact (elements_good t p cap w hT ⟨hD, h⟩ hX).mono fun e w' ⟨v, y, L, S, S2, h1, h2, h3⟩ => by
      obtain ⟨q, n, c, r, cr, rfl, rfl, h4⟩ := h2.pair h
      exact ⟨q, n, c, S, r, cr, S2, h1, h4, h3⟩
  · have hA : elemsA t = ([], noT) := by unfold elemsA; rw [if_neg h]
    exact (elements_bad t p cap w hT hD h hX).mono fun e w' ⟨h1, h2⟩ => ⟨none, 0, 0, [], none, 0, [], by rw [hA]; exact h1, ⟨by rw [hA]; exact nil_listM _, by rw [hA]; exact noT_mine _, fun x hx => (by cases hx), fun x hx => (by cases hx), fun x hx => (by cases hx)⟩, h2⟩
end Go.Proofs.YtiaddfedaikaiaaGreatDoor

namespace Go.Proofs.YtiaddfedaikaiaaGreatDoor
open Go.RowKit

theorem elemsN_len : ∀ (d : Nat) (t : Tm), (elemsN d t).1.length ≤ nodes t
  | 0, t => by unfold elemsN; simp
  | d + 1, t => by
    unfold elemsN
    split
    · rename_i h
      have hl := isCons_len h
      have hn := nodes_args t
      match e : t.args, hl with
      | [a, b], _ =>
        rw [e] at hn
        simp only [nodesL] at hn
        have := elemsN_len d b
        simp only [List.length_cons]
        have := nodes_pos a
        omega
    · simp
theorem ListM.chg {w w' : World} {F : List Nat} {q : Option Addr} {n c : Nat} {l : List Tm} {S : List Nat} (h : ListM w q n c l S) (hc : Chg F w w') (hd : ∀ x ∈ foot q S, x ∉ F) : ListM w' q n c l S := by
  have hs : ∀ x ∈ foot q S, w'.heap[x]? = w.heap[x]? := fun x hx => hc.same x (h.lt x hx) (hd x hx)
  refine ⟨h.len, ?_, fun g e => ⟨(h.mine g e).1, (h.mine g e).2.same (hs g (by rw [e]; simp [foot])) fun x hx => hs x (by rw [e]; simp [foot, hx])⟩, fun x hx => Nat.lt_of_lt_of_le (h.lt x hx) hc.size⟩
  rcases h.row with k | ⟨g, arr, e, k1, k2⟩
  · exact .inl k
  · exact .inr ⟨g, arr, e, (hs g (by rw [e]; simp [foot])).trans k1, k2⟩
theorem ListM.at_ {w : World} {q : Option Addr} {n c : Nat} {l : List Tm} {S : List Nat} (h : ListM w q n c l S) : ListAt w l q := by
  rcases h.row with ⟨_, k, _⟩ | ⟨g, arr, e, _⟩
  · exact .inl (List.length_eq_zero_iff.1 (by rw [← h.len, k]))
  · exact .inr ⟨g, 0, e, (h.mine g e).2.at_⟩
theorem Chg.low {w w1 w2 : World} {S : List Nat} (h : Below w.heap.size w w1) (hc : Chg S w1 w2) (hs : ∀ x ∈ S, w.heap.size ≤ x) : Below w.heap.size w w2 :=
  ⟨hc.os.trans h.os, hc.tape.trans h.tape, hc.output.trans h.output, Nat.le_trans h.size hc.size, fun k hk => (hc.same k (Nat.lt_of_lt_of_le hk h.size) (fun e => by have := hs k e; omega)).trans (h.block k hk)⟩
theorem sameT_same (t : Tm) : sameT t t = true := (sameT_iff t t).2 rfl
end Go.Proofs.YtiaddfedaikaiaaGreatDoor
