/- The law TermLists: it answers true of any trees as elements and end, where the tables of unicode/utf8 lie as its text lays them. -/
import Derived.Test.YtkapejcbmonfkaaGreatDoorT63
import Derived.Test.YtkapejcbmonfkaaGreatDoorT59m
import Derived.Test.YtkapejcbmonfkaaGreatDoorT36m
namespace Go.Proofs.YtkapejcbmonfkaaGreatDoor
open Go.RowKit

theorem ListM.chg {w w' : World} {F : List Nat} {q : Option Addr} {n c : Nat} {l : List Tm} {S : List Nat} (h : ListM w q n c l S) (hc : Chg F w w') (hd : ∀ x ∈ foot q S, x ∉ F) : ListM w' q n c l S := by
  have hs : ∀ x ∈ foot q S, w'.heap[x]? = w.heap[x]? := fun x hx => hc.same x (h.lt x hx) (hd x hx)
  refine ⟨h.len, ?_, fun g e => ⟨(h.mine g e).1, (h.mine g e).2.same (hs g (by rw [e]; simp [foot])) fun x hx => hs x (by rw [e]; simp [foot, hx])⟩, fun x hx => Nat.lt_of_lt_of_le (h.lt x hx) hc.size⟩
  rcases h.row with k | ⟨g, arr, e, k1, k2⟩
  · exact .inl k
  · exact .inr ⟨g, arr, e, (hs g (by rw [e]; simp [foot])).trans k1, k2⟩
theorem ListM.at_ {w : World} {q : Option Addr} {n c : Nat} {l : List Tm} {S : List Nat} (h : ListM w q n c l S) : ListAt w l q := by
  rcases h.row with ⟨_, k, _⟩ | ⟨g, arr, e, _⟩
  · exact .inl (List.length_eq_zero_iff.1 (by rw [← h.len, k]))
  · exact .inr ⟨g, 0, e, (h.mine g e).2.at_⟩
theorem Chg.low {w w1 w2 : World} {S : List Nat} (h : Below w.heap.size w w1) (hc : Chg S w1 w2) (hs : ∀ x ∈ S, w.heap.size ≤ x) : Below w.heap.size w w2 :=
  ⟨hc.os.trans h.os, hc.tape.trans h.tape, hc.output.trans h.output, Nat.le_trans h.size hc.size, fun k hk => (hc.same k (Nat.lt_of_lt_of_le hk h.size) (fun e => by have := hs k e; omega)).trans (h.block k hk)⟩
end Go.Proofs.YtkapejcbmonfkaaGreatDoor
