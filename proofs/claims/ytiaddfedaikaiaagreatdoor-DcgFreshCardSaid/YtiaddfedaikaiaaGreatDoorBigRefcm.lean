/- Walks of the document's answer: cut, bit, laid. No condition but those that each theorem names. Walks of the document's answer: Less, add, sub. No condition but those that each theorem names. Walks of the document's answer: Of, Small. No condition but those that each theorem names. Walks of the document's answer: Small, Minus, Sign. No condition but those that each theorem names. Walks of the document's answer: Minus, Sign, Sum, Cmp. No condition but those that each theorem names. Walks of the document's answer: Cmp, To, Same. No condition but those that each theorem names. Walks of the document's answer: To, Same. No condition but those that each theorem names. Walks of the document's answer: Same where it says yes, Int. No condition but those that each theorem names. Walks of the law's helpers lent and held. No condition but those that each theorem names. Walk of the law's helper held. No condition but those that the theorem names. What the laws over the document's answer share: normal integers that are the same; boxes of integers, of lent integers and of the document's integers. No condition but those that each theorem names. Walks of the document's answer: Long, long, Times. No condition but those that each theorem names. Walks of the law's helper is. No condition but those that each theorem names. Answers that the laws hold against the document's, in the call's own memory: what is kept while another one is written over. No condition but those that each theorem names. -/
import Derived.Deep.RegionHeld3
import Derived.Test.YtiaddfedaikaiaaGreatDoorBigImemm
import Derived.Test.YtiaddfedaikaiaaGreatDoorBigW39m
import Derived.Laws.AppendOwnNone
import Derived.RegionTactic
import Derived.BigRegion
import Derived.IntWalk
namespace Go.Proofs.YtiaddfedaikaiaaGreatDoor
open Go.RowKit Lm

end Go.Proofs.YtiaddfedaikaiaaGreatDoor

namespace Go.Proofs.YtiaddfedaikaiaaGreatDoor
open Go.RowKit Lm

theorem Gri.snoc {B : Nat} {w : World} {v : Value} {L : List Nat} {z : Int} (x : Nat) (h : w.ownsRow B 3 1 v (L.length + 1) (bigInts L ++ [.int .i64 z])) (hz : z = (x : Int)) : Gri B w v (L ++ [x]) := by
  unfold Gri; rw [List.length_append]; rw [ints_snoc _ _ hz] at h; exact h

end Go.Proofs.YtiaddfedaikaiaaGreatDoor

namespace Go.Proofs.YtiaddfedaikaiaaGreatDoor
open Go.RowKit Lm

/-- A store into a block older than the bits does not touch them. -/
theorem Ri.other {w : World} {ao : Option Addr} {len cap : Nat} {A : List Nat} (h : Ri w ao len cap A) {b : Nat} {x y : Value} {t : TypeId} (hp : w.heap[b]? = some (.cells #[x, y] t (0, 0))) (hx : ∀ z, x ≠ .int .i64 z) (hy : ∀ z, y ≠ .int .i64 z) (x' y' : Value) :
    Ri ((w.setCell ⟨b, 0, none⟩ x').setCell ⟨b, 1, none⟩ y') ao len cap A :=
  ⟨h.size, h.room, h.most, fun h0 => by
    obtain ⟨g, off, e, hc⟩ := h.cells h0
    refine ⟨g, off, e, fun i hi => ?_⟩
    have hgb : g ≠ b := by
      rintro rfl
      have := hc i hi
      simp [World.cell?, hp] at this
      rcases Nat.lt_or_ge (off + i) 2 with h2 | h2
      · rcases (show off + i = 0 ∨ off + i = 1 by omega) with h3 | h3
        · rw [h3] at this; simp at this; exact hx _ this
        · rw [h3] at this; simp at this; exact hy _ this
      · rw [List.getElem?_eq_none (by simp; omega)] at this; cases this
    rw [World.cell?_setCell_other _ _ _ _ (fun e => hgb (congrArg Addr.block e).symm), World.cell?_setCell_other _ _ _ _ (fun e => hgb (congrArg Addr.block e).symm)]
    exact hc i hi⟩
theorem Big.other {w : World} {n : Bool} {ao : Option Addr} {len cap : Nat} {v : Int} (h : Big w n ao len cap v) {b : Nat} {x y : Value} {t : TypeId} (hp : w.heap[b]? = some (.cells #[x, y] t (0, 0))) (hx : ∀ z, x ≠ .int .i64 z) (hy : ∀ z, y ≠ .int .i64 z) (x' y' : Value) :
    Big ((w.setCell ⟨b, 0, none⟩ x').setCell ⟨b, 1, none⟩ y') n ao len cap v := by
  obtain ⟨L, h1, h2⟩ := h
  exact ⟨L, h1.other hp hx hy _ _, h2⟩

end Go.Proofs.YtiaddfedaikaiaaGreatDoor

namespace Go.Proofs.YtiaddfedaikaiaaGreatDoor
open Go.RowKit Lm

end Go.Proofs.YtiaddfedaikaiaaGreatDoor

namespace Go.Proofs.YtiaddfedaikaiaaGreatDoor
open Go.RowKit Lm

end Go.Proofs.YtiaddfedaikaiaaGreatDoor

namespace Go.Proofs.YtiaddfedaikaiaaGreatDoor
open Go.RowKit Lm

end Go.Proofs.YtiaddfedaikaiaaGreatDoor

namespace Go.Proofs.YtiaddfedaikaiaaGreatDoor
open Go.RowKit Lm

end Go.Proofs.YtiaddfedaikaiaaGreatDoor

namespace Go.Proofs.YtiaddfedaikaiaaGreatDoor
open Go.RowKit Lm

end Go.Proofs.YtiaddfedaikaiaaGreatDoor

namespace Go.Proofs.YtiaddfedaikaiaaGreatDoor
open Go.RowKit Lm

/-- The owner's marks. -/
def mk3 (A : List Nat) : List Nat := A ++ [77, 77, 77]
theorem mk3_len (A : List Nat) : (mk3 A).length = A.length + 3 := by simp [mk3]
/-- An integer lent: the limbs lie in a block of the call's own, marks behind them. -/
structure Lent (B : Nat) (w : World) (g la cap : Nat) (A : List Nat) : Prop where
  own : Grow B w (.slice (some ⟨g, 0, none⟩) (la + 3) cap) (mk3 A)
  size : A.length = la
theorem Lent.keep {B : Nat} {w w' : World} {g la cap : Nat} {A : List Nat} (h : Lent B w g la cap A) (hb : Below w.heap.size w w') : Lent B w' g la cap A :=
  ⟨World.ownsRow.kept h.own (row := none) ⟨hb.os, hb.tape, hb.output, hb.size, fun k hk _ => hb.block k hk⟩ (by simp [Value.ownBlock]), h.size⟩
theorem Lent.rd {B : Nat} {w : World} {g la cap : Nat} {A : List Nat} (h : Lent B w g la cap A) (ho : Ok A) (hl : la ≤ 4294967296) : Rd w (some ⟨g, 0, none⟩) la cap A := by
  have hk : Ok (mk3 A) := ho.append (((Ok.nil.cons (by omega)).cons (by omega)).cons (by omega))
  obtain ⟨ao, cp, e, hR⟩ := h.own.rd hk (by rw [mk3_len, h.size]; omega)
  simp only [Value.slice.injEq] at e
  obtain ⟨rfl, e2, rfl⟩ := e
  have := hR.take (n := la) (by omega)
  rwa [show (mk3 A).take la = A by unfold mk3; rw [← h.size]; simp] at this

end Go.Proofs.YtiaddfedaikaiaaGreatDoor

namespace Go.Proofs.YtiaddfedaikaiaaGreatDoor
open Go.RowKit Lm

theorem Grow.cells {B : Nat} {w : World} {g n cap : Nat} {C : List Nat} (h : Grow B w (.slice (some ⟨g, 0, none⟩) n cap) C) : B ≤ g ∧ n = C.length ∧ n ≤ cap ∧ (∀ k, k < C.length → w.cell? ⟨g, k, none⟩ = some (.int .u32 (dg C k : Int))) ∧ (∀ k, w.frozen? ⟨g, k, none⟩ = false) := by
  rcases h.2 with ⟨h', _⟩ | ⟨g', cap', cur, h', hb, hg, hnc, hcm, hcs, htk⟩
  · simp at h'
  · simp only [Value.slice.injEq, Option.some.injEq, Addr.mk.injEq, and_true] at h'
    obtain ⟨rfl, rfl, rfl⟩ := h'
    refine ⟨hb, rfl, hnc, fun k hk => ?_, fun k => by simp [World.frozen?, hg]⟩
    have h1 := lims_get C k hk
    rw [← htk, List.getElem?_take_of_lt (by omega)] at h1
    simpa [World.cell?, hg] using h1

end Go.Proofs.YtiaddfedaikaiaaGreatDoor

namespace Go.Proofs.YtiaddfedaikaiaaGreatDoor
open Go.RowKit Lm

/-- An integer as the document has them: normal limbs that can be read. -/
def Nrm (w : World) (n : Bool) (o : Option Addr) (l c : Nat) (v : Int) : Prop := ∃ L, Rd w o l c L ∧ Top L ∧ num n L = v ∧ (L = [] → n = false)
theorem Nrm.keep {w w' : World} {n : Bool} {o : Option Addr} {l c : Nat} {v : Int} (h : Nrm w n o l c v) (hb : Below w.heap.size w w') : Nrm w' n o l c v := by
  obtain ⟨L, h1, h2⟩ := h; exact ⟨L, h1.keep hb, h2⟩
/-- A variable's block that holds a struct of two cells. -/
def Pr (w : World) (g : Nat) (t : TypeId) (x y : Value) : Prop := w.heap[g]? = some (.cells #[x, y] t (0, 0))
theorem Pr.keep {w w' : World} {g : Nat} {t : TypeId} {x y : Value} (h : Pr w g t x y) (hb : Below w.heap.size w w') : Pr w' g t x y := heap_keep h hb
theorem Pr.lt {w : World} {g : Nat} {t : TypeId} {x y : Value} (h : Pr w g t x y) : g < w.heap.size := lt_of_block h
theorem Pr.alloc {w : World} {g : Nat} {t : TypeId} {x y : Value} (h : Pr w g t x y) (o : Obj) : Pr (w.alloc o) g t x y := h.keep ((Below.refl _ _).alloc (Nat.le_refl _) _)
theorem Pr.new (w : World) (t : TypeId) (x y : Value) : Pr (w.alloc (.cells #[x, y] t)) w.heap.size t x y := heap_alloc_new w _
theorem Lent.alloc {B : Nat} {w : World} {g la cap : Nat} {A : List Nat} (h : Lent B w g la cap A) (o : Obj) : Lent B (w.alloc o) g la cap A := h.keep ((Below.refl _ _).alloc (Nat.le_refl _) _)
theorem Lent.same {B : Nat} {w w' : World} {g la cap : Nat} {A : List Nat} (h : Lent B w g la cap A) (hg : w'.heap[g]? = w.heap[g]?) : Lent B w' g la cap A := by
  refine ⟨?_, h.size⟩
  have h1 := h.own
  unfold Grow at *
  rcases h1.2 with ⟨h', _⟩ | ⟨g', cap', cur, h', hb', hg', r⟩
  · simp at h'
  · have h2 := h'
    simp only [Value.slice.injEq, Option.some.injEq, Addr.mk.injEq, and_true] at h2
    obtain ⟨rfl, _⟩ := h2
    exact ⟨h1.1, .inr ⟨g, cap', cur, h', hb', by rw [hg]; exact hg', r⟩⟩
end Go.Proofs.YtiaddfedaikaiaaGreatDoor

namespace Go.Proofs.YtiaddfedaikaiaaGreatDoor
open Go.RowKit Lm

end Go.Proofs.YtiaddfedaikaiaaGreatDoor

namespace Go.Proofs.YtiaddfedaikaiaaGreatDoor
open Go.RowKit Lm

theorem Own.lt {base : Nat} {w : World} {ao : Option Addr} {len : Nat} {L : List Nat} (h : Own base w ao len L) : ∀ a, ao = some a → a.block < w.heap.size ∧ base ≤ a.block := by
  intro a e
  rcases h with ⟨_, h, _⟩ | ⟨_, _, g, h3, h4, h5⟩
  · rw [h] at e; cases e
  · rw [h4] at e; cases e; exact ⟨h5.lt, h3⟩
theorem Own.cells {base : Nat} {w : World} {ao : Option Addr} {len : Nat} {L : List Nat} (h : Own base w ao len L) : len = L.length ∧ (ao = none → len = 0 ∧ len = 0) ∧ ∀ b, ao = some b → ∀ j u, (lims L)[j]? = some u → w.cell? (b.add j) = some u := by
  rcases h with ⟨rfl, h, rfl⟩ | ⟨h1, h2, g, h3, h4, h5⟩
  · exact ⟨rfl, fun _ => ⟨rfl, rfl⟩, fun b e => by rw [h] at e; cases e⟩
  · refine ⟨h2, (fun e => by (rw [h4] at e; cases e)), fun b e j u hj => ?_⟩
    rw [h4] at e; cases e
    have hlt : j < L.length := by
      rcases Nat.lt_or_ge j L.length with h | h
      · exact h
      · rw [List.getElem?_eq_none (by rw [lims_len]; exact h)] at hj; cases hj
    have := h5.cell j hlt
    rw [lims_get L j hlt] at hj
    simp only [Option.some.injEq] at hj
    rcases Nat.eq_zero_or_pos j with rfl | h0
    · simpa [Addr.add, ← hj] using this
    · simpa [Addr.add, ← hj, Nat.ne_of_gt h0] using this

end Go.Proofs.YtiaddfedaikaiaaGreatDoor

namespace Go.Proofs.YtiaddfedaikaiaaGreatDoor
open Go.RowKit Lm

/-- An answer: the error that is asked for, or the integer, or nothing and the error of what is too long. -/
def AnsE (B : Nat) (w : World) (n : Bool) (ao : Option Addr) (len : Nat) (c e v : Int) : Prop :=
  (e ≠ 0 ∧ c = e ∧ n = false ∧ ao = none ∧ len = 0) ∨ (e = 0 ∧ ((bl v.natAbs ≤ 4096 ∧ c = 0 ∧ Num B w n ao len v) ∨ (4096 < bl v.natAbs ∧ c = 10 ∧ n = false ∧ ao = none ∧ len = 0)))

theorem Num.own {B : Nat} {w : World} {n : Bool} {ao : Option Addr} {len : Nat} {v : Int} (h : Num B w n ao len v) : ∀ a, ao = some a → a.block < w.heap.size ∧ B ≤ a.block := by
  obtain ⟨L, _, _, h3, _⟩ := h; exact h3.lt
/-- A call's answer, laid in new memory. -/
def AnsO (B : Nat) (w w' : World) (n : Bool) (ao : Option Addr) (len : Nat) (c e v : Int) : Prop :=
  AnsE B w' n ao len c e v ∧ ∀ a, ao = some a → w.heap.size ≤ a.block ∧ a.block < w'.heap.size

/-- An answer in a variable's block; both lie from lo on, below hi. -/
structure An (B lo hi : Nat) (w : World) (g : Nat) (n : Bool) (ao : Option Addr) (len : Nat) (c e v : Int) : Prop where
  box : Pr w g 196 (.bool n) (.slice ao len len)
  ans : AnsE B w n ao len c e v
  low : lo ≤ g
  high : g < hi
  own : ∀ a, ao = some a → lo ≤ a.block ∧ a.block < g
  top : hi ≤ w.heap.size

theorem AnsE.same {B : Nat} {w w' : World} {n : Bool} {ao : Option Addr} {len : Nat} {c e v : Int} (h : AnsE B w n ao len c e v) (hs : ∀ a, ao = some a → w'.heap[a.block]? = w.heap[a.block]?) : AnsE B w' n ao len c e v := by
  rcases h with h | ⟨h0, ⟨h1, h2, L, k1, k2, k3, k4⟩ | h⟩
  · exact .inl h
  · refine .inr ⟨h0, .inl ⟨h1, h2, L, k1, k2, ?_, k4⟩⟩
    rcases k3 with k3 | ⟨l1, l2, g, l3, l4, l5⟩
    · exact .inl k3
    · exact .inr ⟨l1, l2, g, l3, l4, ⟨by rw [hs _ l4]; exact l5.block⟩⟩
  · exact .inr ⟨h0, .inr h⟩
theorem An.keep {B lo hi : Nat} {w w' : World} {g : Nat} {n : Bool} {ao : Option Addr} {len : Nat} {c e v : Int} (h : An B lo hi w g n ao len c e v) (hb : Below w.heap.size w w') : An B lo hi w' g n ao len c e v :=
  ⟨h.box.keep hb, h.ans.same fun a ha => hb.block _ (by have := (h.own a ha).2; have := h.high; have := h.top; omega), h.low, h.high, h.own, Nat.le_trans h.top hb.size⟩
theorem An.alloc {B lo hi : Nat} {w : World} {g : Nat} {n : Bool} {ao : Option Addr} {len : Nat} {c e v : Int} (h : An B lo hi w g n ao len c e v) (o : Obj) : An B lo hi (w.alloc o) g n ao len c e v := h.keep ((Below.refl _ _).alloc (Nat.le_refl _) _)
theorem An.new {B lo : Nat} {w w' : World} {n : Bool} {ao : Option Addr} {len : Nat} {c e v : Int} (h : AnsO B w w' n ao len c e v) (hlo : lo ≤ w.heap.size) (hz : w.heap.size ≤ w'.heap.size) :
    An B lo (w'.heap.size + 1) (w'.alloc (.cells #[.bool n, .slice ao len len] 196)) w'.heap.size n ao len c e v :=
  ⟨Pr.new _ _ _ _, h.1.same fun a e => Below.heap_alloc _ _ _ (h.2 a e).2, by omega, by omega, fun a e => by have := h.2 a e; omega, by simp⟩

end Go.Proofs.YtiaddfedaikaiaaGreatDoor
