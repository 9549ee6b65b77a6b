/- Plain mathematics: a list of limbs (the lowest first) stands for a number; what the loops of package bigint do to such lists. No condition but those that each theorem names. How limbs lie in memory: a slice of uint32 that reads as a list of limbs. Plain facts on worlds; no condition but those that each theorem names. -/
import Derived.Test.YtiaddfedaikaiaaGreatDoorChecked
import Derived.WalkKit
import Derived.WalkSpells
import Derived.Deep.QuietTactic
import Derived.BigQuiet
import Derived.Laws.CopyOwn
namespace Lm

/-- The number that limbs make. -/
def val : List Nat → Nat
  | [] => 0
  | x :: l => x + 4294967296 * val l

/-- The limb at a place; nought beyond. -/
def dg (l : List Nat) (i : Nat) : Nat := l.getD i 0

/-- Each limb is below 2^32. -/
def Ok (l : List Nat) : Prop := ∀ x ∈ l, x < 4294967296

/-- A power of the base. -/
def P (n : Nat) : Nat := 4294967296 ^ n

theorem P_succ (n : Nat) : P (n + 1) = P n * 4294967296 := Nat.pow_succ _ _
theorem getD_in (l : List Nat) (i : Nat) (h : i < l.length) : l.getD i 0 = l[i] := by simp [List.getD, h]
theorem getD_out (l : List Nat) (i : Nat) (h : l.length ≤ i) : l.getD i 0 = 0 := by simp [List.getD, h]

theorem val_cons (x : Nat) (l : List Nat) : val (x :: l) = x + 4294967296 * val l := rfl

theorem val_append (a b : List Nat) : val (a ++ b) = val a + P a.length * val b := by
  induction a with
  | nil => simp [val, P]
  | cons x l ih =>
    rw [List.cons_append, val_cons, ih, val_cons, List.length_cons, P_succ]
    grind

theorem val_snoc (a : List Nat) (x : Nat) : val (a ++ [x]) = val a + P a.length * x := by
  rw [val_append]; simp [val]

theorem Ok.nil : Ok [] := by intro x h; cases h
theorem Ok.cons {x : Nat} {l : List Nat} (h : x < 4294967296) (k : Ok l) : Ok (x :: l) := by
  intro y hy; rcases List.mem_cons.1 hy with rfl | h'
  · exact h
  · exact k y h'
theorem Ok.tail {x : Nat} {l : List Nat} (h : Ok (x :: l)) : Ok l := fun y hy => h y (List.mem_cons_of_mem _ hy)
theorem Ok.head {x : Nat} {l : List Nat} (h : Ok (x :: l)) : x < 4294967296 := h x List.mem_cons_self
theorem Ok.append {a b : List Nat} (h : Ok a) (k : Ok b) : Ok (a ++ b) := by
  intro y hy; rcases List.mem_append.1 hy with h' | h'
  · exact h y h'
  · exact k y h'
theorem Ok.snoc {a : List Nat} {x : Nat} (h : Ok a) (k : x < 4294967296) : Ok (a ++ [x]) := h.append (Ok.nil.cons k)
theorem Ok.take {l : List Nat} (h : Ok l) (n : Nat) : Ok (l.take n) := fun y hy => h y (List.mem_of_mem_take hy)
theorem Ok.drop {l : List Nat} (h : Ok l) (n : Nat) : Ok (l.drop n) := fun y hy => h y (List.mem_of_mem_drop hy)
theorem Ok.getD {l : List Nat} (h : Ok l) (i : Nat) : l.getD i 0 < 4294967296 := by
  by_cases hi : i < l.length
  · rw [getD_in _ _ hi]; exact h _ (List.getElem_mem hi)
  · rw [getD_out _ _ (by omega)]; decide
theorem Ok.dg {l : List Nat} (h : Ok l) (i : Nat) : dg l i < 4294967296 := h.getD i
theorem Ok.set {l : List Nat} (h : Ok l) (i : Nat) {x : Nat} (k : x < 4294967296) : Ok (l.set i x) := by
  intro y hy
  rcases List.mem_or_eq_of_mem_set hy with h' | h'
  · exact h y h'
  · rw [h']; exact k

theorem val_lt {l : List Nat} (h : Ok l) : val l < P l.length := by
  induction l with
  | nil => simp [val, P]
  | cons x l ih =>
    have h1 := ih h.tail
    have h2 := h.head
    rw [val_cons, List.length_cons, P_succ]
    omega

theorem take_succ_getD (l : List Nat) (k : Nat) (h : k < l.length) : l.take (k + 1) = l.take k ++ [l.getD k 0] := by
  rw [List.take_succ_eq_append_getElem h, getD_in _ _ h]

theorem val_take_succ (l : List Nat) (k : Nat) (h : k < l.length) : val (l.take (k + 1)) = val (l.take k) + P k * l.getD k 0 := by
  rw [take_succ_getD l k h, val_snoc, List.length_take, Nat.min_eq_left (by omega)]

/-! ### Noughts at the high end -/

/-- Without noughts at the high end. -/
def tl : List Nat → List Nat
  | [] => []
  | x :: l => if tl l = [] ∧ x = 0 then [] else x :: tl l

/-- The highest limb, if there is one, is not nought. -/
def Top (l : List Nat) : Prop := ∀ h : l ≠ [], l.getLast h ≠ 0

theorem tl_snoc_zero (l : List Nat) : tl (l ++ [0]) = tl l := by
  induction l with
  | nil => rfl
  | cons x l ih => rw [List.cons_append, tl, ih, tl]

theorem tl_snoc (l : List Nat) {x : Nat} (h : x ≠ 0) : tl (l ++ [x]) = l ++ [x] := by
  induction l with
  | nil => simp [tl, h]
  | cons y l ih => rw [List.cons_append, tl, ih, if_neg (by simp)]

theorem tl_val (l : List Nat) : val (tl l) = val l := by
  induction l with
  | nil => rfl
  | cons x l ih =>
    rw [tl, val_cons]
    split
    · rename_i h; rw [← ih, h.1, h.2]; rfl
    · rw [val_cons, ih]

theorem tl_take (l : List Nat) : tl l = l.take (tl l).length := by
  induction l with
  | nil => rfl
  | cons x l ih =>
    rw [tl]
    split
    · rfl
    · rw [List.length_cons, List.take_succ_cons, ← ih]

theorem tl_length_le (l : List Nat) : (tl l).length ≤ l.length := by
  have h := congrArg List.length (tl_take l)
  rw [List.length_take] at h
  omega

theorem tl_top (l : List Nat) : Top (tl l) := by
  induction l with
  | nil => intro h; exact absurd rfl h
  | cons x l ih =>
    rw [tl]
    split
    · intro h; exact absurd rfl h
    · rename_i hn
      intro h
      by_cases h' : tl l = []
      · have e : x :: tl l = [x] := by rw [h']
        intro hx
        refine hn ⟨h', ?_⟩
        simp only [e, List.getLast_singleton] at hx
        exact hx
      · rw [List.getLast_cons h']; exact ih h'

theorem Top.tl {l : List Nat} (h : Top l) : tl l = l := by
  by_cases hl : l = []
  · subst hl; rfl
  · rw [← List.dropLast_concat_getLast hl]; exact tl_snoc _ (h hl)

/-- What the loop of 'trim' knows: all from n on are noughts. -/
theorem tl_take_of_zeros (l : List Nat) (n : Nat) (h : n < l.length) (hz : l.getD n 0 = 0) : tl (l.take (n + 1)) = tl (l.take n) := by
  rw [take_succ_getD l n h, hz, tl_snoc_zero]

theorem tl_take_of_top (l : List Nat) (n : Nat) (h : n < l.length) (hz : l.getD n 0 ≠ 0) : tl (l.take (n + 1)) = l.take (n + 1) := by
  rw [take_succ_getD l n h, tl_snoc _ hz]

/-! ### Bits -/

/-- How many bits a number has. -/
def bl (n : Nat) : Nat := if n = 0 then 0 else n.log2 + 1

theorem bl_le (n k : Nat) : bl n ≤ k ↔ n < 2 ^ k := by
  unfold bl
  split
  · rename_i h; subst h; simp [Nat.pow_pos]
  · rename_i h; rw [← Nat.log2_lt h]; omega

theorem bl_unique {n k : Nat} (h1 : n < 2 ^ k) (h2 : 2 ^ k ≤ 2 * n) : bl n = k := by
  have a := (bl_le n k).2 h1
  have b : ¬ bl n ≤ k - 1 := by
    rw [bl_le]
    intro h
    cases k with
    | zero => simp at h1; subst h1; simp at h2
    | succ k => rw [Nat.pow_succ] at h2; simp at h; omega
  by_cases hk : k = 0
  · omega
  · omega

theorem P_two (n : Nat) : P n = 2 ^ (32 * n) := by
  unfold P; rw [Nat.pow_mul]

/-- The bits of normal limbs, by the highest one. -/
theorem bl_snoc (a : List Nat) (x : Nat) (ha : Ok a) (h0 : x ≠ 0) : bl (val (a ++ [x])) = a.length * 32 + bl x := by
  have hx1 : x < 2 ^ bl x := (bl_le x (bl x)).1 (Nat.le_refl _)
  have hpos : bl x ≠ 0 := by unfold bl; rw [if_neg h0]; omega
  have hx2 : 2 ^ (bl x - 1) ≤ x := by
    have := mt (bl_le x (bl x - 1)).2 (by omega); omega
  rw [val_snoc]
  have hv := val_lt ha
  have hp := P_two a.length
  have e : 2 ^ (a.length * 32 + bl x) = P a.length * 2 ^ bl x := by rw [hp, Nat.pow_add, Nat.mul_comm 32]
  have e2 : 2 ^ bl x = 2 * 2 ^ (bl x - 1) := by rw [← Nat.pow_succ']; congr 1; omega
  apply bl_unique
  · rw [e]
    have := Nat.mul_le_mul_left (P a.length) (show x + 1 ≤ 2 ^ bl x by omega)
    rw [Nat.mul_add] at this
    omega
  · rw [e, e2]
    have := Nat.mul_le_mul_left (P a.length) hx2
    grind

theorem getLast_getD (l : List Nat) (h : l ≠ []) : l.getLast h = l.getD (l.length - 1) 0 := by
  have : 0 < l.length := List.length_pos_iff.2 h
  rw [List.getLast_eq_getElem, getD_in _ _ (by omega)]

theorem bl_top {l : List Nat} (ho : Ok l) (ht : Top l) (h : l ≠ []) : bl (val l) = (l.length - 1) * 32 + bl (l.getD (l.length - 1) 0) := by
  have e := List.dropLast_concat_getLast h
  have k := bl_snoc l.dropLast (l.getLast h) (by rw [List.dropLast_eq_take]; exact ho.take _) (ht h)
  rw [e, List.length_dropLast, getLast_getD l h] at k
  exact k

/-! ### Comparing -/

/-! ### Sums and differences -/

end Lm

namespace Lm
/-! ### The same, by 'dg' -/
theorem val_take_dg (l : List Nat) (k : Nat) (h : k < l.length) : val (l.take (k + 1)) = val (l.take k) + P k * dg l k := val_take_succ l k h
theorem tl_take_zero (l : List Nat) (n : Nat) (h : n < l.length) (hz : dg l n = 0) : tl (l.take (n + 1)) = tl (l.take n) := tl_take_of_zeros l n h hz
theorem tl_take_top (l : List Nat) (n : Nat) (h : n < l.length) (hz : dg l n ≠ 0) : tl (l.take (n + 1)) = l.take (n + 1) := tl_take_of_top l n h hz
theorem bl_dg {l : List Nat} (ho : Ok l) (ht : Top l) (h : l ≠ []) : bl (val l) = (l.length - 1) * 32 + bl (dg l (l.length - 1)) := bl_top ho ht h
theorem dg_set_ne (l : List Nat) (i j x : Nat) (h : i ≠ j) : dg (l.set i x) j = dg l j := by
  unfold dg; simp [List.getD, List.getElem?_set_ne h]
theorem dg_append_right (a b : List Nat) (i : Nat) (h : a.length ≤ i) : dg (a ++ b) i = dg b (i - a.length) := by
  unfold dg; simp [List.getD, List.getElem?_append_right h]
theorem dg_drop (l : List Nat) (k i : Nat) : dg (l.drop k) i = dg l (k + i) := by
  unfold dg; simp [List.getD, List.getElem?_drop]
theorem dg_take (l : List Nat) (k i : Nat) (h : i < k) : dg (l.take k) i = dg l i := by
  unfold dg; simp [List.getD, h]
end Lm

namespace Go.Proofs.YtiaddfedaikaiaaGreatDoor
open Go.RowKit Lm

/-- Kept from the walk. -/
theorem hid {p : Prop} (h : p) : Hid p := h

/-- The slice of that address, length and capacity reads as these limbs. -/
structure Rd (w : World) (ao : Option Addr) (len cap : Nat) (A : List Nat) : Prop where
  size : A.length = len
  ok : Ok A
  room : len ≤ cap
  most : len ≤ 70368744177664
  cells : 0 < len → ∃ b off, ao = some ⟨b, off, none⟩ ∧ ∀ i, i < len → w.cell? ⟨b, off + i, none⟩ = some (.int .u32 (dg A i : Int))

theorem Rd.keep {w w' : World} {ao : Option Addr} {len cap : Nat} {A : List Nat} (h : Rd w ao len cap A) (hb : Below w.heap.size w w') : Rd w' ao len cap A :=
  ⟨h.size, h.ok, h.room, h.most, fun h0 => by
    obtain ⟨b, off, e, hc⟩ := h.cells h0
    exact ⟨b, off, e, fun i hi => (hb.cell (World.block_lt_of_cell? w _ (hc i hi))).trans (hc i hi)⟩⟩
theorem Rd.alloc {w : World} {ao : Option Addr} {len cap : Nat} {A : List Nat} (h : Rd w ao len cap A) (o : Obj) : Rd (w.alloc o) ao len cap A :=
  h.keep ((Below.refl _ _).alloc (Nat.le_refl _) _)
theorem Rd.drew {w : World} {ao : Option Addr} {len cap : Nat} {A : List Nat} (h : Rd w ao len cap A) : Rd w.drew ao len cap A := h.keep (Below.refl _ _).drew

theorem Rd.take {w : World} {ao : Option Addr} {len cap : Nat} {A : List Nat} (h : Rd w ao len cap A) {n : Nat} (hn : n ≤ len) : Rd w ao n cap (A.take n) :=
  ⟨by rw [List.length_take, h.size]; omega, h.ok.take _, by have := h.room; omega, by have := h.most; omega, fun h0 => by
    obtain ⟨b, off, e, hc⟩ := h.cells (by omega)
    exact ⟨b, off, e, fun i hi => by rw [dg_take _ _ _ hi]; exact hc i (by omega)⟩⟩
theorem Rd.tl {w : World} {ao : Option Addr} {len cap : Nat} {A : List Nat} (h : Rd w ao len cap A) : Rd w ao (tl A).length cap (tl A) := by
  have := h.take (n := (Lm.tl A).length) (by rw [← h.size]; exact tl_length_le _)
  rwa [← tl_take] at this

/-! ### A block of limbs, known whole -/
def u32s (L : List Nat) : Array Value := (L.map fun x : Nat => Value.int .u32 (x : Int)).toArray

theorem u32s_get (L : List Nat) (i : Nat) (h : i < L.length) : (u32s L)[i]? = some (.int .u32 (dg L i : Int)) := by
  unfold u32s dg
  rw [getD_in _ _ h]
  simp [h]
theorem u32s_set (L : List Nat) (i x : Nat) : (u32s L).setIfInBounds i (.int .u32 (x : Int)) = u32s (L.set i x) := by
  unfold u32s
  rw [List.map_set]; simp

structure Rw (w : World) (g : Nat) (L : List Nat) : Prop where
  block : w.heap[g]? = some (.cells (u32s L) 220 (0, 0))

theorem Rw.lt {w : World} {g : Nat} {L : List Nat} (h : Rw w g L) : g < w.heap.size := lt_of_block h.block
theorem Rw.cell {w : World} {g : Nat} {L : List Nat} (h : Rw w g L) (i : Nat) (hi : i < L.length) : w.cell? ⟨g, i, none⟩ = some (.int .u32 (dg L i : Int)) := by
  have e := u32s_get L i hi
  simp [World.cell?, h.block, e]
theorem Rw.set {w : World} {g : Nat} {L : List Nat} (h : Rw w g L) (i x : Nat) : Rw (w.setCell ⟨g, i, none⟩ (.int .u32 (x : Int))) g (L.set i x) :=
  ⟨by rw [heap_setCell_same w g i (u32s L) 220 _ h.block, u32s_set]⟩
theorem Rw.keep {w w' : World} {g B : Nat} {L : List Nat} (h : Rw w g L) (hb : Below B w w') (hg : g < B) : Rw w' g L := ⟨by rw [hb.block g hg]; exact h.block⟩
theorem Rw.keep' {w w' : World} {g : Nat} {L : List Nat} (h : Rw w g L) (hb : Below w.heap.size w w') : Rw w' g L := h.keep hb h.lt
theorem Rw.alloc {w : World} {g : Nat} {L : List Nat} (h : Rw w g L) (o : Obj) : Rw (w.alloc o) g L := h.keep' ((Below.refl _ _).alloc (Nat.le_refl _) _)
theorem Rw.drew {w : World} {g : Nat} {L : List Nat} (h : Rw w g L) : Rw w.drew g L := h.keep' (Below.refl _ _).drew
theorem Rw.other {w : World} {g : Nat} {L : List Nat} (h : Rw w g L) {p : Addr} (hp : g ≠ p.block) (u : Value) : Rw (w.setCell p u) g L := ⟨by rw [Below.heap_setCell _ _ _ _ hp]; exact h.block⟩
theorem Rw.new (w : World) (L : List Nat) : Rw (w.alloc (.cells (u32s L) 220)) w.heap.size L := ⟨heap_alloc_new w _⟩

theorem Rw.rd {w : World} {g : Nat} {L : List Nat} (h : Rw w g L) (ho : Ok L) (off n cap : Nat) (hn : off + n ≤ L.length) (hc : n ≤ cap) (hm : cap ≤ 70368744177664) :
    Rd w (some ⟨g, off, none⟩) n cap ((L.drop off).take n) :=
  ⟨by rw [List.length_take, List.length_drop]; omega, (ho.drop _).take _, hc, by omega, fun _ => ⟨g, off, rfl, fun i hi => by
    rw [dg_take _ _ _ hi, dg_drop]; exact h.cell _ (by omega)⟩⟩
theorem Rw.whole {w : World} {g : Nat} {L : List Nat} (h : Rw w g L) (ho : Ok L) (cap : Nat) (hc : L.length ≤ cap) (hm : cap ≤ 70368744177664) :
    Rd w (some ⟨g, 0, none⟩) L.length cap L := by
  have := h.rd ho 0 L.length cap (by omega) hc hm
  rwa [List.drop_zero, List.take_length] at this

theorem Rw.of_own {w : World} {base g n : Nat} {L : List Nat} {xs : List Value} (h : w.ownsRow base 220 1 (.slice (some ⟨g, 0, none⟩) n n) n xs) (hx : xs = L.map fun x : Nat => Value.int .u32 (x : Int)) : Rw w g L := by
  rcases h.2 with ⟨h', _⟩ | ⟨g', cap', cur, h', hb, hg, hnc, hcm, hcs, htake⟩
  · simp at h'
  · simp only [Value.slice.injEq, Option.some.injEq, Addr.mk.injEq, and_true, true_and] at h'
    obtain ⟨rfl, rfl⟩ := h'
    refine ⟨?_⟩
    rw [hg]
    have e : cur = u32s L := by
      unfold u32s
      rw [← hx, ← htake, List.take_of_length_le (by rw [Array.length_toList, hcs]; exact Nat.le_refl _)]
    rw [e]
theorem made_zeros (n m : Nat) (h : m = n) : (madeCells (Value.int .u32 0).cells m).toList = (List.replicate n 0).map fun x : Nat => Value.int .u32 (x : Int) := by
  rw [h, show (Value.int .u32 0).cells = #[Value.int .u32 0] from rfl, toList_madeCells_one]
  simp

theorem Tryz.info220 : (Tryz.prog.info? 220).map (fun i => (i.zero, i.size, i.bytes)) = some (some (.int .u32 0), 1, 4) := by kernel_rfl

/-! ### Numbers: a sign and limbs of the call's own -/
/-- The limbs lie whole in a block of their own, from block number base on; no limbs: a nil slice. -/
def Own (base : Nat) (w : World) (ao : Option Addr) (len : Nat) (L : List Nat) : Prop :=
  (L = [] ∧ ao = none ∧ len = 0) ∨ (L ≠ [] ∧ len = L.length ∧ ∃ g, base ≤ g ∧ ao = some ⟨g, 0, none⟩ ∧ Rw w g L)

/-- The number of a sign and limbs. -/
def num (n : Bool) (L : List Nat) : Int := if n then -(val L : Int) else (val L : Int)

/-- A sign and a slice of the call's own that stand for a number, normal. -/
def Num (base : Nat) (w : World) (n : Bool) (ao : Option Addr) (len : Nat) (v : Int) : Prop :=
  ∃ L, Ok L ∧ Top L ∧ Own base w ao len L ∧ (L = [] → n = false) ∧ num n L = v ∧ L.length ≤ 70368744177664

theorem Own.keep {base : Nat} {w w' : World} {ao : Option Addr} {len : Nat} {L : List Nat} (h : Own base w ao len L) (hb : Below w.heap.size w w') : Own base w' ao len L := by
  rcases h with h | ⟨h1, h2, g, h3, h4, h5⟩
  · exact .inl h
  · exact .inr ⟨h1, h2, g, h3, h4, h5.keep' hb⟩
theorem Num.keep {base : Nat} {w w' : World} {n : Bool} {ao : Option Addr} {len : Nat} {v : Int} (h : Num base w n ao len v) (hb : Below w.heap.size w w') : Num base w' n ao len v := by
  obtain ⟨L, h1, h2, h3, h4⟩ := h
  exact ⟨L, h1, h2, h3.keep hb, h4⟩
theorem Num.mono {base base' : Nat} {w : World} {n : Bool} {ao : Option Addr} {len : Nat} {v : Int} (h : Num base w n ao len v) (hb : base' ≤ base) : Num base' w n ao len v := by
  obtain ⟨L, h1, h2, h3, h4⟩ := h
  refine ⟨L, h1, h2, ?_, h4⟩
  rcases h3 with h | ⟨k1, k2, g, k3, k4, k5⟩
  · exact .inl h
  · exact .inr ⟨k1, k2, g, Nat.le_trans hb k3, k4, k5⟩
theorem Num.rd {base : Nat} {w : World} {n : Bool} {ao : Option Addr} {len : Nat} {v : Int} (h : Num base w n ao len v) : ∃ L, Rd w ao len len L ∧ Top L ∧ num n L = v ∧ (L = [] → n = false) := by
  obtain ⟨L, h1, h2, h3, h4, h5, h6⟩ := h
  refine ⟨L, ?_, h2, h5, h4⟩
  rcases h3 with ⟨rfl, rfl, rfl⟩ | ⟨k1, rfl, g, k3, rfl, k5⟩
  · exact ⟨rfl, h1, Nat.le_refl _, by omega, fun h => by omega⟩
  · exact k5.whole h1 _ (Nat.le_refl _) h6
theorem num_nil (n : Bool) : num n [] = 0 := by cases n <;> rfl
theorem num_tl (n : Bool) (A : List Nat) : num n (tl A) = num n A := by unfold num; rw [tl_val]
theorem Num.zero (base : Nat) (w : World) : Num base w false none 0 0 := ⟨[], Ok.nil, fun h => absurd rfl h, .inl ⟨rfl, rfl, rfl⟩, fun _ => rfl, rfl, by simp⟩

theorem num_abs (n : Bool) (L : List Nat) : (num n L).natAbs = val L := by unfold num; cases n <;> simp

theorem blk_keep {w w1 : World} {o : Obj} (hb : Below (w.alloc o).heap.size (w.alloc o) w1) : w1.heap[w.heap.size]? = some o := by
  rw [hb.block _ (by simp)]; exact heap_alloc_new w _
theorem two_cells {w : World} {b : Nat} {x y : Value} {t : TypeId} (h : w.heap[b]? = some (.cells #[x, y] t (0, 0))) :
    w.cell? ⟨b, 0, none⟩ = some x ∧ w.cell? ⟨b, 1, none⟩ = some y ∧ w.frozen? ⟨b, 0, none⟩ = false ∧ w.frozen? ⟨b, 1, none⟩ = false :=
  ⟨by simp [World.cell?, h], by simp [World.cell?, h], by simp [World.frozen?, h], by simp [World.frozen?, h]⟩
theorem balloc {w w1 : World} {o : Obj} (hb : Below (w.alloc o).heap.size (w.alloc o) w1) : Below w.heap.size w w1 :=
  ((Below.refl _ _).alloc (Nat.le_refl _) _).trans (hb.mono (by simp))

theorem Num.set {base : Nat} {w : World} {n : Bool} {ao : Option Addr} {len : Nat} {v : Int} (h : Num base w n ao len v) {p : Addr} (hp : p.block < base) (u : Value) : Num base (w.setCell p u) n ao len v := by
  obtain ⟨L, h1, h2, h3, h4⟩ := h
  refine ⟨L, h1, h2, ?_, h4⟩
  rcases h3 with h | ⟨k1, k2, g, k3, k4, k5⟩
  · exact .inl h
  · exact .inr ⟨k1, k2, g, k3, k4, k5.other (by omega) _⟩

/-- The answer of a call that may find its number too long: the number, or nothing and the error. -/
def Fits (w w' : World) (n : Bool) (ao : Option Addr) (len : Nat) (c : Int) (v : Int) : Prop :=
  (bl v.natAbs ≤ 4096 ∧ c = 0 ∧ Num w.heap.size w' n ao len v) ∨ (4096 < bl v.natAbs ∧ c = 10 ∧ n = false ∧ ao = none ∧ len = 0)

end Go.Proofs.YtiaddfedaikaiaaGreatDoor
