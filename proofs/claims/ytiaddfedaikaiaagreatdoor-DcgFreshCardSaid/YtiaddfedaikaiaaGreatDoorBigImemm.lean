/- Plain mathematics: a list of bits (the lowest first) stands for a number; what the loops of the document's answer do to such lists. No condition but those that each theorem names. Plain mathematics: what the loops of the document's answer do to bits where they multiply and divide. No condition but those that each theorem names. How the document's answer lies in memory: a slice of bigInts that reads as a list of numbers; an integer as a sign and bits. Plain facts on worlds; no condition but those that each theorem names. -/
import Derived.Test.YtiaddfedaikaiaaGreatDoorBigMemm
import Derived.Test.YtiaddfedaikaiaaGreatDoorBigW39m
namespace Lm

/-- The number that bits make. -/
def bv : List Nat → Nat
  | [] => 0
  | x :: l => x + 2 * bv l

/-- Each is a bit. -/
def B1 (l : List Nat) : Prop := ∀ x ∈ l, x ≤ 1

theorem bv_cons (x : Nat) (l : List Nat) : bv (x :: l) = x + 2 * bv l := rfl
theorem bv_append (a b : List Nat) : bv (a ++ b) = bv a + 2 ^ a.length * bv b := by
  induction a with
  | nil => simp [bv]
  | cons x l ih => rw [List.cons_append, bv_cons, ih, bv_cons, List.length_cons, Nat.pow_succ]; grind
theorem bv_snoc (a : List Nat) (x : Nat) : bv (a ++ [x]) = bv a + 2 ^ a.length * x := by rw [bv_append]; simp [bv]

theorem B1.nil : B1 [] := by intro x h; cases h
theorem B1.cons {x : Nat} {l : List Nat} (h : x ≤ 1) (k : B1 l) : B1 (x :: l) := by
  intro y hy; rcases List.mem_cons.1 hy with rfl | h'
  · exact h
  · exact k y h'
theorem B1.tail {x : Nat} {l : List Nat} (h : B1 (x :: l)) : B1 l := fun y hy => h y (List.mem_cons_of_mem _ hy)
theorem B1.head {x : Nat} {l : List Nat} (h : B1 (x :: l)) : x ≤ 1 := h x List.mem_cons_self
theorem B1.append {a b : List Nat} (h : B1 a) (k : B1 b) : B1 (a ++ b) := by
  intro y hy; rcases List.mem_append.1 hy with h' | h'
  · exact h y h'
  · exact k y h'
theorem B1.snoc {a : List Nat} {x : Nat} (h : B1 a) (k : x ≤ 1) : B1 (a ++ [x]) := h.append (B1.nil.cons k)
theorem B1.take {l : List Nat} (h : B1 l) (n : Nat) : B1 (l.take n) := fun y hy => h y (List.mem_of_mem_take hy)
theorem B1.drop {l : List Nat} (h : B1 l) (n : Nat) : B1 (l.drop n) := fun y hy => h y (List.mem_of_mem_drop hy)
theorem B1.dg {l : List Nat} (h : B1 l) (i : Nat) : dg l i ≤ 1 := by
  unfold Lm.dg
  by_cases hi : i < l.length
  · rw [getD_in _ _ hi]; exact h _ (List.getElem_mem hi)
  · rw [getD_out _ _ (by omega)]; decide
theorem B1.set {l : List Nat} (h : B1 l) (i : Nat) {x : Nat} (k : x ≤ 1) : B1 (l.set i x) := by
  intro y hy
  rcases List.mem_or_eq_of_mem_set hy with h' | h'
  · exact h y h'
  · rw [h']; exact k
theorem B1.tl {l : List Nat} (h : B1 l) : B1 (tl l) := by rw [tl_take]; exact h.take _

theorem bv_lt {l : List Nat} (h : B1 l) : bv l < 2 ^ l.length := by
  induction l with
  | nil => simp [bv]
  | cons x l ih =>
    have h1 := ih h.tail
    have h2 := h.head
    rw [bv_cons, List.length_cons, Nat.pow_succ]; omega
theorem bv_zeros (n : Nat) : bv (List.replicate n 0) = 0 := by
  induction n with
  | zero => rfl
  | succ n ih => rw [List.replicate_succ, bv_cons, ih]
theorem bv_take_ge (l : List Nat) (k : Nat) (h : l.length ≤ k) : bv (l.take k) = bv l := by rw [List.take_of_length_le h]
theorem dg_out (l : List Nat) (k : Nat) (h : l.length ≤ k) : dg l k = 0 := getD_out l k h
theorem bv_drop_dg (l : List Nat) (k : Nat) : bv (l.drop k) = dg l k + 2 * bv (l.drop (k + 1)) := by
  by_cases h : k < l.length
  · rw [List.drop_eq_getElem_cons h, bv_cons]; unfold dg; rw [getD_in _ _ h]
  · rw [List.drop_eq_nil_of_le (by omega), List.drop_eq_nil_of_le (by omega), dg_out l k (by omega)]; rfl
theorem bv_split (l : List Nat) (k : Nat) (h : k ≤ l.length) : bv l = bv (l.take k) + 2 ^ k * bv (l.drop k) := by
  conv => lhs; rw [← List.take_append_drop k l]
  rw [bv_append, List.length_take, Nat.min_eq_left h]
theorem bv_split_any (l : List Nat) (k : Nat) : bv l = bv (l.take k) + 2 ^ k * bv (l.drop k) := by
  by_cases h : k ≤ l.length
  · exact bv_split l k h
  · rw [bv_take_ge l k (by omega), List.drop_eq_nil_of_le (by omega)]; simp [bv]
theorem tl_bv (l : List Nat) : bv (tl l) = bv l := by
  induction l with
  | nil => rfl
  | cons x l ih =>
    rw [tl, bv_cons]
    split
    · rename_i h; rw [← ih, h.1, h.2]; rfl
    · rw [bv_cons, ih]

theorem btop_ge {l : List Nat} (h : Top l) (hl : l ≠ []) : 2 ^ (l.length - 1) ≤ bv l := by
  have e := List.dropLast_concat_getLast hl
  have hv := bv_snoc l.dropLast (l.getLast hl)
  rw [e] at hv
  rw [hv, List.length_dropLast]
  have h0 : 1 ≤ l.getLast hl := Nat.one_le_iff_ne_zero.2 (h hl)
  have := Nat.mul_le_mul_left (2 ^ (l.length - 1)) h0
  omega
/-- How long the bits of a number are. -/
theorem btop_len {l : List Nat} (h1 : B1 l) (h : Top l) : l.length = bl (bv l) := by
  by_cases hl : l = []
  · subst hl; rfl
  · have hp : 0 < l.length := List.length_pos_iff.2 hl
    have a := btop_ge h hl
    have b := bv_lt h1
    refine (bl_unique b ?_).symm
    have : 2 ^ l.length = 2 * 2 ^ (l.length - 1) := by rw [← Nat.pow_succ']; congr 1; omega
    omega
/-- The number of a sign and bits. -/
def sg (n : Bool) (L : List Nat) : Int := if n then -(bv L : Int) else (bv L : Int)
theorem sg_abs (n : Bool) (L : List Nat) : (sg n L).natAbs = bv L := by unfold sg; cases n <;> simp
theorem sg_nil (n : Bool) : sg n [] = 0 := by cases n <;> rfl
theorem sg_tl (n : Bool) (L : List Nat) : sg n (tl L) = sg n L := by unfold sg; rw [tl_bv]
/-! ### Comparing bits -/
theorem bv_above (a b : List Nat) (k : Nat) (hl : a.length = b.length) (h : ∀ j, k ≤ j → j < a.length → dg a j = dg b j) : a.drop k = b.drop k := by
  apply List.ext_getElem
  · simp [hl]
  · intro i h1 h2
    simp at h1 h2
    have := h (k + i) (by omega) (by omega)
    unfold dg at this
    rw [getD_in _ _ (by omega), getD_in _ _ (by omega)] at this
    simpa using this
/-! ### Sums and differences -/
/-! ### Limbs and bits -/
/-! ### Setting one place -/
theorem bv_set (l : List Nat) (j v : Nat) (h : j < l.length) : bv (l.set j v) + 2 ^ j * dg l j = bv l + 2 ^ j * v := by
  induction l generalizing j with
  | nil => simp at h
  | cons x l ih =>
    cases j with
    | zero => simp [bv, dg]; omega
    | succ j =>
      have := ih j (by simpa using h)
      have e : dg (x :: l) (j + 1) = dg l j := by simp [dg]
      rw [List.set_cons_succ, bv_cons, bv_cons, e, Nat.pow_succ]
      grind
/-! ### Bits into limbs -/
theorem chunk_lt {B : List Nat} (h : B1 B) (j n : Nat) : bv ((B.drop j).take n) < 2 ^ n := by
  have h1 := bv_lt ((h.drop j).take n)
  have h2 : ((B.drop j).take n).length ≤ n := by rw [List.length_take]; omega
  exact Nat.lt_of_lt_of_le h1 (Nat.pow_le_pow_right (by decide) h2)
/-! ### Products -/
end Lm

namespace Lm

theorem dg_repl (n j : Nat) : dg (List.replicate n 0) j = 0 := by
  unfold dg
  by_cases h : j < n
  · rw [getD_in _ _ (by simpa using h)]; simp
  · rw [getD_out _ _ (by simpa using h)]

/-! ### Products -/
/-! ### Quotients -/
/-- Above a place all is nought: the rest is small. -/
theorem bv_drop_lt {l : List Nat} (h1 : B1 l) {t : Nat} (h : ∀ j, t ≤ j → j < l.length → dg l j = 0) (i : Nat) (hi : i ≤ t) : bv (l.drop i) < 2 ^ (t - i) := by
  have e : bv (l.drop i) = bv ((l.drop i).take (t - i)) := by
    have s := bv_split_any (l.drop i) (t - i)
    rw [List.drop_drop, show i + (t - i) = t by omega] at s
    have z : bv (l.drop t) = 0 := by
      have := bv_above l (List.replicate l.length 0) t (by simp) (fun j a b => by rw [h j a b, dg_repl])
      rw [this, List.drop_replicate, bv_zeros]
    rw [z] at s; simpa using s
  rw [e]; exact chunk_lt h1 i (t - i)
/-- The state of the division ahead of place m - 1. -/
structure Dv (A B : List Nat) (m : Nat) (Q R : List Nat) : Prop where
  lq : Q.length = A.length
  lr : R.length = A.length
  bq : B1 Q
  br : B1 R
  zq : ∀ j, j < m → dg Q j = 0
  eq : bv A = bv Q * bv B + bv R
  lt : bv (R.drop m) < bv B
theorem Dv.skip {A B Q R : List Nat} {i : Nat} (h : Dv A B (i + 1) Q R) (hl : bv (R.drop i) < bv B) : Dv A B i Q R :=
  ⟨h.lq, h.lr, h.bq, h.br, fun j hj => h.zq j (by omega), h.eq, hl⟩
theorem Dv.take {A B Q R R' : List Nat} {i t c : Nat} (h : Dv A B (i + 1) Q R) (hi : i < A.length) (hl : bv B ≤ bv (R.drop i)) (hti : i ≤ t)
    (hz : ∀ j, t ≤ j → j < R.length → dg R j = 0) (hlen : R'.length = R.length) (hb : B1 R') (hlow : ∀ j, j < i → dg R' j = dg R j) (hhigh : ∀ j, t ≤ j → dg R' j = dg R j)
    (hv : bv R' + 2 ^ i * bv B = bv R + 2 ^ t * c) (hc : c ≤ 1) : Dv A B i (Q.set i 1) R' ∧ c = 0 := by
  have hR' : ∀ j, t ≤ j → j < R'.length → dg R' j = 0 := fun j a b => by rw [hhigh j a, hz j a (by omega)]
  have hlr := h.lr
  have hlq := h.lq
  have s1 := bv_split_any R i
  have s2 := bv_split_any R' i
  have e1 : R'.take i = R.take i := by
    apply List.ext_getElem
    · simp [hlen]
    · intro j a b
      simp at a b
      have := hlow j (by omega)
      unfold dg at this
      rw [getD_in _ _ (by omega), getD_in _ _ (by omega)] at this
      simpa using this
  have hlt := bv_drop_lt hb hR' i hti
  have hp : 2 ^ t = 2 ^ i * 2 ^ (t - i) := by rw [← Nat.pow_add]; congr 1; omega
  have hpos : 0 < 2 ^ i := Nat.pow_pos (by decide)
  have k1 : 2 ^ i * (bv (R'.drop i) + bv B) = 2 ^ i * (bv (R.drop i) + 2 ^ (t - i) * c) := by
    rw [Nat.mul_add, Nat.mul_add, ← Nat.mul_assoc, ← hp]
    rw [e1] at s2; omega
  have k2 := Nat.eq_of_mul_eq_mul_left hpos k1
  have hc0 : c = 0 := by
    rcases (show c = 0 ∨ c = 1 by omega) with rfl | rfl
    · rfl
    · omega
  subst hc0
  have hset := bv_set Q i 1 (by omega)
  rw [h.zq i (by omega)] at hset
  have hd := bv_drop_dg R i
  have hx := h.br.dg i
  have hl2 := h.lt
  refine ⟨⟨by simp [hlq], by omega, h.bq.set i (by omega), hb, fun j hj => ?_, ?_, by omega⟩, rfl⟩
  · rw [dg_set_ne _ _ _ _ (by omega)]; exact h.zq j (by omega)
  · have : bv (Q.set i 1) = bv Q + 2 ^ i := by omega
    rw [this, Nat.add_mul, h.eq]; omega
end Lm

namespace Go.Proofs.YtiaddfedaikaiaaGreatDoor
open Go.RowKit Lm

/-- The slice of that address, length and capacity reads as these bigInts. -/
structure Ri (w : World) (ao : Option Addr) (len cap : Nat) (A : List Nat) : Prop where
  size : A.length = len
  room : len ≤ cap
  most : len ≤ 4294967296
  cells : 0 < len → ∃ b off, ao = some ⟨b, off, none⟩ ∧ ∀ i, i < len → w.cell? ⟨b, off + i, none⟩ = some (.int .i64 (dg A i : Int))

theorem Ri.keep {w w' : World} {ao : Option Addr} {len cap : Nat} {A : List Nat} (h : Ri w ao len cap A) (hb : Below w.heap.size w w') : Ri w' ao len cap A :=
  ⟨h.size, h.room, h.most, fun h0 => by
    obtain ⟨b, off, e, hc⟩ := h.cells h0
    exact ⟨b, off, e, fun i hi => (hb.cell (World.block_lt_of_cell? w _ (hc i hi))).trans (hc i hi)⟩⟩
theorem Ri.alloc {w : World} {ao : Option Addr} {len cap : Nat} {A : List Nat} (h : Ri w ao len cap A) (o : Obj) : Ri (w.alloc o) ao len cap A :=
  h.keep ((Below.refl _ _).alloc (Nat.le_refl _) _)
theorem Ri.nil (w : World) : Ri w none 0 0 [] := ⟨rfl, Nat.le_refl _, by omega, fun h => by omega⟩
theorem Ri.take {w : World} {ao : Option Addr} {len cap : Nat} {A : List Nat} (h : Ri w ao len cap A) {n : Nat} (hn : n ≤ len) : Ri w ao n cap (A.take n) :=
  ⟨by rw [List.length_take, h.size]; omega, by have := h.room; omega, by have := h.most; omega, fun h0 => by
    obtain ⟨b, off, e, hc⟩ := h.cells (by omega)
    exact ⟨b, off, e, fun i hi => by rw [dg_take _ _ _ hi]; exact hc i (by omega)⟩⟩
theorem Ri.tl {w : World} {ao : Option Addr} {len cap : Nat} {A : List Nat} (h : Ri w ao len cap A) : Ri w ao (tl A).length cap (tl A) := by
  have := h.take (n := (Lm.tl A).length) (by rw [← h.size]; exact tl_length_le _)
  rwa [← tl_take] at this

def bigInts (L : List Nat) : List Value := L.map fun x : Nat => Value.int .i64 (x : Int)
theorem ints_get (L : List Nat) (i : Nat) (h : i < L.length) : (bigInts L)[i]? = some (.int .i64 (dg L i : Int)) := by
  unfold bigInts dg; rw [getD_in _ _ h]; simp [h]
theorem ints_snoc (L : List Nat) {z : Int} (x : Nat) (hz : z = (x : Int)) : bigInts L ++ [.int .i64 z] = bigInts (L ++ [x]) := by subst hz; simp [bigInts]

/-- A slice of bigInts of the call's own that may grow. -/
def Gri (B : Nat) (w : World) (v : Value) (L : List Nat) : Prop := w.ownsRow B 3 1 v L.length (bigInts L)
theorem Gri.nil (B : Nat) (w : World) : Gri B w (.slice none 0 0) [] := World.ownsRow_nil _ _ _ _
theorem Gri.alloc {B : Nat} {w : World} {v : Value} {L : List Nat} (h : Gri B w v L) (o : Obj) : Gri B (w.alloc o) v L := World.ownsRow.alloc h o
theorem Gri.keep {B : Nat} {w w' : World} {v : Value} {L : List Nat} (h : Gri B w v L) (hb : Below w.heap.size w w') : Gri B w' v L :=
  World.ownsRow.kept h (row := none) ⟨hb.os, hb.tape, hb.output, hb.size, fun k hk _ => hb.block k hk⟩ (by cases v.ownBlock <;> simp)
theorem Gri.rd {B : Nat} {w : World} {v : Value} {L : List Nat} (h : Gri B w v L) (hl : L.length ≤ 4294967296) : ∃ ao cap, v = .slice ao L.length cap ∧ Ri w ao L.length cap L := by
  have hc := h
  rcases h.2 with ⟨rfl, h0⟩ | ⟨g, cap, cur, rfl, hb, hg, hnc, hcm, hcs, htk⟩
  · have : L = [] := List.eq_nil_of_length_eq_zero h0
    subst this
    exact ⟨none, 0, rfl, rfl, Nat.le_refl _, by simp, fun h => by simp at h⟩
  · refine ⟨_, cap, rfl, rfl, hnc, hl, fun _ => ⟨g, 0, rfl, fun i hi => ?_⟩⟩
    rw [Nat.zero_add, hc.cellAt i (by omega), ints_get L i hi]
/-! ### A block of bigInts, known whole -/
structure Rwi (w : World) (g : Nat) (L : List Nat) : Prop where
  block : w.heap[g]? = some (.cells (bigInts L).toArray 3 (0, 0))
theorem Rwi.lt {w : World} {g : Nat} {L : List Nat} (h : Rwi w g L) : g < w.heap.size := lt_of_block h.block
theorem Rwi.cell {w : World} {g : Nat} {L : List Nat} (h : Rwi w g L) (i : Nat) (hi : i < L.length) : w.cell? ⟨g, i, none⟩ = some (.int .i64 (dg L i : Int)) := by
  have e := ints_get L i hi
  simp [World.cell?, h.block, e]
theorem Rwi.keep {w w' : World} {g B : Nat} {L : List Nat} (h : Rwi w g L) (hb : Below B w w') (hg : g < B) : Rwi w' g L := ⟨by rw [hb.block g hg]; exact h.block⟩
theorem Rwi.keep' {w w' : World} {g : Nat} {L : List Nat} (h : Rwi w g L) (hb : Below w.heap.size w w') : Rwi w' g L := h.keep hb h.lt
theorem Rwi.alloc {w : World} {g : Nat} {L : List Nat} (h : Rwi w g L) (o : Obj) : Rwi (w.alloc o) g L := h.keep' ((Below.refl _ _).alloc (Nat.le_refl _) _)
theorem Rwi.other {w : World} {g : Nat} {L : List Nat} (h : Rwi w g L) {p : Addr} (hp : g ≠ p.block) (u : Value) : Rwi (w.setCell p u) g L := ⟨by rw [Below.heap_setCell _ _ _ _ hp]; exact h.block⟩
theorem Rwi.rd {w : World} {g : Nat} {L : List Nat} (h : Rwi w g L) (off n cap : Nat) (hn : off + n ≤ L.length) (hc : n ≤ cap) (hm : n ≤ 4294967296) :
    Ri w (some ⟨g, off, none⟩) n cap ((L.drop off).take n) :=
  ⟨by rw [List.length_take, List.length_drop]; omega, hc, hm, fun _ => ⟨g, off, rfl, fun i hi => by
    rw [dg_take _ _ _ hi, dg_drop]; exact h.cell _ (by omega)⟩⟩
theorem Rwi.whole {w : World} {g : Nat} {L : List Nat} (h : Rwi w g L) (cap : Nat) (hc : L.length ≤ cap) (hm : L.length ≤ 4294967296) : Ri w (some ⟨g, 0, none⟩) L.length cap L := by
  have := h.rd 0 L.length cap (by omega) hc hm
  rwa [List.drop_zero, List.take_length] at this
theorem Rwi.of_own {w : World} {base g n : Nat} {L : List Nat} {xs : List Value} (h : w.ownsRow base 3 1 (.slice (some ⟨g, 0, none⟩) n n) n xs) (hx : xs = bigInts L) : Rwi w g L := by
  rcases h.2 with ⟨h', _⟩ | ⟨g', cap', cur, h', hb, hg, hnc, hcm, hcs, htake⟩
  · simp at h'
  · simp only [Value.slice.injEq, Option.some.injEq, Addr.mk.injEq, and_true, true_and] at h'
    obtain ⟨rfl, rfl⟩ := h'
    refine ⟨?_⟩
    rw [hg]
    have e : cur = (bigInts L).toArray := by
      rw [← hx, ← htake, List.take_of_length_le (by rw [Array.length_toList, hcs]; exact Nat.le_refl _)]
    rw [e]
/-! ### Integers as the document's answer has them -/
/-- A sign and bits that stand for a number, normal. -/
def Big (w : World) (n : Bool) (ao : Option Addr) (len cap : Nat) (v : Int) : Prop := ∃ L, Ri w ao len cap L ∧ B1 L ∧ Top L ∧ (L = [] → n = false) ∧ sg n L = v
theorem Big.keep {w w' : World} {n : Bool} {ao : Option Addr} {len cap : Nat} {v : Int} (h : Big w n ao len cap v) (hb : Below w.heap.size w w') : Big w' n ao len cap v := by
  obtain ⟨L, h1, h2⟩ := h; exact ⟨L, h1.keep hb, h2⟩
theorem Big.alloc {w : World} {n : Bool} {ao : Option Addr} {len cap : Nat} {v : Int} (h : Big w n ao len cap v) (o : Obj) : Big (w.alloc o) n ao len cap v := h.keep ((Below.refl _ _).alloc (Nat.le_refl _) _)
theorem Big.len {w : World} {n : Bool} {ao : Option Addr} {len cap : Nat} {v : Int} (h : Big w n ao len cap v) : len = bl v.natAbs := by
  obtain ⟨L, h1, h2, h3, _, h4⟩ := h
  rw [← h1.size, btop_len h2 h3, ← h4, sg_abs]
theorem Big.zero (w : World) : Big w false none 0 0 0 := ⟨[], Ri.nil w, B1.nil, fun h => absurd rfl h, fun _ => rfl, rfl⟩
/-- What 'laid' makes. -/
theorem Big.of {w : World} {n : Bool} {ao : Option Addr} {len cap : Nat} {L : List Nat} (h : Ri w ao len cap L) (hb : B1 L) : Big w (n && decide (0 < (tl L).length)) ao (tl L).length cap (sg n L) :=
  ⟨tl L, h.tl, hb.tl, tl_top L, fun e => by rw [e]; simp, by
    rw [← sg_tl n L]
    by_cases h0 : tl L = []
    · rw [h0, sg_nil, sg_nil]
    · have := List.length_pos_iff.2 h0
      simp [this]⟩
end Go.Proofs.YtiaddfedaikaiaaGreatDoor
