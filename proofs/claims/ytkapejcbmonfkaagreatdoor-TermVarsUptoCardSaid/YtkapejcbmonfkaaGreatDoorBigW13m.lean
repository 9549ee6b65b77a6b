/- Walks: Cmp, long. Walks: long. Walks: add, Add, Sub. Walks: product. -/
import Derived.Test.YtkapejcbmonfkaaGreatDoorBigW8m
import Derived.Deep.RegionHeld3
namespace Go.Proofs.YtkapejcbmonfkaaGreatDoor
open Go.RowKit Lm

theorem cmp_lt {na nb : Bool} {A B : List Nat} (h : (num na A).sign < (num nb B).sign) : (num na A - num nb B).sign = -1 := by
  apply Int.sign_eq_neg_one_of_neg
  have h1 := Int.sign_trichotomy (num na A)
  rcases Int.lt_trichotomy (num na A) 0 with h2 | h2 | h2 <;> rcases Int.lt_trichotomy (num nb B) 0 with h3 | h3 | h3 <;>
    simp only [Int.sign_eq_neg_one_of_neg, Int.sign_eq_one_of_pos, Int.sign_zero, h2, h3] at h <;> omega
theorem cmp_gt {na nb : Bool} {A B : List Nat} (h : (num nb B).sign < (num na A).sign) : (num na A - num nb B).sign = 1 := by
  have := cmp_lt h
  have e : num na A - num nb B = -(num nb B - num na A) := by omega
  rw [e, Int.sign_neg, this]; rfl
theorem cmp_eq {na nb : Bool} {A B : List Nat} (h : (num na A).sign = (num nb B).sign) : (num na A - num nb B).sign = (num na A).sign * cmp (val A) (val B) := by
  have hc : cmp (val A) (val B) = ((val A : Int) - (val B : Int)).sign := by
    unfold cmp
    split
    · rw [Int.sign_eq_neg_one_of_neg (by omega)]
    · split
      · rw [Int.sign_eq_one_of_pos (by omega)]
      · rw [show (val A : Int) - (val B : Int) = 0 by omega]; rfl
  rw [hc]
  unfold num at *
  by_cases ha : val A = 0
  · by_cases hb : val B = 0
    · rw [ha, hb]; cases na <;> cases nb <;> simp
    · rw [ha] at h ⊢
      exfalso
      have hp : ((val B : Nat) : Int).sign = 1 := Int.sign_eq_one_of_pos (by omega)
      cases na <;> cases nb <;> simp [hp] at h
  · by_cases hb : val B = 0
    · rw [hb] at h ⊢
      exfalso
      have hp : ((val A : Nat) : Int).sign = 1 := Int.sign_eq_one_of_pos (by omega)
      cases na <;> cases nb <;> simp [hp] at h
    · have hp : ((val A : Nat) : Int).sign = 1 := Int.sign_eq_one_of_pos (by omega)
      have hq : ((val B : Nat) : Int).sign = 1 := Int.sign_eq_one_of_pos (by omega)
      cases na <;> cases nb <;> simp only [Bool.false_eq_true, if_false, if_true, Int.sign_neg, hp, hq] at h ⊢
      · omega
      · omega
      · omega
      · rw [show -(val A : Int) - -(val B : Int) = -((val A : Int) - (val B : Int)) by omega, Int.sign_neg]; omega

theorem sign_num (n : Bool) (A : List Nat) : (num n A).sign = -1 ∨ (num n A).sign = 0 ∨ (num n A).sign = 1 := by
  rcases Int.lt_trichotomy (num n A) 0 with h | h | h
  · exact .inl (Int.sign_eq_neg_one_of_neg h)
  · rw [h]; exact .inr (.inl rfl)
  · exact .inr (.inr (Int.sign_eq_one_of_pos h))
theorem wrap_sign (s : Int) (a b : Nat) (h : s = -1 ∨ s = 0 ∨ s = 1) : wrap64 (s * cmp a b) = s * cmp a b := by
  have hc : cmp a b = -1 ∨ cmp a b = 0 ∨ cmp a b = 1 := by
    unfold cmp; split
    · exact .inl rfl
    · split
      · exact .inr (.inr rfl)
      · exact .inr (.inl rfl)
  rcases h with rfl | rfl | rfl <;> rcases hc with h | h | h <;> rw [h] <;> exact IntWalk.wrap64_in _ (by decide)

theorem trim_q (ao : Option Addr) (len cap : Nat) (A : List Nat) (w : World) (h : Rd w ao len cap A) :
    Calls Tryz.prog 172 #[.slice ao len cap] w fun e w' => e = .returned (.slice ao (tl A).length cap) ∧ w' = w :=
  (trim_any ao len cap A w h).mono fun _ _ h => ⟨h.1, h.2.symm⟩

end Go.Proofs.YtkapejcbmonfkaaGreatDoor

namespace Go.Proofs.YtkapejcbmonfkaaGreatDoor
open Go.RowKit Lm

/-- Too many bits. -/
def tooLong (A : List Nat) : Bool := decide (4096 < bl (val A))

end Go.Proofs.YtkapejcbmonfkaaGreatDoor

namespace Go.Proofs.YtkapejcbmonfkaaGreatDoor
open Go.RowKit Lm

/-- The answer of a call that refuses what is too long. -/
def Ans (bad : Bool) (w w' : World) (n : Bool) (ao : Option Addr) (len : Nat) (c : Int) (v : Int) : Prop :=
  (bad = true ∧ c = 10 ∧ n = false ∧ ao = none ∧ len = 0) ∨ (bad = false ∧ Fits w w' n ao len c v)

theorem len_of_bl (A : List Nat) (k : Nat) (h : bl (val A) ≤ 32 * k) : (tl A).length ≤ k := by
  have h2 := (bl_le _ _).1 h
  rw [← P_two] at h2
  by_cases h0 : tl A = []
  · rw [h0]; simp
  · have h3 := top_ge (tl_top A) h0
    rw [tl_val] at h3
    have h5 : ¬ k ≤ (tl A).length - 1 := fun h => by have := P_le h; omega
    omega
theorem small_len (A : List Nat) (h : tooLong A = false) : (tl A).length ≤ 128 :=
  len_of_bl A 128 (by unfold tooLong at h; simpa using h)

theorem hpS {w : World} (o : Obj) {k : Nat} {v : Obj} (h : w.heap[k]? = some v) : (w.alloc o).heap[k]? = some v := (Below.heap_alloc w o k (lt_of_block h)).trans h
theorem hp4 (w : World) (o1 o2 o3 o4 : Obj) {w1 : World} (hb : Below ((((w.alloc o1).alloc o2).alloc o3).alloc o4).heap.size ((((w.alloc o1).alloc o2).alloc o3).alloc o4) w1) :
    w1.heap[w.heap.size]? = some o1 ∧ w1.heap[w.heap.size + 1]? = some o2 ∧ w1.heap[w.heap.size + 2]? = some o3 ∧ Below w.heap.size w w1 := by
  refine ⟨?_, ?_, ?_, balloc (balloc (balloc2 hb))⟩
  · rw [hb.block _ (by simp; omega)]
    exact hpS _ (hpS _ (hpS _ (heap_alloc_new w o1)))
  · rw [hb.block _ (by simp)]
    have := heap_alloc_new (w.alloc o1) o2
    exact hpS _ (hpS _ (by simpa using this))
  · rw [hb.block _ (by simp)]
    have := heap_alloc_new ((w.alloc o1).alloc o2) o3
    exact hpS _ (by simpa using this)

theorem four_cells {w : World} {b : Nat} {x y z u : Value} {t : TypeId} (h : w.heap[b]? = some (.cells #[x, y, z, u] t (0, 0))) :
    w.cell? ⟨b, 0, none⟩ = some x ∧ w.cell? ⟨b, 1, none⟩ = some y ∧ w.cell? ⟨b, 2, none⟩ = some z ∧ w.cell? ⟨b, 3, none⟩ = some u :=
  ⟨by simp [World.cell?, h], by simp [World.cell?, h], by simp [World.cell?, h], by simp [World.cell?, h]⟩

theorem Fits.set2 {w w2 w3 : World} {n : Bool} {ao : Option Addr} {len : Nat} {c v : Int} (h : Fits w2 w3 n ao len c v) (hle : w.heap.size ≤ w2.heap.size) {p q : Addr} (hp : p.block < w2.heap.size) (hq : q.block < w2.heap.size) (u u' : Value) :
    Fits w ((w3.setCell p u).setCell q u') n ao len c v := by
  rcases h with ⟨h1, h2, h3⟩ | h
  · exact .inl ⟨h1, h2, ((h3.set hp u).set hq u').mono hle⟩
  · exact .inr h

theorem undrew {B : Nat} {w w' : World} (h : Below B w.drew w') : Below B w w' := ⟨h.os, h.tape, h.output, h.size, h.block⟩
theorem undrewN {B n : Nat} {w w' : World} (h : Below B (w.drewN n) w') : Below B w w' := ⟨h.os, h.tape, h.output, h.size, h.block⟩
theorem cell_keep {w w' : World} {a : Addr} {v : Value} (h : w.cell? a = some v) (hb : Below w.heap.size w w') : w'.cell? a = some v := (hb.cell (World.block_lt_of_cell? w a h)).trans h
theorem heap_keep {w w' : World} {k : Nat} {o : Obj} (h : w.heap[k]? = some o) (hb : Below w.heap.size w w') : w'.heap[k]? = some o := (hb.block k (lt_of_block h)).trans h

theorem Ans.set2 {bad : Bool} {w w2 w3 : World} {n : Bool} {ao : Option Addr} {len : Nat} {c v : Int} (h : Ans bad w2 w3 n ao len c v) (hle : w.heap.size ≤ w2.heap.size) {p q : Addr} (hp : p.block < w2.heap.size) (hq : q.block < w2.heap.size) (u u' : Value) :
    Ans bad w ((w3.setCell p u).setCell q u') n ao len c v := by
  rcases h with h | ⟨h, h'⟩
  · exact .inl h
  · exact .inr ⟨h, h'.set2 hle hp hq u u'⟩

theorem hp3 (w : World) (o1 o2 o3 : Obj) {w1 : World} (hb : Below (((w.alloc o1).alloc o2).alloc o3).heap.size (((w.alloc o1).alloc o2).alloc o3) w1) :
    w1.heap[w.heap.size]? = some o1 ∧ w1.heap[w.heap.size + 1]? = some o2 ∧ w1.heap[w.heap.size + 2]? = some o3 ∧ Below w.heap.size w w1 := by
  refine ⟨?_, ?_, ?_, balloc (balloc2 hb)⟩
  · rw [hb.block _ (by simp; omega)]
    exact hpS _ (hpS _ (heap_alloc_new w o1))
  · rw [hb.block _ (by simp)]
    have := heap_alloc_new (w.alloc o1) o2
    exact hpS _ (by simpa using this)
  · rw [hb.block _ (by simp)]
    have := heap_alloc_new ((w.alloc o1).alloc o2) o3
    simpa using this

end Go.Proofs.YtkapejcbmonfkaaGreatDoor

namespace Go.Proofs.YtkapejcbmonfkaaGreatDoor
open Go.RowKit Lm

theorem set_mid (N R : List Nat) (k x : Nat) (hN : N.length = k) (hk : k < R.length) : (N ++ R.drop k).set k x = (N ++ [x]) ++ R.drop (k + 1) := by
  rw [List.set_append_right _ _ (by omega), hN, Nat.sub_self, List.drop_eq_getElem_cons hk, List.set_cons_zero, List.append_assoc]
  rfl
theorem dg_mid (N R : List Nat) (k : Nat) (hN : N.length = k) : dg (N ++ R.drop k) k = dg R k := by
  rw [dg_append_right _ _ _ (by omega), hN, Nat.sub_self, dg_drop]; rfl
theorem len_mid (N R : List Nat) (k : Nat) (hN : N.length = k) (hk : k ≤ R.length) : (N ++ R.drop k).length = R.length := by
  rw [List.length_append, List.length_drop]; omega

/-- One step of the inner loop: e is the power of the outer place. -/
theorem mul_inner {pe pj c x y r o c' s t q : Nat} (h : s + pe * pj * c = t + x * pe * q) (he : c + (x * y + r) = o + 4294967296 * c') :
    (s + pe * pj * o) + pe * (pj * 4294967296) * c' = (t + pe * pj * r) + x * pe * (q + pj * y) := by grind

end Go.Proofs.YtkapejcbmonfkaaGreatDoor
