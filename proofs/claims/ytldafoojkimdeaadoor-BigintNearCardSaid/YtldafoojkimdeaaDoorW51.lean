/- Walks: absolute; the divisions where nothing is too long; what their answers say. -/
import Derived.Test.YtldafoojkimdeaaDoorW35
import Derived.Test.YtldafoojkimdeaaDoorW50
namespace Go.Proofs.YtldafoojkimdeaaDoor
open Go.RowKit Lm

theorem block_new2 (w : World) (o1 o2 o3 : Obj) {w1 : World} (hb : Below (((w.alloc o1).alloc o2).alloc o3).heap.size (((w.alloc o1).alloc o2).alloc o3) w1) :
    w1.heap[w.heap.size + 1]? = some o2 ∧ Below w.heap.size w w1 := by
  obtain ⟨_, h2, _, h4⟩ := hp3 w o1 o2 o3 hb
  exact ⟨h2, h4⟩

set_option maxRecDepth 100000 in
set_option maxHeartbeats 2000000 in
theorem absolute_any (n : Bool) (ao : Option Addr) (len cap : Nat) (A : List Nat) (w : World) (h : Rd w ao len cap A) :
    Calls Tryd.prog 67 #[.agg #[.bool n, .slice ao len cap]] w fun e w' => ∃ n' ao' len', e = .returned (.agg #[.bool n', .slice ao' len' len']) ∧ Num w.heap.size w' n' ao' len' ((num n A).natAbs : Int) ∧ Below w.heap.size w w' := by
  have h3 := ((h.alloc (.cells #[.bool n, .slice ao len cap] 24)).alloc (.cells #[.bool false, .slice none 0 0] 24)).alloc (.cells #[.bool n, .slice ao len cap] 24)
  have hcases : ((num n A).sign = -1 ∧ ((num n A).natAbs : Int) = -num n A) ∨ (∃ s : Int, (s = 0 ∨ s = 1) ∧ (num n A).sign = s ∧ ((num n A).natAbs : Int) = num n A) := by
    rcases Int.lt_trichotomy (num n A) 0 with h1 | h1 | h1
    · exact .inl ⟨Int.sign_eq_neg_one_of_neg h1, by omega⟩
    · exact .inr ⟨0, .inl rfl, by rw [h1]; rfl, by omega⟩
    · exact .inr ⟨1, .inr rfl, Int.sign_eq_one_of_pos h1, by omega⟩
  rcases hcases with ⟨hs, hv⟩ | ⟨s, hz, hs, hv⟩
  · have HV := hid hv
    clear hv
    go_enter Tryd.func67, Tryd.ntmps67
    go_wp2_with (first
      | (go_at_call 28; refine (sign_any _ _ _ _ A _ ((h.alloc _).alloc _)).mono ?_; rintro e w5 ⟨rfl, rfl⟩; rw [hs])
      | (go_at_call 22; refine (neg_any _ _ _ _ A _ h3).mono ?_; rintro e w1 ⟨n', ao', len', rfl, hnum, hb⟩; obtain ⟨p2, hbw⟩ := block_new2 _ _ _ _ hb; obtain ⟨c0, c1, f0, f1⟩ := two_cells p2))
    rw [← HV.out] at hnum
    refine bodyPost_ret (v := .agg #[.bool n', .slice ao' len' len']) (by simp [results, Tryd.results67, go_sem, c0, c1]) rfl ⟨_, _, _, rfl, ?_, ?_⟩
    · exact ((hnum.set (by simp) _).set (by simp) _).mono (by simp; omega)
    · exact (hbw.setCell (by simp) _).setCell (by simp) _
  · have HV := hid hv
    clear hv
    rcases hz with rfl | rfl
    all_goals
      go_enter Tryd.func67, Tryd.ntmps67
      go_wp2_with (first
        | (go_at_call 28; refine (sign_any _ _ _ _ A _ ((h.alloc _).alloc _)).mono ?_; rintro e w5 ⟨rfl, rfl⟩; rw [hs])
        | (go_at_call 20; refine (norm_any _ _ _ _ A _ h3).mono ?_; rintro e w1 ⟨n', ao', len', rfl, hnum, hb⟩; obtain ⟨p2, hbw⟩ := block_new2 _ _ _ _ hb; obtain ⟨c0, c1, f0, f1⟩ := two_cells p2))
      rw [← HV.out] at hnum
      refine bodyPost_ret (v := .agg #[.bool n', .slice ao' len' len']) (by simp [results, Tryd.results67, go_sem, c0, c1]) rfl ⟨_, _, _, rfl, ?_, ?_⟩
      · exact ((hnum.set (by simp) _).set (by simp) _).mono (by simp; omega)
      · exact (hbw.setCell (by simp) _).setCell (by simp) _

theorem abs_ok {na : Bool} {aa : Option Addr} {la ca : Nat} {A : List Nat} {va : Int} (w : World) (hA : Rd w aa la ca A) (ea : num na A = va) :
    Calls Tryd.prog 67 #[.agg #[.bool na, .slice aa la ca]] w fun e w' => ∃ n' ao' len' C, e = .returned (.agg #[.bool n', .slice ao' len' len']) ∧ Rd w' ao' len' len' C ∧ num n' C = (va.natAbs : Int) ∧ Below w.heap.size w w' := by
  refine (absolute_any na aa la ca A w hA).mono ?_
  rintro e w' ⟨n', ao', len', rfl, hn, hb⟩
  rw [ea] at hn
  obtain ⟨C, h1, h2⟩ := hn.read
  exact ⟨n', ao', len', C, rfl, h1, h2, hb⟩

theorem val_of_num {n : Bool} {A : List Nat} {v : Int} (e : num n A = v) : val A = v.natAbs := by rw [← e, num_abs]

/-- Divided downwards, by the numbers alone. -/
def Floors (a b q r : Int) : Prop := a = q * b + r ∧ r.natAbs < b.natAbs ∧ (b ≤ 0 → r ≤ 0) ∧ (0 ≤ b → 0 ≤ r)

theorem quoRem_ok {na : Bool} {aa : Option Addr} {la ca : Nat} {A : List Nat} {nb : Bool} {ab : Option Addr} {lb cb : Nat} {B : List Nat} {va vb : Int} (w : World) (hA : Rd w aa la ca A) (hB : Rd w ab lb cb B) (ea : num na A = va) (eb : num nb B = vb) (sa : Sm va) (sb : Sm vb) (h0 : vb ≠ 0) :
    Calls Tryd.prog 41 #[.agg #[.bool na, .slice aa la ca], .agg #[.bool nb, .slice ab lb cb]] w fun e w' => ∃ nq qo ql Q nr ro rl R vq vr, e = .returned (.tuple #[.agg #[.bool nq, .slice qo ql ql], .agg #[.bool nr, .slice ro rl rl], .int .i64 0]) ∧
      Rd w' qo ql ql Q ∧ num nq Q = vq ∧ Rd w' ro rl rl R ∧ num nr R = vr ∧ Hid (TruncDiv va vb vq vr) ∧ Below w.heap.size w w' := by
  refine (quoRem_full na aa la ca A nb ab lb cb B w hA hB (by rw [sa.short ea, sb.short eb]; rfl) (by rw [val_of_num eb]; omega)).mono ?_
  rintro e w' ⟨nq, qo, ql, nr, ro, rl, q, r, rfl, h1, h2, h3, h4⟩
  rw [ea, eb] at h3
  obtain ⟨Q, r1, e1⟩ := h1.read
  obtain ⟨R, r2, e2⟩ := h2.read
  exact ⟨nq, qo, ql, Q, nr, ro, rl, R, q, r, rfl, r1, e1, r2, e2, h3, h4⟩
theorem divMod_all {na : Bool} {aa : Option Addr} {la ca : Nat} {A : List Nat} {nb : Bool} {ab : Option Addr} {lb cb : Nat} {B : List Nat} {va vb : Int} (w : World) (hA : Rd w aa la ca A) (hB : Rd w ab lb cb B) (ea : num na A = va) (eb : num nb B = vb) (sa : Sm va) (sb : Sm vb) (h0 : vb ≠ 0) :
    Calls Tryd.prog 42 #[.agg #[.bool na, .slice aa la ca], .agg #[.bool nb, .slice ab lb cb]] w fun e w' => ∃ nq qo ql Q nr ro rl R vq vr, e = .returned (.tuple #[.agg #[.bool nq, .slice qo ql ql], .agg #[.bool nr, .slice ro rl rl], .int .i64 0]) ∧
      Rd w' qo ql ql Q ∧ num nq Q = vq ∧ Rd w' ro rl rl R ∧ num nr R = vr ∧ Hid (Floors va vb vq vr) ∧ Below w.heap.size w w' := by
  refine (divMod_full na aa la ca A nb ab lb cb B w hA hB (by rw [sa.short ea, sb.short eb]; rfl) (by rw [val_of_num eb]; omega)).mono ?_
  rintro e w' ⟨nq, qo, ql, nr, ro, rl, q, r, rfl, h1, h2, h3, h4⟩
  rw [ea, eb] at h3
  obtain ⟨Q, r1, e1⟩ := h1.read
  obtain ⟨R, r2, e2⟩ := h2.read
  refine ⟨nq, qo, ql, Q, nr, ro, rl, R, q, r, rfl, r1, e1, r2, e2, ?_, h4⟩
  obtain ⟨k1, k2, k3, k4⟩ := h3
  refine ⟨k1, k2, ?_, ?_⟩
  · intro hb
    cases nb with
    | true => exact k3 rfl
    | false => unfold num at eb; simp only [Bool.false_eq_true, if_false] at eb; omega
  · intro hb
    cases nb with
    | true => unfold num at eb; simp only [if_true] at eb; omega
    | false => exact k4 rfl
theorem quoRem_zero {na : Bool} {aa : Option Addr} {la ca : Nat} {A : List Nat} {nb : Bool} {ab : Option Addr} {lb cb : Nat} {B : List Nat} {va vb : Int} (w : World) (hA : Rd w aa la ca A) (hB : Rd w ab lb cb B) (ea : num na A = va) (eb : num nb B = vb) (sa : Sm va) (sb : Sm vb) (h0 : vb = 0) :
    Calls Tryd.prog 41 #[.agg #[.bool na, .slice aa la ca], .agg #[.bool nb, .slice ab lb cb]] w fun e w' => e = .returned (.tuple #[.agg #[.bool false, .slice none 0 0], .agg #[.bool false, .slice none 0 0], .int .i64 11]) ∧ Below w.heap.size w w' := by
  have h := quoRem_fail na aa la ca A nb ab lb cb B w hA hB (.inr (by rw [val_of_num eb, h0]; rfl))
  rw [sa.short ea, sb.short eb] at h
  exact h
theorem divMod_zero {na : Bool} {aa : Option Addr} {la ca : Nat} {A : List Nat} {nb : Bool} {ab : Option Addr} {lb cb : Nat} {B : List Nat} {va vb : Int} (w : World) (hA : Rd w aa la ca A) (hB : Rd w ab lb cb B) (ea : num na A = va) (eb : num nb B = vb) (sa : Sm va) (sb : Sm vb) (h0 : vb = 0) :
    Calls Tryd.prog 42 #[.agg #[.bool na, .slice aa la ca], .agg #[.bool nb, .slice ab lb cb]] w fun e w' => e = .returned (.tuple #[.agg #[.bool false, .slice none 0 0], .agg #[.bool false, .slice none 0 0], .int .i64 11]) ∧ Below w.heap.size w w' := by
  have h := divMod_fail na aa la ca A nb ab lb cb B w hA hB (.inr (by rw [val_of_num eb, h0]; rfl))
  rw [sa.short ea, sb.short eb] at h
  exact h

theorem mul_ge (q b : Int) (hb : b ≠ 0) : q.natAbs ≤ (q * b).natAbs := by
  rw [Int.natAbs_mul]
  exact Nat.le_mul_of_pos_right _ (by omega)
theorem parts_size {a b q r : Int} {k : Nat} (ha : Lt k a) (hb : Lt k b) (h0 : b ≠ 0) (h : a = q * b + r) (hr : r.natAbs < b.natAbs) : Lt (k + 1) (q * b) ∧ Lt (k + 1) q ∧ Lt k r := by
  have h1 := mul_ge q b h0
  unfold Lt at *
  rw [Nat.pow_succ]
  generalize q * b = m at *
  generalize 2 ^ k = p at *
  omega

/-- The two kinds of quotient. -/
theorem quo_apart {a b q r d m : Int} (h0 : b ≠ 0) (h : TruncDiv a b q r) (k : Floors a b d m) : (q = d ↔ (r = 0 ∨ a.sign = b.sign)) := by
  obtain ⟨h1, h2, h3, h4⟩ := h
  obtain ⟨k1, k2, k3, k4⟩ := k
  have key : (q - d) * b = m - r := by rw [Int.sub_mul]; omega
  have hs : ∀ x : Int, (x.sign = 1 ∧ 0 < x) ∨ (x.sign = 0 ∧ x = 0) ∨ (x.sign = -1 ∧ x < 0) := by
    intro x
    rcases Int.lt_trichotomy x 0 with h | h | h
    · exact .inr (.inr ⟨Int.sign_eq_neg_one_of_neg h, h⟩)
    · exact .inr (.inl ⟨by rw [h]; rfl, h⟩)
    · exact .inl ⟨Int.sign_eq_one_of_pos h, h⟩
  have heq : (m - r).natAbs < b.natAbs → q = d := by
    intro h
    by_cases e : q - d = 0
    · omega
    · have := mul_ge b (q - d) e
      rw [Int.mul_comm, key] at this
      omega
  constructor
  · intro e
    have e2 : m = r := by rw [e, Int.sub_self, Int.zero_mul] at key; omega
    by_cases hr : r = 0
    · exact .inl hr
    · refine .inr ?_
      rcases hs a with ⟨x1, x2⟩ | ⟨x1, x2⟩ | ⟨x1, x2⟩ <;> rcases hs b with ⟨y1, y2⟩ | ⟨y1, y2⟩ | ⟨y1, y2⟩ <;> rw [x1, y1] <;> exfalso <;> omega
  · intro e
    apply heq
    rcases e with e | e
    · omega
    · rcases hs a with ⟨x1, x2⟩ | ⟨x1, x2⟩ | ⟨x1, x2⟩ <;> rcases hs b with ⟨y1, y2⟩ | ⟨y1, y2⟩ | ⟨y1, y2⟩ <;> rw [x1, y1] at e <;> first | omega | (exfalso; revert e; decide)
end Go.Proofs.YtldafoojkimdeaaDoor
