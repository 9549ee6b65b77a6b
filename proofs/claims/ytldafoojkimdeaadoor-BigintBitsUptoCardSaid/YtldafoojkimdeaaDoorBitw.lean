/- Plain mathematics: limbs of two's complements, and what is done to them limb by limb. -/
import Derived.Test.YtldafoojkimdeaaDoorLimbs
namespace Lm

/-- So many limbs of a number. -/
def lim (s n : Nat) : List Nat := (List.range s).map fun j => n / P j % 4294967296
/-- The list of what f says at each place. -/
def zipw (s : Nat) (f : Nat → Nat → Nat) (X Y : List Nat) : List Nat := (List.range s).map fun j => f (dg X j) (dg Y j)
/-- So many limbs of an integer's two's complement. -/
def tcl (s : Nat) (v : Int) : List Nat := lim s (v.emod (P s : Int)).toNat
/-- The integer of a two's complement. -/
def back (s : Nat) (Z : List Nat) : Int := (val Z : Int) - if dg Z (s - 1) = 0 then 0 else (P s : Int)
/-- The operation on integers. -/
def bop (f : Nat → Nat → Nat) (a b : Int) : Int := back 400 (zipw 400 f (tcl 400 a) (tcl 400 b))

theorem dg_map_range (s : Nat) (g : Nat → Nat) (j : Nat) (h : j < s) : dg ((List.range s).map g) j = g j := by
  unfold dg; simp [List.getD, h]
theorem lim_len (s n : Nat) : (lim s n).length = s := by simp [lim]
theorem zipw_len (s f X Y) : (zipw s f X Y).length = s := by simp [zipw]
theorem lim_ok (s n : Nat) : Ok (lim s n) := by
  intro x hx
  obtain ⟨j, _, rfl⟩ := List.mem_map.1 hx
  exact Nat.mod_lt _ (by decide)
theorem zipw_ok {s f X Y} (h : ∀ x y, x < 4294967296 → y < 4294967296 → f x y < 4294967296) (hX : Ok X) (hY : Ok Y) : Ok (zipw s f X Y) := by
  intro x hx
  obtain ⟨j, _, rfl⟩ := List.mem_map.1 hx
  exact h _ _ (hX.dg _) (hY.dg _)
theorem lim_succ (s n : Nat) : lim (s + 1) n = lim s n ++ [n / P s % 4294967296] := by
  simp [lim, List.range_succ]
theorem val_lim (s n : Nat) : val (lim s n) = n % P s := by
  induction s with
  | zero => simp [lim, val, P, Nat.mod_one]
  | succ s ih =>
    rw [lim_succ, val_snoc, ih, lim_len, P_succ, Nat.mod_mul]
theorem tcl_len (s v) : (tcl s v).length = s := lim_len _ _
theorem tcl_ok (s v) : Ok (tcl s v) := lim_ok _ _
theorem val_tcl (s : Nat) (v : Int) : (val (tcl s v) : Int) = v.emod (P s : Int) := by
  have hp : (0 : Int) < (P s : Int) := by have := P_pos s; omega
  have h0 := Int.emod_nonneg v (b := (P s : Int)) (by omega)
  have h1 := Int.emod_lt_of_pos v hp
  unfold tcl
  rw [val_lim, Nat.mod_eq_of_lt (by have : v.emod (P s : Int) < (P s : Int) := h1; have : 0 ≤ v.emod (P s : Int) := h0; omega)]
  have : 0 ≤ v.emod (P s : Int) := h0
  omega
theorem tcl_congr (s : Nat) (v : Int) : ∃ c : Int, (val (tcl s v) : Int) = v + c * (P s : Int) := by
  refine ⟨-(v / (P s : Int)), ?_⟩
  rw [val_tcl]
  have := Int.mul_ediv_add_emod v (P s : Int)
  have e : v.emod (P s : Int) = v % (P s : Int) := rfl
  rw [e]
  have : v = (P s : Int) * (v / (P s : Int)) + v % (P s : Int) := this.symm
  generalize v / (P s : Int) = q at *
  generalize v % (P s : Int) = r at *
  rw [Int.neg_mul, Int.mul_comm q]
  omega

theorem cong_small {p q x y d : Int} (hx : x.natAbs < p) (hy : y.natAbs < p) (hp : 2 * p ≤ q) (h : x - y = d * q) : x = y := by
  have hd : d = 0 := by
    rcases Int.lt_trichotomy d 0 with k | k | k
    · exfalso
      have : d * q ≤ -1 * q := Int.mul_le_mul_of_nonneg_right (by omega) (by omega)
      omega
    · exact k
    · exfalso
      have : 1 * q ≤ d * q := Int.mul_le_mul_of_nonneg_right (by omega) (by omega)
      omega
  subst hd
  omega

/-- Limbs of a two's complement are the number's. -/
theorem tcl_unique {s : Nat} {X : List Nat} {v c : Int} (hl : X.length = s) (hX : Ok X) (h : (val X : Int) = v + c * (P s : Int)) : X = tcl s v := by
  obtain ⟨d, hd⟩ := tcl_congr s v
  refine val_inj hX (tcl_ok s v) (by rw [tcl_len, hl]) ?_
  have h1 := val_lt hX
  have h2 := val_lt (tcl_ok s v)
  rw [tcl_len] at h2
  rw [hl] at h1
  have e : (val X : Int) - val (tcl s v) = (c - d) * (P s : Int) := by rw [h, hd, Int.sub_mul]; omega
  have hd : c - d = 0 := by
    rcases Int.lt_trichotomy (c - d) 0 with k | k | k
    · exfalso
      have : (c - d) * (P s : Int) ≤ -1 * (P s : Int) := Int.mul_le_mul_of_nonneg_right (by omega) (by omega)
      omega
    · exact k
    · exfalso
      have : 1 * (P s : Int) ≤ (c - d) * (P s : Int) := Int.mul_le_mul_of_nonneg_right (by omega) (by omega)
      omega
  rw [hd, Int.zero_mul] at e
  omega

/-- Above a short number all limbs are its sign's. -/
theorem dg_div (l : List Nat) (h : Ok l) (j : Nat) : dg l j = val l / P j % 4294967296 := by
  induction l generalizing j with
  | nil => simp [dg, val]
  | cons x l ih =>
    cases j with
    | zero => simp only [P_zero, Nat.div_one, val_cons]; have := h.head; show x = _; omega
    | succ j =>
      show dg l j = _
      rw [ih h.tail, val_cons, P_succ, Nat.mul_comm (P j), ← Nat.div_div_eq_div_mul]
      have := h.head
      rw [show (x + 4294967296 * val l) / 4294967296 = val l by omega]

/-- The limb at a place of a two's complement, by the number itself. -/
theorem dg_tcl (s : Nat) (v : Int) (j : Nat) (h : j < s) : (dg (tcl s v) j : Int) = v / (P j : Int) % 4294967296 := by
  obtain ⟨c, hc⟩ := tcl_congr s v
  rw [dg_div _ (tcl_ok s v)]
  have e1 : ((val (tcl s v) / P j % 4294967296 : Nat) : Int) = (val (tcl s v) : Int) / (P j : Int) % 4294967296 := by simp
  rw [e1, hc]
  obtain ⟨k, rfl⟩ : ∃ k, s = j + (k + 1) := ⟨s - j - 1, by omega⟩
  rw [P_add, P_succ]
  have hp : (P j : Int) ≠ 0 := by have := P_pos j; omega
  have e2 : v + c * ((P j * (P k * 4294967296) : Nat) : Int) = v + (c * (P k : Int) * 4294967296) * (P j : Int) := by
    simp only [Int.natCast_mul]
    have : ((4294967296 : Nat) : Int) = 4294967296 := rfl
    rw [this]
    grind
  rw [e2, Int.add_mul_ediv_right _ _ hp, Int.add_mul_emod_self_right]

/-- Sign: the limbs from a place on. -/
theorem dg_tcl_high (s k : Nat) (v : Int) (hk : v.natAbs ≤ P k) (hn : v.natAbs = P k → v < 0) (j : Nat) (hj : k ≤ j) (h : j < s) : dg (tcl s v) j = if v < 0 then 4294967295 else 0 := by
  have e := dg_tcl s v j h
  have hp := P_pos j
  have hkj := P_le hj
  by_cases hv : v < 0
  · rw [if_pos hv]
    have : v / (P j : Int) = -1 := by
      apply Int.le_antisymm
      · have := Int.ediv_neg_of_neg_of_pos hv (by omega : (0 : Int) < (P j : Int))
        omega
      · rw [Int.le_ediv_iff_mul_le (by omega)]
        omega
    rw [this] at e
    omega
  · rw [if_neg hv]
    have : v / (P j : Int) = 0 := Int.ediv_eq_zero_of_lt (by omega) (by omega)
    rw [this] at e
    omega
/-- What makes noughts and full limbs of noughts and full limbs. -/
structure Even (f : Nat → Nat → Nat) : Prop where
  lt : ∀ x y, x < 4294967296 → y < 4294967296 → f x y < 4294967296
  ends : ∀ x y, (x = 0 ∨ x = 4294967295) → (y = 0 ∨ y = 4294967295) → f x y = 0 ∨ f x y = 4294967295

theorem val_full (n : Nat) : val (List.replicate n 4294967295) + 1 = P n := by
  induction n with
  | zero => rfl
  | succ n ih => rw [List.replicate_succ, val_cons, P_succ]; omega
theorem dg_full (n j x : Nat) (h : j < n) : dg (List.replicate n x) j = x := by
  unfold dg; simp [List.getD, h]
theorem list_dg {X Y : List Nat} (hl : X.length = Y.length) (h : ∀ j, j < X.length → dg X j = dg Y j) : X = Y := by
  refine List.ext_getElem hl ?_
  intro i h1 h2
  have := h i h1
  unfold dg at this
  rwa [getD_in _ _ h1, getD_in _ _ h2] at this

theorem zip_wide {f : Nat → Nat → Nat} (hf : Even f) {s S : Nat} (h0 : 0 < s) (hs : s ≤ S) {a b : Int} (ha : a.natAbs < P (s - 1)) (hb : b.natAbs < P (s - 1)) {Z : List Nat} (hl : Z.length = s)
    (hz : ∀ j, j < s → dg Z j = f (dg (tcl s a) j) (dg (tcl s b) j)) :
    (dg Z (s - 1) = 0 ∨ dg Z (s - 1) = 4294967295) ∧ zipw S f (tcl S a) (tcl S b) = Z ++ List.replicate (S - s) (dg Z (s - 1)) := by
  have hsign : ∀ v : Int, (if v < 0 then 4294967295 else 0) = 0 ∨ (if v < 0 then 4294967295 else 0 : Nat) = 4294967295 := by intro v; split <;> simp
  have e1 := hz (s - 1) (by omega)
  rw [dg_tcl_high s (s - 1) a (by omega) (by omega) (s - 1) (Nat.le_refl _) (by omega), dg_tcl_high s (s - 1) b (by omega) (by omega) (s - 1) (Nat.le_refl _) (by omega)] at e1
  refine ⟨by rw [e1]; exact hf.ends _ _ (hsign a) (hsign b), ?_⟩
  refine list_dg (by rw [zipw_len, List.length_append, List.length_replicate]; omega) ?_
  intro j hj
  rw [zipw_len] at hj
  unfold zipw
  rw [dg_map_range _ _ _ hj]
  by_cases hjs : j < s
  · rw [dg_append_left _ _ _ (by omega), hz j hjs]
    have ea : dg (tcl S a) j = dg (tcl s a) j := by
      have := dg_tcl S a j hj; have := dg_tcl s a j hjs; omega
    have eb : dg (tcl S b) j = dg (tcl s b) j := by
      have := dg_tcl S b j hj; have := dg_tcl s b j hjs; omega
    rw [ea, eb]
  · rw [dg_append_right _ _ _ (by omega), dg_full _ _ _ (by omega), e1]
    rw [dg_tcl_high S (s - 1) a (by omega) (by omega) j (by omega) hj, dg_tcl_high S (s - 1) b (by omega) (by omega) j (by omega) hj]

theorem back_wide {s S : Nat} (h0 : 0 < s) (hs : s ≤ S) {Z : List Nat} (hl : Z.length = s) (ht : dg Z (s - 1) = 0 ∨ dg Z (s - 1) = 4294967295) :
    back S (Z ++ List.replicate (S - s) (dg Z (s - 1))) = back s Z := by
  unfold back
  have e : dg (Z ++ List.replicate (S - s) (dg Z (s - 1))) (S - 1) = dg Z (s - 1) := by
    by_cases k : s = S
    · subst k; rw [dg_append_left _ _ _ (by omega)]
    · rw [dg_append_right _ _ _ (by omega), dg_full _ _ _ (by omega)]
  rw [e, val_append, hl]
  rcases ht with k | k
  · rw [k, val_zeros]; simp
  · rw [k]
    have := val_full (S - s)
    have e2 : P S = P s * P (S - s) := by rw [← P_add]; congr 1; omega
    have e3 : P s * val (List.replicate (S - s) 4294967295) + P s = P S := by rw [e2, ← this, Nat.mul_add, Nat.mul_one]
    simp only [Nat.reduceEqDiff, if_false]
    omega

theorem back_bop {f : Nat → Nat → Nat} (hf : Even f) {s : Nat} (h0 : 0 < s) (hs : s ≤ 400) {a b : Int} (ha : a.natAbs < P (s - 1)) (hb : b.natAbs < P (s - 1)) {Z : List Nat} (hl : Z.length = s)
    (hz : ∀ j, j < s → dg Z j = f (dg (tcl s a) j) (dg (tcl s b) j)) : (dg Z (s - 1) = 0 ∨ dg Z (s - 1) = 4294967295) ∧ back s Z = bop f a b := by
  obtain ⟨h1, h2⟩ := zip_wide hf h0 hs ha hb hl hz
  refine ⟨h1, ?_⟩
  unfold bop
  rw [h2, back_wide h0 hs hl h1]

theorem back_le {s : Nat} (h0 : 0 < s) {Z : List Nat} (hl : Z.length = s) (hZ : Ok Z) (ht : dg Z (s - 1) = 0 ∨ dg Z (s - 1) = 4294967295) : (back s Z).natAbs ≤ P (s - 1) := by
  obtain ⟨k, rfl⟩ : ∃ k, s = k + 1 := ⟨s - 1, by omega⟩
  have hv := val_take_dg Z k (by omega)
  rw [List.take_of_length_le (by omega)] at hv
  have hlt := val_lt (hZ.take k)
  rw [List.length_take, hl, Nat.min_eq_left (by omega)] at hlt
  unfold back
  simp only [Nat.add_sub_cancel] at *
  have := P_succ k
  rcases ht with e | e
  · rw [e] at hv ⊢; simp; omega
  · rw [e] at hv ⊢; simp; omega

theorem bop_le {f : Nat → Nat → Nat} (hf : Even f) {m : Nat} (hm : m < 400) {a b : Int} (ha : a.natAbs < P m) (hb : b.natAbs < P m) : (bop f a b).natAbs ≤ P m := by
  obtain ⟨h1, h2⟩ := back_bop hf (s := m + 1) (by omega) (by omega) (a := a) (b := b) (by simpa using ha) (by simpa using hb) (zipw_len (m + 1) f (tcl (m + 1) a) (tcl (m + 1) b)) (fun j hj => by unfold zipw; rw [dg_map_range _ _ _ hj])
  rw [← h2]
  have := back_le (by omega) (zipw_len (m + 1) f (tcl (m + 1) a) (tcl (m + 1) b)) (zipw_ok hf.lt (tcl_ok _ _) (tcl_ok _ _)) h1
  simpa using this

theorem tcl_bop {f : Nat → Nat → Nat} (hf : Even f) (a b : Int) : tcl 400 (bop f a b) = zipw 400 f (tcl 400 a) (tcl 400 b) := by
  symm
  unfold bop back
  by_cases h : dg (zipw 400 f (tcl 400 a) (tcl 400 b)) (400 - 1) = 0
  · refine tcl_unique (c := 0) (zipw_len _ _ _ _) (zipw_ok hf.lt (tcl_ok _ _) (tcl_ok _ _)) ?_
    rw [if_pos h]; simp
  · refine tcl_unique (c := 1) (zipw_len _ _ _ _) (zipw_ok hf.lt (tcl_ok _ _) (tcl_ok _ _)) ?_
    rw [if_neg h]; omega

theorem P_lt {m n : Nat} (h : m < n) : P m < P n := by
  have h1 := P_le h
  have h2 := P_succ m
  have := P_pos m
  exact Nat.lt_of_lt_of_le (by rw [Nat.succ_eq_add_one, P_succ]; omega) h1
theorem P_four {m n : Nat} (h : m < n) : 4 * P m ≤ P n := by
  refine Nat.le_trans ?_ (P_le h)
  rw [Nat.succ_eq_add_one, P_succ]; omega
theorem tcl_inj {x y : Int} (hx : x.natAbs < P 399) (hy : y.natAbs < P 399) (h : val (tcl 400 x) = val (tcl 400 y)) : x = y := by
  obtain ⟨c, hc⟩ := tcl_congr 400 x
  obtain ⟨d, hd⟩ := tcl_congr 400 y
  have e : 4 * P 399 ≤ P 400 := P_four (by decide)
  generalize P 400 = q at *
  generalize P 399 = p at *
  refine cong_small (p := p) (q := q) (d := d - c) (by omega) (by omega) (by omega) ?_
  rw [Int.sub_mul]
  omega

theorem zipw_ext {s : Nat} {f g : Nat → Nat → Nat} {X Y X' Y' : List Nat} (h : ∀ j, j < s → f (dg X j) (dg Y j) = g (dg X' j) (dg Y' j)) : zipw s f X Y = zipw s g X' Y' :=
  List.map_congr_left fun j hj => h j (List.mem_range.1 hj)
theorem dg_zipw {s : Nat} {f : Nat → Nat → Nat} {X Y : List Nat} {j : Nat} (h : j < s) : dg (zipw s f X Y) j = f (dg X j) (dg Y j) := by
  unfold zipw; exact dg_map_range _ _ _ h

def landf (x y : Nat) : Nat := x &&& y
def lorf (x y : Nat) : Nat := x ||| y
def lxorf (x y : Nat) : Nat := x ^^^ y
def lnotf (x _y : Nat) : Nat := 4294967295 - x

theorem landf_even : Even landf := ⟨fun x y hx _ => Nat.lt_of_le_of_lt Nat.and_le_left hx, by
  unfold landf; rintro x y (rfl | rfl) (rfl | rfl) <;> decide⟩
theorem lorf_even : Even lorf := ⟨fun x y hx hy => Nat.or_lt_two_pow (n := 32) (by omega) (by omega), by
  unfold lorf; rintro x y (rfl | rfl) (rfl | rfl) <;> decide⟩
theorem lxorf_even : Even lxorf := ⟨fun x y hx hy => Nat.xor_lt_two_pow (n := 32) (by omega) (by omega), by
  unfold lxorf; rintro x y (rfl | rfl) (rfl | rfl) <;> decide⟩
theorem lnotf_even : Even lnotf := ⟨fun x y hx hy => by unfold lnotf; omega, by
  unfold lnotf; rintro x y (rfl | rfl) (rfl | rfl) <;> decide⟩

theorem and_add_or (x : Nat) : ∀ y, (x &&& y) + (x ||| y) = x + y := by
  induction x using Nat.strongRecOn with
  | _ x ih =>
    intro y
    by_cases hx : x = 0
    · subst hx; simp
    · have h := ih (x / 2) (by omega) (y / 2)
      have e1 := @Nat.and_div_two x y
      have e2 := @Nat.or_div_two x y
      have e3 := @Nat.and_mod_two_eq_one x y
      have e4 := @Nat.or_mod_two_eq_one x y
      generalize x &&& y = p at *
      generalize x ||| y = q at *
      rw [← e1, ← e2] at h
      have := Nat.mod_two_eq_zero_or_one x
      have := Nat.mod_two_eq_zero_or_one y
      omega

theorem bop_share (a b c : Int) (ha : a.natAbs < P 390) (hb : b.natAbs < P 390) (hc : c.natAbs < P 390) : bop landf a (bop lorf b c) = bop lorf (bop landf a b) (bop landf a c) := by
  have hp : P 390 < P 391 := P_lt (by decide)
  have hp2 : P 391 < P 392 := P_lt (by decide)
  have hp3 : P 392 < P 399 := P_lt (by decide)
  have h1 := bop_le lorf_even (m := 390) (by decide) hb hc
  have h2 := bop_le landf_even (m := 391) (a := a) (b := bop lorf b c) (by decide) (by omega) (by omega)
  have h3 := bop_le landf_even (m := 390) (by decide) ha hb
  have h4 := bop_le landf_even (m := 390) (by decide) ha hc
  have h5 := bop_le lorf_even (m := 391) (a := bop landf a b) (b := bop landf a c) (by decide) (by omega) (by omega)
  refine tcl_inj (by omega) (by omega) (congrArg val ?_)
  simp only [tcl_bop landf_even, tcl_bop lorf_even]
  refine zipw_ext fun j hj => ?_
  rw [dg_zipw hj, dg_zipw hj, dg_zipw hj]
  exact Nat.and_or_distrib_left _ _ _

theorem bop_xor2 (a b : Int) (ha : a.natAbs < P 390) (hb : b.natAbs < P 390) : bop lxorf (bop lxorf a b) b = a := by
  have hp : P 390 < P 391 := P_lt (by decide)
  have hp2 : P 391 < P 399 := P_lt (by decide)
  have h1 := bop_le lxorf_even (m := 390) (by decide) ha hb
  have h2 := bop_le lxorf_even (m := 391) (a := bop lxorf a b) (b := b) (by decide) (by omega) (by omega)
  refine tcl_inj (by omega) (by omega) (congrArg val ?_)
  simp only [tcl_bop lxorf_even]
  refine list_dg (by rw [zipw_len, tcl_len]) fun j hj => ?_
  rw [zipw_len] at hj
  rw [dg_zipw hj, dg_zipw hj]
  unfold lxorf
  rw [Nat.xor_assoc, Nat.xor_self, Nat.xor_zero]

theorem val_sums (s : Nat) (f g h k : Nat → Nat) (e : ∀ j, j < s → f j + g j = h j + k j) : val ((List.range s).map f) + val ((List.range s).map g) = val ((List.range s).map h) + val ((List.range s).map k) := by
  induction s with
  | zero => rfl
  | succ s ih =>
    have := ih fun j hj => e j (by omega)
    have hs := congrArg (P s * ·) (e s (by omega))
    simp only [Nat.mul_add] at hs
    simp only [List.range_succ, List.map_append, List.map_cons, List.map_nil, val_snoc, List.length_map, List.length_range]
    omega

theorem range_dg (X : List Nat) : (List.range X.length).map (dg X) = X := by
  refine list_dg (by simp) fun j hj => ?_
  rw [dg_map_range _ _ _ (by simpa using hj)]

theorem tcl_sum {x y u v : Int} (hx : x.natAbs < P 395) (hy : y.natAbs < P 395) (hu : u.natAbs < P 395) (hv : v.natAbs < P 395) (h : val (tcl 400 x) + val (tcl 400 y) = val (tcl 400 u) + val (tcl 400 v)) : x + y = u + v := by
  obtain ⟨c, hc⟩ := tcl_congr 400 x
  obtain ⟨d, hd⟩ := tcl_congr 400 y
  obtain ⟨c', hc'⟩ := tcl_congr 400 u
  obtain ⟨d', hd'⟩ := tcl_congr 400 v
  have e : 4 * P 395 ≤ P 400 := P_four (by decide)
  generalize P 400 = q at *
  generalize P 395 = p at *
  refine cong_small (p := 2 * p) (q := q) (d := c' + d' - c - d) (by omega) (by omega) (by omega) ?_
  simp only [Int.sub_mul, Int.add_mul]
  omega

theorem bop_sum (a b : Int) (ha : a.natAbs < P 390) (hb : b.natAbs < P 390) : bop landf a b + bop lorf a b = a + b := by
  have hp : P 390 < P 395 := P_lt (by decide)
  have h1 := bop_le landf_even (m := 390) (by decide) ha hb
  have h2 := bop_le lorf_even (m := 390) (by decide) ha hb
  refine tcl_sum (by omega) (by omega) (by omega) (by omega) ?_
  rw [tcl_bop landf_even, tcl_bop lorf_even]
  have e1 := range_dg (tcl 400 a)
  have e2 := range_dg (tcl 400 b)
  rw [tcl_len] at e1 e2
  have := val_sums 400 (fun j => landf (dg (tcl 400 a) j) (dg (tcl 400 b) j)) (fun j => lorf (dg (tcl 400 a) j) (dg (tcl 400 b) j)) (dg (tcl 400 a)) (dg (tcl 400 b)) (fun j _ => by unfold landf lorf; exact and_add_or _ _)
  rw [e1, e2] at this
  exact this

theorem bop_not (a : Int) (ha : a.natAbs < P 390) : bop lnotf a 0 = -1 - a := by
  have hp : P 390 < P 395 := P_lt (by decide)
  have h0 := P_pos 390
  have h1 := bop_le lnotf_even (m := 390) (a := a) (b := 0) (by decide) ha (by simpa using h0)
  have key : bop lnotf a 0 + a = -1 + 0 := by
    have hlarge : 1 < P 395 := by omega
    refine tcl_sum (by omega) (by omega) (by omega) (by simp; omega) ?_
    rw [tcl_bop lnotf_even]
    have e1 := range_dg (tcl 400 a)
    have e2 := range_dg (tcl 400 (-1))
    have e3 := range_dg (tcl 400 0)
    rw [tcl_len] at e1 e2 e3
    have := val_sums 400 (fun j => lnotf (dg (tcl 400 a) j) (dg (tcl 400 0) j)) (dg (tcl 400 a)) (dg (tcl 400 (-1))) (dg (tcl 400 0)) (fun j hj => by
      rw [dg_tcl_high 400 0 (-1) (by decide) (by decide) j (by omega) hj, dg_tcl_high 400 0 0 (by decide) (by decide) j (by omega) hj]
      have := (tcl_ok 400 a).dg j
      unfold lnotf
      simp
      omega)
    rw [e1, e2, e3] at this
    exact this
  omega
end Lm
