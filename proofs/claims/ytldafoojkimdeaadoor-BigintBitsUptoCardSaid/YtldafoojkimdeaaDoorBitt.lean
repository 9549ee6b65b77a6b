/- Plain mathematics: bits of two's complements, one by one, and what a table of four does to them; it is what is done limb by limb. No condition but those that each theorem names. -/
import Derived.Test.YtldafoojkimdeaaDoorBitmm
import Derived.Test.YtldafoojkimdeaaDoorBitw
namespace Lm

/-- The bit at a place of an integer's two's complement. -/
def ib (v : Int) (i : Nat) : Nat := (v / (2 ^ i : Nat) % 2).toNat
theorem ib_int (v : Int) (i : Nat) : (ib v i : Int) = v / (2 ^ i : Nat) % 2 := by
  unfold ib; have := Int.emod_nonneg (v / (2 ^ i : Nat)) (b := 2) (by decide); omega
theorem ib_le (v : Int) (i : Nat) : ib v i ≤ 1 := by
  have := ib_int v i; omega
theorem ib_eq {v : Int} {i n : Nat} (h : v / (2 ^ i : Nat) % 2 = (n : Int)) : ib v i = n := by
  have := ib_int v i; omega
/-- The integer of bits that are a two's complement. -/
def backb (n : Nat) (Z : List Nat) : Int := (bv Z : Int) - if dg Z (n - 1) = 0 then 0 else ((2 ^ n : Nat) : Int)

theorem bv_div (l : List Nat) (h : B1 l) (i : Nat) : bv l / 2 ^ i % 2 = dg l i := by
  have s := bv_split_any l i
  have d := bv_drop_dg l i
  have hx := h.dg i
  have hp : 0 < 2 ^ i := Nat.pow_pos (by decide)
  have hlt := bv_lt (h.take i)
  have hlt2 : bv (l.take i) < 2 ^ i := Nat.lt_of_lt_of_le hlt (Nat.pow_le_pow_right (by decide) (by rw [List.length_take]; omega))
  rw [s, Nat.add_comm, Nat.mul_add_div hp, Nat.div_eq_of_lt hlt2, d]
  omega
theorem bv_div_int (l : List Nat) (h : B1 l) (i : Nat) : ((bv l : Int) / (2 ^ i : Nat)) % 2 = (dg l i : Int) := by
  have := bv_div l h i
  rw [← Int.natCast_ediv]; omega
/-- Each bit of it. -/
theorem ib_backb {n : Nat} (h0 : 0 < n) {Z : List Nat} (hl : Z.length = n) (hb : B1 Z) (i : Nat) : ib (backb n Z) i = if i < n then dg Z i else dg Z (n - 1) := by
  have hx := hb.dg (n - 1)
  have hd := bv_div_int Z hb i
  unfold backb
  by_cases ht : dg Z (n - 1) = 0
  · rw [if_pos ht, Int.sub_zero]
    refine ib_eq ?_
    rw [hd]
    by_cases hi : i < n
    · rw [if_pos hi]
    · rw [if_neg hi, ht, dg_out Z i (by omega)]
  · rw [if_neg ht]
    by_cases hi : i < n
    · rw [if_pos hi]
      refine ib_eq ?_
      have hp : ((2 ^ i : Nat) : Int) ≠ 0 := by have := Nat.pow_pos (n := i) (show 0 < 2 by decide); omega
      have e : ((2 ^ n : Nat) : Int) = ((2 ^ (n - i) : Nat) : Int) * ((2 ^ i : Nat) : Int) := by rw [← Int.natCast_mul, ← Nat.pow_add]; congr 2; omega
      rw [e, Int.sub_eq_add_neg, ← Int.neg_mul, Int.add_mul_ediv_right _ _ hp]
      have e2 : ((2 ^ (n - i) : Nat) : Int) = 2 * ((2 ^ (n - i - 1) : Nat) : Int) := by
        have : 2 ^ (n - i) = 2 * 2 ^ (n - i - 1) := by rw [← Nat.pow_succ']; congr 1; omega
        rw [this]; simp
      rw [e2]; omega
    · rw [if_neg hi]
      refine ib_eq ?_
      have hlt := bv_lt hb
      rw [hl] at hlt
      have hni : 2 ^ n ≤ 2 ^ i := Nat.pow_le_pow_right (by decide) (by omega)
      have : ((bv Z : Int) - ((2 ^ n : Nat) : Int)) / ((2 ^ i : Nat) : Int) = -1 := by
        apply Int.le_antisymm
        · have := Int.ediv_neg_of_neg_of_pos (a := (bv Z : Int) - ((2 ^ n : Nat) : Int)) (b := ((2 ^ i : Nat) : Int)) (by omega) (by omega)
          omega
        · rw [Int.le_ediv_iff_mul_le (by omega)]; omega
      rw [this]; omega
/-- An integer's two's complement by bits. -/
structure TC (n : Nat) (T : List Nat) (v : Int) : Prop where
  len : T.length = n
  bits : B1 T
  eq : v = backb n T
theorem TC.pos {n : Nat} {T L : List Nat} (hl : T.length = n) (hL : B1 L) (h : L.length < n) (hd : ∀ i, i < n → dg T i = dg L i) : TC n T (bv L : Int) := by
  have bT : B1 T := B1_of_dg fun j hj => by rw [hd j (by omega)]; exact hL.dg j
  have e : bv T = bv L := by
    have h1 := bv_split_any T L.length
    have e1 : T.take L.length = L := by
      apply List.ext_getElem
      · simp; omega
      · intro i a b
        have := hd i (by omega)
        unfold dg at this
        rw [getD_in _ _ (by omega), getD_in _ _ b] at this
        simpa using this
    have e2 : T.drop L.length = List.replicate (n - L.length) 0 := by
      apply List.ext_getElem
      · simp; omega
      · intro i a b
        simp at a b
        have := hd (L.length + i) (by omega)
        rw [dg_out L _ (by omega)] at this
        unfold dg at this
        rw [getD_in _ _ (by omega)] at this
        simpa using this
    rw [h1, e1, e2, bv_zeros]; simp
  refine ⟨hl, bT, ?_⟩
  unfold backb
  rw [if_pos (by rw [hd _ (by omega), dg_out L _ (by omega)]), e]; simp
theorem bv_flip (n : Nat) (T L : List Nat) (hT : T.length = n) (hL : B1 L) (hd : ∀ i, i < n → dg T i = 1 - dg L i) : bv T + bv (L.take n) + 1 = 2 ^ n := by
  induction n generalizing T with
  | zero => rw [List.eq_nil_of_length_eq_zero hT]; rfl
  | succ n ih =>
    have h1 := ih (T.take n) (by rw [List.length_take]; omega) (fun i hi => by rw [dg_take _ _ _ hi]; exact hd i (by omega))
    have h2 := bv_take_any T n
    rw [List.take_of_length_le (by omega)] at h2
    have h3 := bv_take_any L n
    have h4 := hd n (by omega)
    have h5 := hL.dg n
    rw [h2, h3, Nat.pow_succ, h4]
    rcases (show dg L n = 0 ∨ dg L n = 1 by omega) with e | e <;> rw [e] <;> omega
theorem TC.neg {n : Nat} {T L : List Nat} (hl : T.length = n) (hL : B1 L) (h : L.length < n) (hd : ∀ i, i < n → dg T i = 1 - dg L i) : TC n T (-(bv L : Int) - 1) := by
  have bT : B1 T := B1_of_dg fun j hj => by rw [hd j (by omega)]; omega
  have e := bv_flip n T L hl hL hd
  rw [bv_take_ge L n (by omega)] at e
  refine ⟨hl, bT, ?_⟩
  unfold backb
  rw [if_neg (by rw [hd _ (by omega), dg_out L _ (by omega)]; decide)]; omega
theorem TC.ib {n : Nat} {T : List Nat} {v : Int} (h : TC n T v) (h0 : 0 < n) (i : Nat) : ib v i = if i < n then dg T i else dg T (n - 1) := by
  rw [h.eq]; exact ib_backb h0 h.len h.bits i

/-! ### Limbs -/
theorem testBit_ib (v : Int) {i : Nat} (hi : i < 12800) : (val (tcl 400 v)).testBit i = decide (ib v i = 1) := by
  obtain ⟨c, hc⟩ := tcl_congr 400 v
  have hP : (P 400 : Int) = ((2 ^ (12800 - i) : Nat) : Int) * ((2 ^ i : Nat) : Int) := by
    rw [← Int.natCast_mul, ← Nat.pow_add, P_two]; congr 2; omega
  have hp : ((2 ^ i : Nat) : Int) ≠ 0 := by have := Nat.pow_pos (n := i) (show 0 < 2 by decide); omega
  have e1 : ((val (tcl 400 v) / 2 ^ i % 2 : Nat) : Int) = (ib v i : Int) := by
    rw [ib_int, Int.natCast_emod, Int.natCast_ediv, hc, hP]
    have : v + c * (((2 ^ (12800 - i) : Nat) : Int) * ((2 ^ i : Nat) : Int)) = v + (c * ((2 ^ (12800 - i) : Nat) : Int)) * ((2 ^ i : Nat) : Int) := by rw [Int.mul_assoc]
    rw [this, Int.add_mul_ediv_right _ _ hp]
    have e2 : ((2 ^ (12800 - i) : Nat) : Int) = 2 * ((2 ^ (12800 - i - 1) : Nat) : Int) := by
      have : 2 ^ (12800 - i) = 2 * 2 ^ (12800 - i - 1) := by rw [← Nat.pow_succ']; congr 1; omega
      rw [this]; simp
    rw [e2, show c * (2 * ((2 ^ (12800 - i - 1) : Nat) : Int)) = 2 * (c * ((2 ^ (12800 - i - 1) : Nat) : Int)) by grind]
    omega
  rw [Nat.testBit_eq_decide_div_mod_eq]
  congr 1
  have : val (tcl 400 v) / 2 ^ i % 2 = ib v i := by omega
  rw [this]
theorem testBit_val {l : List Nat} (h : Ok l) (j k : Nat) (hk : k < 32) : (val l).testBit (32 * j + k) = (dg l j).testBit k := by
  rw [dg_div l h j, P_two, show (4294967296 : Nat) = 2 ^ 32 by rfl, Nat.testBit_mod_two_pow, Nat.testBit_div_two_pow]
  simp [hk, Nat.add_comm]
/-- A bit as a number. -/
def bt (x j : Nat) : Nat := if x.testBit j then 1 else 0
theorem bt_tcl (v : Int) (j k : Nat) (hj : j < 400) (hk : k < 32) : bt (dg (tcl 400 v) j) k = ib v (32 * j + k) := by
  unfold bt
  rw [← testBit_val (tcl_ok _ _) j k hk, testBit_ib v (by omega)]
  have := ib_le v (32 * j + k)
  by_cases h : ib v (32 * j + k) = 1
  · simp [h]
  · simp [h]; omega

/-- What is done limb by limb is a table of four, bit by bit. -/
def Tabled (f : Nat → Nat → Nat) (tb : List Nat) : Prop := ∀ x y j, x < 4294967296 → y < 4294967296 → j < 32 → (f x y).testBit j = decide (dg tb (2 * bt x j + bt y j) = 1)
theorem landf_tab : Tabled landf [0, 0, 0, 1] := by
  intro x y j hx hy hj
  unfold landf bt
  rw [Nat.testBit_and]
  cases x.testBit j <;> cases y.testBit j <;> rfl
theorem lorf_tab : Tabled lorf [0, 1, 1, 1] := by
  intro x y j hx hy hj
  unfold lorf bt
  rw [Nat.testBit_or]
  cases x.testBit j <;> cases y.testBit j <;> rfl
theorem lxorf_tab : Tabled lxorf [0, 1, 1, 0] := by
  intro x y j hx hy hj
  unfold lxorf bt
  rw [Nat.testBit_xor]
  cases x.testBit j <;> cases y.testBit j <;> rfl
theorem lnotf_tab : Tabled lnotf [1, 1, 0, 0] := by
  intro x y j hx hy hj
  unfold lnotf bt
  rw [show 4294967295 - x = 2 ^ 32 - (x + 1) by omega, Nat.testBit_two_pow_sub_succ (by omega)]
  cases x.testBit j <;> cases y.testBit j <;> simp [hj, dg]
theorem P_gt {n m : Nat} (h : n < 32 * m) : 2 ^ n < P m := by rw [P_two]; exact Nat.pow_lt_pow_right (by decide) h
theorem val_lt_pow {l : List Nat} {m i : Nat} (hl : l.length = m) (ho : Ok l) (h : 32 * m ≤ i) : val l < 2 ^ i := by
  have h1 := val_lt ho
  rw [hl, P_two] at h1
  exact Nat.lt_of_lt_of_le h1 (Nat.pow_le_pow_right (by decide) h)
theorem backb_size {n : Nat} {Z : List Nat} (hl : Z.length = n) (hb : B1 Z) : (backb n Z).natAbs ≤ 2 ^ n := by
  have := bv_lt hb
  rw [hl] at this
  unfold backb
  split <;> omega
theorem bop_bits {f : Nat → Nat → Nat} (hf : Even f) {tb : List Nat} (ht : Tabled f tb) (hb : B1 tb) {n : Nat} (h0 : 0 < n) (hn : n ≤ 12000) {TA TB Z : List Nat} {a b : Int} (hA : TC n TA a) (hB : TC n TB b) (hZ : Z.length = n)
    (hz : ∀ i, i < n → dg Z i = dg tb (2 * dg TA i + dg TB i)) : B1 Z ∧ backb n Z = bop f a b := by
  have bZ : B1 Z := B1_of_dg fun j hj => by rw [hz j (by omega)]; exact hb.dg _
  refine ⟨bZ, ?_⟩
  have hp : 2 ^ n < P 398 := P_gt (by omega)
  have sA := backb_size hA.len hA.bits
  have sB := backb_size hB.len hB.bits
  have sZ := backb_size hZ bZ
  rw [← hA.eq] at sA
  rw [← hB.eq] at sB
  have hlt : P 398 < P 399 := P_lt (by decide)
  have hbo := bop_le hf (m := 398) (by decide) (a := a) (b := b) (by omega) (by omega)
  refine tcl_inj (by omega) (by omega) ?_
  rw [tcl_bop hf]
  apply Nat.eq_of_testBit_eq
  intro i
  by_cases hi : i < 12800
  · obtain ⟨j, k, hk, rfl⟩ : ∃ j k, k < 32 ∧ i = 32 * j + k := ⟨i / 32, i % 32, Nat.mod_lt _ (by decide), by omega⟩
    have hj : j < 400 := by omega
    rw [testBit_ib _ hi, testBit_val (zipw_ok hf.lt (tcl_ok _ _) (tcl_ok _ _)) j k hk, dg_zipw hj, ht _ _ _ ((tcl_ok _ _).dg _) ((tcl_ok _ _).dg _) hk, bt_tcl a j k hj hk, bt_tcl b j k hj hk, hA.ib h0, hB.ib h0, ib_backb h0 hZ bZ]
    by_cases hin : 32 * j + k < n
    · rw [if_pos hin, if_pos hin, if_pos hin, hz _ hin]
    · rw [if_neg hin, if_neg hin, if_neg hin, hz _ (by omega)]
  · have e1 : ∀ l : List Nat, l.length = 400 → Ok l → (val l).testBit i = false := fun l hl ho => by
      exact Nat.testBit_lt_two_pow (val_lt_pow hl ho (by omega))
    rw [e1 _ (tcl_len _ _) (tcl_ok _ _), e1 _ (zipw_len _ _ _ _) (zipw_ok hf.lt (tcl_ok _ _) (tcl_ok _ _))]
end Lm
