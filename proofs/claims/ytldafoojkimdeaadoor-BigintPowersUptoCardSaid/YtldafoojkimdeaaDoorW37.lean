/- What is written of a number is read as it again: plain. -/
import Derived.Test.YtldafoojkimdeaaDoorW31
namespace Go.Proofs.YtldafoojkimdeaaDoor
open Go.RowKit Lm

theorem lowD_lt {r : Nat} (h2 : 2 ≤ r) : ∀ f v, ∀ d ∈ lowD r f v, d < r
  | 0, _, d, h => by cases h
  | f + 1, v, d, h => by
    by_cases h0 : v = 0
    · rw [h0, lowD_zero] at h; cases h
    · rw [lowD_step r f v h0] at h
      rcases List.mem_cons.1 h with rfl | h
      · exact Nat.mod_lt _ (by omega)
      · exact lowD_lt h2 f _ d h
/-- The value of digits, the lowest first. -/
def lval (r : Nat) : List Nat → Nat
  | [] => 0
  | d :: l => d + r * lval r l
theorem lowD_val {r : Nat} (h2 : 2 ≤ r) : ∀ f v, v < 2 ^ f → lval r (lowD r f v) = v
  | 0, v, h => by
    have : v = 0 := by simpa using h
    subst this; rfl
  | f + 1, v, h => by
    by_cases h0 : v = 0
    · rw [h0, lowD_zero]; rfl
    · rw [lowD_step r f v h0]
      have h1 : v / r < 2 ^ f := by
        rw [Nat.div_lt_iff_lt_mul (by omega)]
        calc v < 2 ^ f * 2 := by rw [← Nat.pow_succ]; exact h
          _ ≤ 2 ^ f * r := Nat.mul_le_mul_left _ h2
      show v % r + r * lval r (lowD r f (v / r)) = v
      rw [lowD_val h2 f _ h1]
      exact Nat.mod_add_div v r
theorem lowD_last {r : Nat} (h2 : 2 ≤ r) : ∀ f v, v < 2 ^ f → ∀ h : lowD r f v ≠ [], (lowD r f v).getLast h ≠ 0
  | 0, v, _, h => absurd rfl h
  | f + 1, v, hv, h => by
    by_cases h0 : v = 0
    · exact absurd (by rw [h0, lowD_zero]) h
    · have h1 : v / r < 2 ^ f := by
        rw [Nat.div_lt_iff_lt_mul (by omega)]
        calc v < 2 ^ f * 2 := by rw [← Nat.pow_succ]; exact hv
          _ ≤ 2 ^ f * r := Nat.mul_le_mul_left _ h2
      have e := lowD_step r f v h0
      by_cases hn : lowD r f (v / r) = []
      · have hz : v / r = 0 := by
          have := lowD_val h2 f _ h1
          rw [hn] at this; exact this.symm
        have : v % r = v := Nat.mod_eq_of_lt (by rcases Nat.div_eq_zero_iff.1 hz with h | h <;> omega)
        simp only [e, hn, List.getLast_singleton]
        omega
      · simp only [e, List.getLast_cons hn]
        exact lowD_last h2 f _ h1 hn

theorem dch_lt {d : Nat} (h : d < 36) : dch d < 123 := by unfold dch; split <;> omega
theorem dv_dch {d : Nat} (h : d < 36) : dv (UInt8.ofNat (dch d)).toNat = d := by
  have : (UInt8.ofNat (dch d)).toNat = dch d := by
    rw [UInt8.toNat_ofNat']; exact Nat.mod_eq_of_lt (Nat.lt_trans (dch_lt h) (by decide))
  rw [this]
  unfold dch dv
  split <;> (try split) <;> (try split) <;> omega
theorem dch_not45 {d : Nat} (h : d < 36) : UInt8.ofNat (dch d) ≠ 45 := by
  intro e
  have := congrArg UInt8.toNat e
  rw [UInt8.toNat_ofNat', Nat.mod_eq_of_lt (Nat.lt_trans (dch_lt h) (by decide))] at this
  unfold dch at this
  split at this <;> simp at this <;> omega
theorem dch_not48 {d : Nat} (h : d < 36) (h0 : d ≠ 0) : UInt8.ofNat (dch d) ≠ 48 := by
  intro e
  have := congrArg UInt8.toNat e
  rw [UInt8.toNat_ofNat', Nat.mod_eq_of_lt (Nat.lt_trans (dch_lt h) (by decide))] at this
  unfold dch at this
  split at this <;> simp at this <;> omega

/-- The bytes of digits, the highest first. -/
def dbs (D : List Nat) : List UInt8 := ((D.map dch).reverse).map UInt8.ofNat
theorem dbs_val {r : Nat} (h36 : r ≤ 36) : ∀ D : List Nat, (∀ d ∈ D, d < r) → dval r (dbs D) = lval r D
  | [], _ => rfl
  | d :: D, h => by
    have hd : d < r := h d List.mem_cons_self
    have e : dbs (d :: D) = dbs D ++ [UInt8.ofNat (dch d)] := by simp [dbs]
    rw [e, dval_snoc, dbs_val h36 D (fun x hx => h x (List.mem_cons_of_mem _ hx)), dv_dch (by omega)]
    show lval r D * r + d = d + r * lval r D
    rw [Nat.mul_comm, Nat.add_comm]
theorem dbs_mem {r : Nat} {D : List Nat} (h : ∀ d ∈ D, d < r) {c : UInt8} (hc : c ∈ dbs D) : ∃ d, d < r ∧ c = UInt8.ofNat (dch d) := by
  obtain ⟨x, hx, rfl⟩ := List.mem_map.1 hc
  obtain ⟨d, hd, rfl⟩ := List.mem_map.1 (List.mem_reverse.1 hx)
  exact ⟨d, h d hd, rfl⟩
theorem dbs_len (D : List Nat) : (dbs D).length = D.length := by simp [dbs]
theorem dbs_head {D : List Nat} (h : D ≠ []) : ∃ l, dbs D = UInt8.ofNat (dch (D.getLast h)) :: l := by
  have e := (List.dropLast_concat_getLast h).symm
  refine ⟨dbs D.dropLast, ?_⟩
  have : dbs D = dbs (D.dropLast ++ [D.getLast h]) := by rw [← e]
  rw [this]; simp [dbs]

theorem strOf_txt {n : Bool} {r v : Nat} (h : v ≠ 0) : (strOf (txt n r v)).data.toList = (if n then [45] else []) ++ dbs (lowD r 4096 v) := by
  unfold strOf txt dbs
  rw [if_neg h]
  cases n <;> simp
theorem strOf_zero {n : Bool} {r : Nat} : strOf (txt n r 0) = ⟨#[48]⟩ := by unfold strOf txt; rfl

theorem trim_head {c : UInt8} {l : List UInt8} (h : c ≠ 48) : Lib.trimLeftB (c :: l) 48 = c :: l := by
  unfold Lib.trimLeftB
  rw [List.dropWhile_cons, if_neg (by simpa using h)]
theorem prefix_minus (l : List UInt8) : Lib.hasPrefix (45 :: l) [45] = true ∧ Lib.trimPrefix (45 :: l) [45] = l := by
  have h : Lib.hasPrefix (45 :: l) [45] = true := by simp [Lib.hasPrefix]
  exact ⟨h, by unfold Lib.trimPrefix; rw [h]; rfl⟩
theorem prefix_none {c : UInt8} {l : List UInt8} (h : c ≠ 45) : Lib.hasPrefix (c :: l) [45] = false ∧ Lib.trimPrefix (c :: l) [45] = c :: l := by
  have h1 : Lib.hasPrefix (c :: l) [45] = false := by
    simp [Lib.hasPrefix, List.isPrefixOf]
    exact fun e => h e.symm
  exact ⟨h1, by unfold Lib.trimPrefix; rw [h1]; rfl⟩

/-- What Parse asks of a text that Text wrote, and what it makes of it. -/
structure Back (n : Bool) (r v : Nat) : Prop where
  us : (unsigned (strOf (txt n r v))).size ≤ 4096
  all : allD (unsigned (strOf (txt n r v))) r = true
  bs : (bare (strOf (txt n r v))).size ≤ 4096
  bd : ∀ c ∈ (bare (strOf (txt n r v))).data.toList, dv c.toNat < r
  back : sval (signed (strOf (txt n r v))) (dval r (bare (strOf (txt n r v))).data.toList) = if n then -(v : Int) else (v : Int)

theorem back_any (n : Bool) {r v : Nat} (h2 : 2 ≤ r) (h36 : r ≤ 36) (hv : v < 2 ^ 4096) : Back n r v := by
  by_cases h0 : v = 0
  · subst h0
    have eu : unsigned ⟨#[48]⟩ = ⟨#[48]⟩ := by decide
    have eb : bare ⟨#[48]⟩ = ⟨#[]⟩ := by decide
    have es : signed ⟨#[48]⟩ = false := by decide
    refine ⟨?_, ?_, ?_, ?_, ?_⟩
    · rw [strOf_zero, eu]; decide
    · rw [strOf_zero, eu]
      unfold allD
      refine decide_eq_true ⟨by decide, fun j h => ?_⟩
      have hj : j = 0 := by
        have : (⟨#[48]⟩ : ByteArray).size = 1 := rfl
        omega
      subst hj
      exact Nat.lt_of_lt_of_le (by decide : dv 48 < 1) (by omega)
    · rw [strOf_zero, eb]; decide
    · rw [strOf_zero, eb]; intro c hc; cases hc
    · rw [strOf_zero, eb, es]; cases n <;> rfl
  · have hne : lowD r 4096 v ≠ [] := by
      rw [lowD_step r 4095 v h0]; exact List.cons_ne_nil _ _
    have hlt := lowD_lt h2 4096 v
    have hlen := lowD_len r 4096 v
    have hval := lowD_val h2 4096 v hv
    have hlast := lowD_last h2 4096 v hv hne
    obtain ⟨l, hl⟩ := dbs_head hne
    have hd0 : (lowD r 4096 v).getLast hne < r := hlt _ (List.getLast_mem hne)
    generalize hD : lowD r 4096 v = D at *
    have hs := strOf_txt (n := n) (r := r) h0
    rw [hD] at hs
    have hu : (unsigned (strOf (txt n r v))).data.toList = dbs D := by
      unfold unsigned
      rw [hs]
      cases n
      · simp only [Bool.false_eq_true, if_false, List.nil_append]
        rw [hl, (prefix_none (dch_not45 (by omega))).2]
      · simp only [if_true, List.singleton_append]
        rw [(prefix_minus _).2]
    have hb : (bare (strOf (txt n r v))).data.toList = dbs D := by
      unfold bare
      rw [hu]
      show Lib.trimLeftB (dbs D) 48 = dbs D
      rw [hl, trim_head (dch_not48 (by omega) hlast)]
    have hg : signed (strOf (txt n r v)) = n := by
      unfold signed
      rw [hs]
      cases n
      · simp only [Bool.false_eq_true, if_false, List.nil_append]
        rw [hl, (prefix_none (dch_not45 (by omega))).1]
      · simp only [if_true, List.singleton_append]
        rw [(prefix_minus _).1]
    have hmem : ∀ c ∈ dbs D, dv c.toNat < r := by
      intro c hc
      obtain ⟨d, hd, rfl⟩ := dbs_mem hlt hc
      rw [dv_dch (by omega)]; exact hd
    have hus : (unsigned (strOf (txt n r v))).size = D.length := by rw [Lib.size_eq, hu, dbs_len]
    have hbs : (bare (strOf (txt n r v))).size = D.length := by rw [Lib.size_eq, hb, dbs_len]
    refine ⟨by omega, ?_, by omega, by rw [hb]; exact hmem, ?_⟩
    · unfold allD
      refine decide_eq_true ⟨by rw [hus]; exact List.length_pos_iff.2 hne, fun j h => ?_⟩
      have := mem_get _ j h
      rw [hu] at this
      exact hmem _ this
    · rw [hg, hb, dbs_val h36 D hlt, hval]
      rfl

/-- Texts are the same just where the numbers are. -/
theorem txt_same {n m : Bool} {r : Nat} {A B : List Nat} (h2 : 2 ≤ r) (h36 : r ≤ 36) (hA : val A < 2 ^ 4096) (hB : val B < 2 ^ 4096) : strOf (txt n r (val A)) = strOf (txt m r (val B)) ↔ num n A = num m B := by
  have k1 := (back_any n h2 h36 hA).back
  have k2 := (back_any m h2 h36 hB).back
  constructor
  · intro e
    rw [e, k2] at k1
    unfold num
    exact k1.symm
  · intro e
    unfold num at e
    cases n <;> cases m <;> simp at e
    · rw [show val A = val B by omega]
    · have : val A = 0 := by omega
      have h' : val B = 0 := by omega
      rw [this, h']; rfl
    · have : val A = 0 := by omega
      have h' : val B = 0 := by omega
      rw [this, h']; rfl
    · rw [show val A = val B by omega]
end Go.Proofs.YtldafoojkimdeaaDoor
