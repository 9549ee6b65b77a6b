/- What is written of a number is read as it again: plain. For the law BigintReads: Text and Parse by a number's value alone; appends in regions that draw their order. How the document's answer lies in memory: a slice of ints that reads as a list of numbers; an integer as a sign and bits. Plain facts on worlds; no condition but those that each theorem names. The law BigintReads, region by region. -/
import Derived.Test.YtldafoojkimdeaaDoorDividesM4
import Derived.Test.YtldafoojkimdeaaDoorDividesM5
import Derived.Test.YtldafoojkimdeaaDoorDividesM1
namespace Go.Proofs.YtldafoojkimdeaaDoor
open Go.RowKit Lm

theorem lowD_lt {r : Nat} (h2 : 2 ≤ r) : ∀ f v, ∀ d ∈ lowD r f v, d < r
  | 0, _, d, h => by cases h
  | f + 1, v, d, h => by
    by_cases h0 : v = 0
    · rw [h0, lowD_zero] at h; cases h
    · rw [lowD_step r f v h0] at h
      rcases List.mem_cons.1 h with rfl | h
      · exact Nat.mod_lt _ (by omega)
      · exact lowD_lt h2 f _ d h
/-- The value of digits, the lowest first. -/
def lval (r : Nat) : List Nat → Nat
  | [] => 0
  | d :: l => d + r * lval r l
theorem lowD_val {r : Nat} (h2 : 2 ≤ r) : ∀ f v, v < 2 ^ f → lval r (lowD r f v) = v
  | 0, v, h => by
    have : v = 0 := by simpa using h
    subst this; rfl
  | f + 1, v, h => by
    by_cases h0 : v = 0
    · rw [h0, lowD_zero]; rfl
    · rw [lowD_step r f v h0]
      have h1 : v / r < 2 ^ f := by
        rw [Nat.div_lt_iff_lt_mul (by omega)]
        calc v < 2 ^ f * 2 := by rw [← Nat.pow_succ]; exact h
          _ ≤ 2 ^ f * r := Nat.mul_le_mul_left _ h2
      show v % r + r * lval r (lowD r f (v / r)) = v
      rw [lowD_val h2 f _ h1]
      exact Nat.mod_add_div v r
theorem lowD_last {r : Nat} (h2 : 2 ≤ r) : ∀ f v, v < 2 ^ f → ∀ h : lowD r f v ≠ [], (lowD r f v).getLast h ≠ 0
  | 0, v, _, h => absurd rfl h
  | f + 1, v, hv, h => by
    by_cases h0 : v = 0
    · exact absurd (by rw [h0, lowD_zero]) h
    · have h1 : v / r < 2 ^ f := by
        rw [Nat.div_lt_iff_lt_mul (by omega)]
        calc v < 2 ^ f * 2 := by rw [← Nat.pow_succ]; exact hv
          _ ≤ 2 ^ f * r := Nat.mul_le_mul_left _ h2
      have e := lowD_step r f v h0
      by_cases hn : lowD r f (v / r) = []
      · have hz : v / r = 0 := by
          have := lowD_val h2 f _ h1
          rw [hn] at this; exact this.symm
        have : v % r = v := Nat.mod_eq_of_lt (by rcases Nat.div_eq_zero_iff.1 hz with h | h <;> omega)
        simp only [e, hn, List.getLast_singleton]
        omega
      · simp only [e, List.getLast_cons hn]
        exact lowD_last h2 f _ h1 hn

theorem dch_lt {d : Nat} (h : d < 36) : dch d < 123 := by unfold dch; split <;> omega
theorem dv_dch {d : Nat} (h : d < 36) : dv (UInt8.ofNat (dch d)).toNat = d := by
  have : (UInt8.ofNat (dch d)).toNat = dch d := by
    rw [UInt8.toNat_ofNat']; exact Nat.mod_eq_of_lt (Nat.lt_trans (dch_lt h) (by decide))
  rw [this]
  unfold dch dv
  split <;> (try split) <;> (try split) <;> omega
theorem dch_not45 {d : Nat} (h : d < 36) : UInt8.ofNat (dch d) ≠ 45 := by
  intro e
  have := congrArg UInt8.toNat e
  rw [UInt8.toNat_ofNat', Nat.mod_eq_of_lt (Nat.lt_trans (dch_lt h) (by decide))] at this
  unfold dch at this
  split at this <;> simp at this <;> omega
theorem dch_not48 {d : Nat} (h : d < 36) (h0 : d ≠ 0) : UInt8.ofNat (dch d) ≠ 48 := by
  intro e
  have := congrArg UInt8.toNat e
  rw [UInt8.toNat_ofNat', Nat.mod_eq_of_lt (Nat.lt_trans (dch_lt h) (by decide))] at this
  unfold dch at this
  split at this <;> simp at this <;> omega

/-- The bytes of digits, the highest first. -/
def dbs (D : List Nat) : List UInt8 := ((D.map dch).reverse).map UInt8.ofNat
theorem dbs_val {r : Nat} (h36 : r ≤ 36) : ∀ D : List Nat, (∀ d ∈ D, d < r) → dval r (dbs D) = lval r D
  | [], _ => rfl
  | d :: D, h => by
    have hd : d < r := h d List.mem_cons_self
    have e : dbs (d :: D) = dbs D ++ [UInt8.ofNat (dch d)] := by simp [dbs]
    rw [e, dval_snoc, dbs_val h36 D (fun x hx => h x (List.mem_cons_of_mem _ hx)), dv_dch (by omega)]
    show lval r D * r + d = d + r * lval r D
    rw [Nat.mul_comm, Nat.add_comm]
theorem dbs_mem {r : Nat} {D : List Nat} (h : ∀ d ∈ D, d < r) {c : UInt8} (hc : c ∈ dbs D) : ∃ d, d < r ∧ c = UInt8.ofNat (dch d) := by
  obtain ⟨x, hx, rfl⟩ := List.mem_map.1 hc
  obtain ⟨d, hd, rfl⟩ := List.mem_map.1 (List.mem_reverse.1 hx)
  exact ⟨d, h d hd, rfl⟩
theorem dbs_len (D : List Nat) : (dbs D).length = D.length := by simp [dbs]
theorem dbs_head {D : List Nat} (h : D ≠ []) : ∃ l, dbs D = UInt8.ofNat (dch (D.getLast h)) :: l := by
  have e := (List.dropLast_concat_getLast h).symm
  refine ⟨dbs D.dropLast, ?_⟩
  have : dbs D = dbs (D.dropLast ++ [D.getLast h]) := by rw [← e]
  rw [this]; simp [dbs]

theorem strOf_txt {n : Bool} {r v : Nat} (h : v ≠ 0) : (strOf (txt n r v)).data.toList = (if n then [45] else []) ++ dbs (lowD r 4096 v) := by
  unfold strOf txt dbs
  rw [if_neg h]
  cases n <;> simp
theorem strOf_zero {n : Bool} {r : Nat} : strOf (txt n r 0) = ⟨#[48]⟩ := by unfold strOf txt; rfl

theorem trim_head {c : UInt8} {l : List UInt8} (h : c ≠ 48) : Lib.trimLeftB (c :: l) 48 = c :: l := by
  unfold Lib.trimLeftB
  rw [List.dropWhile_cons, if_neg (by simpa using h)]
theorem prefix_minus (l : List UInt8) : Lib.hasPrefix (45 :: l) [45] = true ∧ Lib.trimPrefix (45 :: l) [45] = l := by
  have h : Lib.hasPrefix (45 :: l) [45] = true := by simp [Lib.hasPrefix]
  exact ⟨h, by unfold Lib.trimPrefix; rw [h]; rfl⟩
theorem prefix_none {c : UInt8} {l : List UInt8} (h : c ≠ 45) : Lib.hasPrefix (c :: l) [45] = false ∧ Lib.trimPrefix (c :: l) [45] = c :: l := by
  have h1 : Lib.hasPrefix (c :: l) [45] = false := by
    simp [Lib.hasPrefix, List.isPrefixOf]
    exact fun e => h e.symm
  exact ⟨h1, by unfold Lib.trimPrefix; rw [h1]; rfl⟩

/-- What Parse asks of a text that Text wrote, and what it makes of it. -/
structure Back (n : Bool) (r v : Nat) : Prop where
  us : (unsigned (strOf (txt n r v))).size ≤ 4096
  all : allD (unsigned (strOf (txt n r v))) r = true
  bs : (bare (strOf (txt n r v))).size ≤ 4096
  bd : ∀ c ∈ (bare (strOf (txt n r v))).data.toList, dv c.toNat < r
  back : sval (signed (strOf (txt n r v))) (dval r (bare (strOf (txt n r v))).data.toList) = if n then -(v : Int) else (v : Int)

theorem back_any (n : Bool) {r v : Nat} (h2 : 2 ≤ r) (h36 : r ≤ 36) (hv : v < 2 ^ 4096) : Back n r v := by
  by_cases h0 : v = 0
  · subst h0
    have eu : unsigned ⟨#[48]⟩ = ⟨#[48]⟩ := by decide
    have eb : bare ⟨#[48]⟩ = ⟨#[]⟩ := by decide
    have es : signed ⟨#[48]⟩ = false := by decide
    refine ⟨?_, ?_, ?_, ?_, ?_⟩
    · rw [strOf_zero, eu]; decide
    · rw [strOf_zero, eu]
      unfold allD
      refine decide_eq_true ⟨by decide, fun j h => ?_⟩
      have hj : j = 0 := by
        have : (⟨#[48]⟩ : ByteArray).size = 1 := rfl
        omega
      subst hj
      exact Nat.lt_of_lt_of_le (by decide : dv 48 < 1) (by omega)
    · rw [strOf_zero, eb]; decide
    · rw [strOf_zero, eb]; intro c hc; cases hc
    · rw [strOf_zero, eb, es]; cases n <;> rfl
  · have hne : lowD r 4096 v ≠ [] := by
      rw [lowD_step r 4095 v h0]; exact List.cons_ne_nil _ _
    have hlt := lowD_lt h2 4096 v
    have hlen := lowD_len r 4096 v
    have hval := lowD_val h2 4096 v hv
    have hlast := lowD_last h2 4096 v hv hne
    obtain ⟨l, hl⟩ := dbs_head hne
    have hd0 : (lowD r 4096 v).getLast hne < r := hlt _ (List.getLast_mem hne)
    generalize hD : lowD r 4096 v = D at *
    have hs := strOf_txt (n := n) (r := r) h0
    rw [hD] at hs
    have hu : (unsigned (strOf (txt n r v))).data.toList = dbs D := by
      unfold unsigned
      rw [hs]
      cases n
      · simp only [Bool.false_eq_true, if_false, List.nil_append]
        rw [hl, (prefix_none (dch_not45 (by omega))).2]
      · simp only [if_true, List.singleton_append]
        rw [(prefix_minus _).2]
    have hb : (bare (strOf (txt n r v))).data.toList = dbs D := by
      unfold bare
      rw [hu]
      show Lib.trimLeftB (dbs D) 48 = dbs D
      rw [hl, trim_head (dch_not48 (by omega) hlast)]
    have hg : signed (strOf (txt n r v)) = n := by
      unfold signed
      rw [hs]
      cases n
      · simp only [Bool.false_eq_true, if_false, List.nil_append]
        rw [hl, (prefix_none (dch_not45 (by omega))).1]
      · simp only [if_true, List.singleton_append]
        rw [(prefix_minus _).1]
    have hmem : ∀ c ∈ dbs D, dv c.toNat < r := by
      intro c hc
      obtain ⟨d, hd, rfl⟩ := dbs_mem hlt hc
      rw [dv_dch (by omega)]; exact hd
    have hus : (unsigned (strOf (txt n r v))).size = D.length := by rw [Lib.size_eq, hu, dbs_len]
    have hbs : (bare (strOf (txt n r v))).size = D.length := by rw [Lib.size_eq, hb, dbs_len]
    refine ⟨by omega, ?_, by omega, by rw [hb]; exact hmem, ?_⟩
    · unfold allD
      refine decide_eq_true ⟨by rw [hus]; exact List.length_pos_iff.2 hne, fun j h => ?_⟩
      have := mem_get _ j h
      rw [hu] at this
      exact hmem _ this
    · rw [hg, hb, dbs_val h36 D hlt, hval]
      rfl

/-- Texts are the same just where the numbers are. -/
theorem txt_same {n m : Bool} {r : Nat} {A B : List Nat} (h2 : 2 ≤ r) (h36 : r ≤ 36) (hA : val A < 2 ^ 4096) (hB : val B < 2 ^ 4096) : strOf (txt n r (val A)) = strOf (txt m r (val B)) ↔ num n A = num m B := by
  have k1 := (back_any n h2 h36 hA).back
  have k2 := (back_any m h2 h36 hB).back
  constructor
  · intro e
    rw [e, k2] at k1
    unfold num
    exact k1.symm
  · intro e
    unfold num at e
    cases n <;> cases m <;> simp at e
    · rw [show val A = val B by omega]
    · have : val A = 0 := by omega
      have h' : val B = 0 := by omega
      rw [this, h']; rfl
    · have : val A = 0 := by omega
      have h' : val B = 0 := by omega
      rw [this, h']; rfl
    · rw [show val A = val B by omega]
end Go.Proofs.YtldafoojkimdeaaDoor

namespace Go.Proofs.YtldafoojkimdeaaDoor
open Go.RowKit Lm

/-- The text of a number. -/
def tx (r : Nat) (v : Int) : ByteArray := strOf (txt (decide (v < 0)) r v.natAbs)
theorem tx_num (r : Nat) (n : Bool) (A : List Nat) : strOf (txt n r (val A)) = tx r (num n A) := by
  unfold tx num
  cases n
  · have h1 : decide ((val A : Int) < 0) = false := decide_eq_false (by omega)
    simp [h1]
  · by_cases h : val A = 0
    · rw [h]; simp [txt]
    · have h1 : decide (-(val A : Int) < 0) = true := decide_eq_true (by omega)
      have h2 : (-(val A : Int)).natAbs = val A := by omega
      rw [if_pos rfl, h1, h2]
theorem abs_sign (v : Int) : (if decide (v < 0) = true then -(v.natAbs : Int) else (v.natAbs : Int)) = v := by
  by_cases h : v < 0
  · rw [decide_eq_true h, if_pos rfl]; omega
  · rw [decide_eq_false h, if_neg (by decide)]; omega
theorem tx_same {r : Nat} {u v : Int} (h2 : 2 ≤ r) (h36 : r ≤ 36) (hu : Lt 4096 u) (hv : Lt 4096 v) : tx r u = tx r v ↔ u = v := by
  have k1 := (back_any (decide (u < 0)) h2 h36 hu).back
  have k2 := (back_any (decide (v < 0)) h2 h36 hv).back
  constructor
  · intro e
    unfold tx at e
    rw [e, k2] at k1
    rw [abs_sign, abs_sign] at k1; exact k1.symm
  · rintro rfl; rfl

theorem text_canon {na : Bool} {aa : Option Addr} {la ca : Nat} {A : List Nat} {v : Int} (r : Nat) (w : World) (hA : Rd w aa la ca A) (e : num na A = v) (h2 : 2 ≤ r) (h36 : r ≤ 36) (hv : Lt 4096 v) :
    Calls Tryd.prog 59 #[.agg #[.bool na, .slice aa la ca], .int .i64 (r : Int)] w fun e w' => e = .returned (.tuple #[.string (tx r v), .int .i64 0]) ∧ Below w.heap.size w w' := by
  have := text_good na aa la ca A r w hA h2 h36 ((hv.sm (Nat.le_refl _)).short e)
  rw [tx_num, e] at this
  exact this
theorem parse_canon (r : Nat) (v : Int) (w : World) (h2 : 2 ≤ r) (h36 : r ≤ 36) (hv : Lt 4096 v) :
    Calls Tryd.prog 57 #[.string (tx r v), .int .i64 (r : Int)] w fun e w' => ∃ n' ao' len' C, e = .returned (.tuple #[.agg #[.bool n', .slice ao' len' len'], .int .i64 0]) ∧ Rd w' ao' len' len' C ∧ num n' C = v ∧ Below w.heap.size w w' := by
  have k := back_any (decide (v < 0)) h2 h36 hv
  refine (parse_good (tx r v) r w h2 h36 (Nat.le_trans k.us (by decide)) k.all k.bs k.bd).mono ?_
  rintro e w' ⟨n', ao', len', c, rfl, hf, hb⟩
  have e2 : sval (signed (tx r v)) (dval r (bare (tx r v)).data.toList) = v := k.back.trans (abs_sign v)
  rw [e2] at hf
  obtain ⟨rfl, C, h1, h3⟩ := hf.read (hv.sm (Nat.le_refl _))
  exact ⟨n', ao', len', C, rfl, h1, h3, hb⟩

theorem Grow.le {B : Nat} {w : World} {v : Value} {L : List Nat} (h : Grow B w v L) : ∀ k, v.ownBlock = some k → B ≤ k := by
  intro k hk
  rcases h.2 with ⟨rfl, _⟩ | ⟨g, cap, cur, rfl, hb, _⟩
  · simp [Value.ownBlock] at hk
  · simp [Value.ownBlock] at hk; omega

/-- So many limbs appended to an empty slice of the call's own, at a step of a region that draws its order. -/
theorem step_app0 {w : World} {ops : Array Oper} {o : Oper} {a : Act} {K : Act → World → Prop} {Q : Exit → Act → World → Prop} {E : Prop} (hgd : o.guard = none) (s x : Operand)
    (ho : o.op = .call { callee := .builtin .append, args := #[s, x], argTypes := #[22, 22] }) (B : Nat) (ao0 : Option Addr) (hs : a.eval s = .slice ao0 0 0) (hG : Grow B w (.slice ao0 0 0) []) (hB : B ≤ w.heap.size)
    (aa : Option Addr) (la ca : Nat) (A : List Nat) (hx : a.eval x = .slice aa la ca) (hA : Rd w aa la ca A) (hl : la ≤ 1000)
    (h : ∀ v' w', Grow B w' v' A → w.grownBy w' (Value.slice ao0 0 0).ownBlock → K (a.put o.dst v') w') :
    if Region.wanted o (yielded ops a.tmps) = true then Oper.wp Tryd.prog o a w K Q else E := by
  by_cases h0 : la = 0
  · subst h0
    have hA0 : A = [] := List.eq_nil_of_length_eq_zero hA.size
    subst hA0
    exact step_append_zero hgd s x ho ao0 aa ca hs hx (h _ _ hG ⟨rfl, rfl, rfl, Nat.le_refl _, fun _ _ _ => rfl⟩)
  · obtain ⟨i0, hi, hz0, hz1, hz2⟩ := info_parts Tryd.info43
    obtain ⟨g, off, rfl, hc⟩ := hA.cells (by omega)
    have hsz := hA.size
    have hn := lims_news hc la (Nat.le_refl _) hsz
    rw [List.take_of_length_le (by omega)] at hn
    refine step_append_lies w hgd s x 22 ho B 43 i0 _ 1 4 Tryd.underlying22 hi hz0 hz1 hz2 rfl (by omega) _ 0 [] hs hG ⟨g, off, none⟩ la ca (lims A) hx (by rw [lims_len]; omega) hn (lims_one _)
      (by omega) (by unfold maxLen; omega) (by omega) hB w.heap.size rfl ?_
    intro gg cap w1 hown hgrow _ _
    refine h _ _ ?_ hgrow
    unfold Grow
    rw [List.nil_append] at hown
    rw [hsz]
    simp only [Nat.zero_add] at hown ⊢
    exact hown

/-- Two noughts appended. -/
theorem step_app2 {w : World} {ops : Array Oper} {o : Oper} {a : Act} {K : Act → World → Prop} {Q : Exit → Act → World → Prop} {E : Prop} (hgd : o.guard = none) (s x : Operand)
    (ho : o.op = .call { callee := .builtin .append, args := #[s, x], argTypes := #[22, 22] }) (B : Nat) (v : Value) (L : List Nat) (hs : a.eval s = v) (hG : Grow B w v L) (hB : B ≤ w.heap.size) (hl : L.length ≤ 1000)
    (b2 : Nat) (hz : w.heap[b2]? = some (.cells #[.int .u32 0, .int .u32 0] 43 (0, 0))) (hx : a.eval x = .slice (some ⟨b2, 0, none⟩) 2 2)
    (h : ∀ v' w', Grow B w' v' (L ++ [0, 0]) → w.grownBy w' v.ownBlock → K (a.put o.dst v') w') :
    if Region.wanted o (yielded ops a.tmps) = true then Oper.wp Tryd.prog o a w K Q else E := by
  obtain ⟨i0, hi, hz0, hz1, hz2⟩ := info_parts Tryd.info43
  refine step_append_lies w hgd s x 22 ho B 43 i0 _ 1 4 Tryd.underlying22 hi hz0 hz1 hz2 rfl (by omega) v L.length (lims L) hs hG ⟨b2, 0, none⟩ 2 2 (lims [0, 0]) hx (by rw [lims_len]; rfl) (World.news_of_block hz) (lims_one _)
      (by omega) (by unfold maxLen; omega) (by omega) hB w.heap.size rfl ?_
  intro gg cap w1 hown hgrow _ _
  refine h _ _ ?_ hgrow
  unfold Grow
  have e : lims L ++ lims [0, 0] = lims (L ++ [0, 0]) := by unfold lims; rw [List.map_append]
  rw [e] at hown
  rw [List.length_append]
  exact hown
theorem val_noughts (A : List Nat) : val (A ++ [0, 0]) = val A := by
  rw [val_append]; simp [val]
end Go.Proofs.YtldafoojkimdeaaDoor

namespace Go.Proofs.YtldafoojkimdeaaDoor
open Go.RowKit Lm

/-- The slice of that address, length and capacity reads as these ints. -/
structure Ri (w : World) (ao : Option Addr) (len cap : Nat) (A : List Nat) : Prop where
  size : A.length = len
  room : len ≤ cap
  most : len ≤ 4294967296
  cells : 0 < len → ∃ b off, ao = some ⟨b, off, none⟩ ∧ ∀ i, i < len → w.cell? ⟨b, off + i, none⟩ = some (.int .i64 (dg A i : Int))

theorem Ri.keep {w w' : World} {ao : Option Addr} {len cap : Nat} {A : List Nat} (h : Ri w ao len cap A) (hb : Below w.heap.size w w') : Ri w' ao len cap A :=
  ⟨h.size, h.room, h.most, fun h0 => by
    obtain ⟨b, off, e, hc⟩ := h.cells h0
    exact ⟨b, off, e, fun i hi => (hb.cell (World.block_lt_of_cell? w _ (hc i hi))).trans (hc i hi)⟩⟩
theorem Ri.alloc {w : World} {ao : Option Addr} {len cap : Nat} {A : List Nat} (h : Ri w ao len cap A) (o : Obj) : Ri (w.alloc o) ao len cap A :=
  h.keep ((Below.refl _ _).alloc (Nat.le_refl _) _)
theorem Ri.drew {w : World} {ao : Option Addr} {len cap : Nat} {A : List Nat} (h : Ri w ao len cap A) : Ri w.drew ao len cap A := h.keep (Below.refl _ _).drew
theorem Ri.drewN {w : World} {ao : Option Addr} {len cap : Nat} {A : List Nat} (h : Ri w ao len cap A) (n : Nat) : Ri (w.drewN n) ao len cap A := h.keep (bdrew (Below.refl _ _) n)
theorem Ri.nil (w : World) : Ri w none 0 0 [] := ⟨rfl, Nat.le_refl _, by omega, fun h => by omega⟩
theorem Ri.take {w : World} {ao : Option Addr} {len cap : Nat} {A : List Nat} (h : Ri w ao len cap A) {n : Nat} (hn : n ≤ len) : Ri w ao n cap (A.take n) :=
  ⟨by rw [List.length_take, h.size]; omega, by have := h.room; omega, by have := h.most; omega, fun h0 => by
    obtain ⟨b, off, e, hc⟩ := h.cells (by omega)
    exact ⟨b, off, e, fun i hi => by rw [dg_take _ _ _ hi]; exact hc i (by omega)⟩⟩
theorem Ri.tl {w : World} {ao : Option Addr} {len cap : Nat} {A : List Nat} (h : Ri w ao len cap A) : Ri w ao (tl A).length cap (tl A) := by
  have := h.take (n := (Lm.tl A).length) (by rw [← h.size]; exact tl_length_le _)
  rwa [← tl_take] at this

def ints (L : List Nat) : List Value := L.map fun x : Nat => Value.int .i64 (x : Int)
theorem ints_len (L : List Nat) : (ints L).length = L.length := by simp [ints]
theorem ints_get (L : List Nat) (i : Nat) (h : i < L.length) : (ints L)[i]? = some (.int .i64 (dg L i : Int)) := by
  unfold ints dg; rw [getD_in _ _ h]; simp [h]
theorem ints_set (L : List Nat) (i : Nat) {z : Int} (x : Nat) (hz : z = (x : Int)) : (ints L).set i (.int .i64 z) = ints (L.set i x) := by
  subst hz; unfold ints; rw [List.map_set]
theorem ints_snoc (L : List Nat) {z : Int} (x : Nat) (hz : z = (x : Int)) : ints L ++ [.int .i64 z] = ints (L ++ [x]) := by subst hz; simp [ints]

theorem Tryd.infoI : (Tryd.prog.info? 3).map (fun i => (i.zero, i.size, i.bytes)) = some (some (.int .i64 0), 1, 8) := by kernel_rfl

/-- A slice of ints of the call's own that may grow. -/
def Gri (B : Nat) (w : World) (v : Value) (L : List Nat) : Prop := w.ownsRow B 3 1 v L.length (ints L)
theorem Gri.nil (B : Nat) (w : World) : Gri B w (.slice none 0 0) [] := World.ownsRow_nil _ _ _ _
theorem Gri.alloc {B : Nat} {w : World} {v : Value} {L : List Nat} (h : Gri B w v L) (o : Obj) : Gri B (w.alloc o) v L := World.ownsRow.alloc h o
theorem Gri.le {B : Nat} {w : World} {v : Value} {L : List Nat} (h : Gri B w v L) : ∀ k, v.ownBlock = some k → B ≤ k := by
  intro k hk
  rcases h.2 with ⟨rfl, _⟩ | ⟨g, cap, cur, rfl, hb, _⟩
  · simp [Value.ownBlock] at hk
  · simp [Value.ownBlock] at hk; omega
theorem Gri.keep {B : Nat} {w w' : World} {v : Value} {L : List Nat} (h : Gri B w v L) (hb : Below w.heap.size w w') : Gri B w' v L :=
  World.ownsRow.kept h (row := none) ⟨hb.os, hb.tape, hb.output, hb.size, fun k hk _ => hb.block k hk⟩ (by cases v.ownBlock <;> simp)
theorem Gri.base {B B' : Nat} {w : World} {v : Value} {L : List Nat} (h : Gri B w v L) (hb : B' ≤ B) : Gri B' w v L :=
  ⟨h.1, h.2.imp id fun ⟨g, cap, cur, e, hg, r⟩ => ⟨g, cap, cur, e, Nat.le_trans hb hg, r⟩⟩
theorem Gri.rd {B : Nat} {w : World} {v : Value} {L : List Nat} (h : Gri B w v L) (hl : L.length ≤ 4294967296) : ∃ ao cap, v = .slice ao L.length cap ∧ Ri w ao L.length cap L := by
  have hc := h
  rcases h.2 with ⟨rfl, h0⟩ | ⟨g, cap, cur, rfl, hb, hg, hnc, hcm, hcs, htk⟩
  · have : L = [] := List.eq_nil_of_length_eq_zero h0
    subst this
    exact ⟨none, 0, rfl, rfl, Nat.le_refl _, by simp, fun h => by simp at h⟩
  · refine ⟨_, cap, rfl, rfl, hnc, hl, fun _ => ⟨g, 0, rfl, fun i hi => ?_⟩⟩
    rw [Nat.zero_add, hc.cellAt i (by omega), ints_get L i hi]
theorem Gri.slen {B : Nat} {w : World} {v : Value} {L : List Nat} (h : Gri B w v L) : slen v = L.length := by
  rcases h.2 with ⟨rfl, hn⟩ | ⟨g', cap, cur, rfl, -⟩
  · exact hn.symm
  · rfl

/-! ### A block of ints, known whole -/
structure Rwi (w : World) (g : Nat) (L : List Nat) : Prop where
  block : w.heap[g]? = some (.cells (ints L).toArray 3 (0, 0))
theorem Rwi.lt {w : World} {g : Nat} {L : List Nat} (h : Rwi w g L) : g < w.heap.size := lt_of_block h.block
theorem Rwi.cell {w : World} {g : Nat} {L : List Nat} (h : Rwi w g L) (i : Nat) (hi : i < L.length) : w.cell? ⟨g, i, none⟩ = some (.int .i64 (dg L i : Int)) := by
  have e := ints_get L i hi
  simp [World.cell?, h.block, e]
theorem Rwi.free {w : World} {g : Nat} {L : List Nat} (h : Rwi w g L) (i : Nat) : w.frozen? ⟨g, i, none⟩ = false := by simp [World.frozen?, h.block]
theorem Rwi.set' {w : World} {g : Nat} {L : List Nat} (h : Rwi w g L) (i : Nat) {z : Int} (x : Nat) (hz : z = (x : Int)) : Rwi (w.setCell ⟨g, i, none⟩ (.int .i64 z)) g (L.set i x) := by
  refine ⟨?_⟩
  rw [heap_setCell_same w g i (ints L).toArray 3 _ h.block]
  have := ints_set L i x hz
  simp [← this]
theorem Rwi.keep {w w' : World} {g B : Nat} {L : List Nat} (h : Rwi w g L) (hb : Below B w w') (hg : g < B) : Rwi w' g L := ⟨by rw [hb.block g hg]; exact h.block⟩
theorem Rwi.keep' {w w' : World} {g : Nat} {L : List Nat} (h : Rwi w g L) (hb : Below w.heap.size w w') : Rwi w' g L := h.keep hb h.lt
theorem Rwi.alloc {w : World} {g : Nat} {L : List Nat} (h : Rwi w g L) (o : Obj) : Rwi (w.alloc o) g L := h.keep' ((Below.refl _ _).alloc (Nat.le_refl _) _)
theorem Rwi.drew {w : World} {g : Nat} {L : List Nat} (h : Rwi w g L) : Rwi w.drew g L := h.keep' (Below.refl _ _).drew
theorem Rwi.drewN {w : World} {g : Nat} {L : List Nat} (h : Rwi w g L) (n : Nat) : Rwi (w.drewN n) g L := h.keep' (bdrew (Below.refl _ _) n)
theorem Rwi.other {w : World} {g : Nat} {L : List Nat} (h : Rwi w g L) {p : Addr} (hp : g ≠ p.block) (u : Value) : Rwi (w.setCell p u) g L := ⟨by rw [Below.heap_setCell _ _ _ _ hp]; exact h.block⟩
theorem Rwi.rd {w : World} {g : Nat} {L : List Nat} (h : Rwi w g L) (off n cap : Nat) (hn : off + n ≤ L.length) (hc : n ≤ cap) (hm : n ≤ 4294967296) :
    Ri w (some ⟨g, off, none⟩) n cap ((L.drop off).take n) :=
  ⟨by rw [List.length_take, List.length_drop]; omega, hc, hm, fun _ => ⟨g, off, rfl, fun i hi => by
    rw [dg_take _ _ _ hi, dg_drop]; exact h.cell _ (by omega)⟩⟩
theorem Rwi.whole {w : World} {g : Nat} {L : List Nat} (h : Rwi w g L) (cap : Nat) (hc : L.length ≤ cap) (hm : L.length ≤ 4294967296) : Ri w (some ⟨g, 0, none⟩) L.length cap L := by
  have := h.rd 0 L.length cap (by omega) hc hm
  rwa [List.drop_zero, List.take_length] at this
theorem Rwi.of_own {w : World} {base g n : Nat} {L : List Nat} {xs : List Value} (h : w.ownsRow base 3 1 (.slice (some ⟨g, 0, none⟩) n n) n xs) (hx : xs = ints L) : Rwi w g L := by
  rcases h.2 with ⟨h', _⟩ | ⟨g', cap', cur, h', hb, hg, hnc, hcm, hcs, htake⟩
  · simp at h'
  · simp only [Value.slice.injEq, Option.some.injEq, Addr.mk.injEq, and_true, true_and] at h'
    obtain ⟨rfl, rfl⟩ := h'
    refine ⟨?_⟩
    rw [hg]
    have e : cur = (ints L).toArray := by
      rw [← hx, ← htake, List.take_of_length_le (by rw [Array.length_toList, hcs]; exact Nat.le_refl _)]
    rw [e]
theorem made_zeros_i (n m : Nat) (h : m = n) : (madeCells (Value.int .i64 0).cells m).toList = ints (List.replicate n 0) := by
  rw [h, show (Value.int .i64 0).cells = #[Value.int .i64 0] from rfl, toList_madeCells_one]
  simp [ints]

/-! ### Integers as the document's answer has them -/
/-- A sign and bits that stand for a number, normal. -/
def Big (w : World) (n : Bool) (ao : Option Addr) (len cap : Nat) (v : Int) : Prop := ∃ L, Ri w ao len cap L ∧ B1 L ∧ Top L ∧ (L = [] → n = false) ∧ sg n L = v
theorem Big.keep {w w' : World} {n : Bool} {ao : Option Addr} {len cap : Nat} {v : Int} (h : Big w n ao len cap v) (hb : Below w.heap.size w w') : Big w' n ao len cap v := by
  obtain ⟨L, h1, h2⟩ := h; exact ⟨L, h1.keep hb, h2⟩
theorem Big.alloc {w : World} {n : Bool} {ao : Option Addr} {len cap : Nat} {v : Int} (h : Big w n ao len cap v) (o : Obj) : Big (w.alloc o) n ao len cap v := h.keep ((Below.refl _ _).alloc (Nat.le_refl _) _)
theorem Big.drew {w : World} {n : Bool} {ao : Option Addr} {len cap : Nat} {v : Int} (h : Big w n ao len cap v) : Big w.drew n ao len cap v := h.keep (Below.refl _ _).drew
theorem Big.len {w : World} {n : Bool} {ao : Option Addr} {len cap : Nat} {v : Int} (h : Big w n ao len cap v) : len = bl v.natAbs := by
  obtain ⟨L, h1, h2, h3, _, h4⟩ := h
  rw [← h1.size, btop_len h2 h3, ← h4, sg_abs]
theorem Big.sign {w : World} {n : Bool} {ao : Option Addr} {len cap : Nat} {v : Int} (h : Big w n ao len cap v) : n = decide (v < 0) := by
  obtain ⟨L, h1, h2, h3, h5, h4⟩ := h
  subst h4
  cases n with
  | false => unfold sg; simp
  | true =>
    have hl : L ≠ [] := fun e => by have := h5 e; cases this
    have := btop_ge h3 hl
    have := Nat.pow_pos (n := L.length - 1) (show 0 < 2 by decide)
    unfold sg; simp; omega
theorem Big.zero (w : World) : Big w false none 0 0 0 := ⟨[], Ri.nil w, B1.nil, fun h => absurd rfl h, fun _ => rfl, rfl⟩
/-- What 'laid' makes. -/
theorem Big.of {w : World} {n : Bool} {ao : Option Addr} {len cap : Nat} {L : List Nat} (h : Ri w ao len cap L) (hb : B1 L) : Big w (n && decide (0 < (tl L).length)) ao (tl L).length cap (sg n L) :=
  ⟨tl L, h.tl, hb.tl, tl_top L, fun e => by rw [e]; simp, by
    rw [← sg_tl n L]
    by_cases h0 : tl L = []
    · rw [h0, sg_nil, sg_nil]
    · have := List.length_pos_iff.2 h0
      simp [this]⟩
end Go.Proofs.YtldafoojkimdeaaDoor

namespace Go.Proofs.YtldafoojkimdeaaDoor
open Go.RowKit Lm

abbrev EE : Obj := .cells #[] 43
abbrev ZZ : Obj := .cells #[.int .u32 0, .int .u32 0] 43
theorem Grow.base {B B' : Nat} {w : World} {v : Value} {L : List Nat} (h : Grow B w v L) (hb : B' ≤ B) : Grow B' w v L :=
  ⟨h.1, h.2.imp id fun ⟨g, cap, cur, e, hg, r⟩ => ⟨g, cap, cur, e, Nat.le_trans hb hg, r⟩⟩
theorem Grow.alloc {B : Nat} {w : World} {v : Value} {L : List Nat} (h : Grow B w v L) (o : Obj) : Grow B (w.alloc o) v L := World.ownsRow.alloc h o
theorem made_alloc (w : World) : Grow w.heap.size ((w.alloc EE).alloc ZZ).drew (.slice (some ⟨w.heap.size, 0, none⟩) 0 0) [] :=
  World.ownsRow.drew (World.ownsRow.alloc (World.ownsRow_made (base := w.heap.size) (e := 43) (size := 1) w #[] 0 (by simp) (by unfold maxLen; omega) rfl) ZZ)
theorem alloc_made (w : World) : Grow w.heap.size ((w.alloc ZZ).alloc EE).drew (.slice (some ⟨w.heap.size + 1, 0, none⟩) 0 0) [] := by
  have h := Grow.base (L := []) (B' := w.heap.size) (few_made (w.alloc ZZ)) (by simp)
  rw [show (w.alloc ZZ).heap.size = w.heap.size + 1 by simp] at h
  exact h
theorem grown_far {w w' : World} {row : Option Nat} (h : w.grownBy w' row) {k : Nat} {o : Obj} (hk : w.heap[k]? = some o) (hr : some k ≠ row) : w'.heap[k]? = some o := by
  rw [← hk]
  exact h.block k (lt_of_block hk) hr
/-- A box whose number has so many limbs at most. -/
def BxL (m : Nat) (w : World) (g : Nat) (v : Int) : Prop := ∃ n ao len cap A, w.heap[g]? = some (.cells #[.bool n, .slice ao len cap] 24 (0, 0)) ∧ Rd w ao len cap A ∧ num n A = v ∧ len ≤ m
theorem BxL.bx {m : Nat} {w : World} {g : Nat} {v : Int} (h : BxL m w g v) : Bx w g v := by
  obtain ⟨n, ao, len, cap, A, h1, h2, h3, _⟩ := h
  exact ⟨n, ao, len, cap, A, h1, h2, h3⟩
theorem BxL.lt {m : Nat} {w : World} {g : Nat} {v : Int} (h : BxL m w g v) : g < w.heap.size := h.bx.lt
theorem BxL.keep {m : Nat} {w w' : World} {g : Nat} {v : Int} (h : BxL m w g v) (hb : Below w.heap.size w w') : BxL m w' g v := by
  obtain ⟨n, ao, len, cap, A, h1, h2, h3, h4⟩ := h
  exact ⟨n, ao, len, cap, A, heap_keep h1 hb, h2.keep hb, h3, h4⟩
theorem BxL.alloc {m : Nat} {w : World} {g : Nat} {v : Int} (h : BxL m w g v) (o : Obj) : BxL m (w.alloc o) g v := h.keep ((Below.refl _ _).alloc (Nat.le_refl _) _)
theorem BxL.put_other {m : Nat} {w : World} {g b : Nat} {v u : Int} (h : BxL m w g v) (hb : Bx w b u) (hg : g ≠ b) (x' y' : Value) : BxL m ((w.setCell ⟨b, 0, none⟩ x').setCell ⟨b, 1, none⟩ y') g v := by
  obtain ⟨n, ao, len, cap, A, h1, h2, h3, h4⟩ := h
  exact ⟨n, ao, len, cap, A, heap_set (heap_set h1 hg) hg, hb.read_put h2 _ _, h3, h4⟩
theorem Bx.putL {m : Nat} {w : World} {b : Nat} {u : Int} (hb : Bx w b u) {n : Bool} {ao : Option Addr} {len cap : Nat} {A : List Nat} {v : Int} (h : Rd w ao len cap A) (e : num n A = v) (hl : len ≤ m) :
    BxL m ((w.setCell ⟨b, 0, none⟩ (.bool n)).setCell ⟨b, 1, none⟩ (.slice ao len cap)) b v := by
  have h0 := hb.read_put h (.bool n) (.slice ao len cap)
  obtain ⟨n', ao', len', cap', A', k1, _⟩ := hb
  exact ⟨n, ao, len, cap, A, set_pair k1 _ _, h0, e, hl⟩

theorem eq_same {r : Nat} {S8 S10 : ByteArray} {va vb : Int} (h2 : 2 ≤ r) (h36 : r ≤ 36) (la : Lt 4096 va) (lb : Lt 4096 vb) (s8 : Hid (tx r va = S8)) (s10 : Hid (tx r vb = S10)) : ((S8.toList == S10.toList) == ((va - vb).sign == 0)) = true := by
  have k := tx_same h2 h36 la lb
  rw [s8.out, s10.out] at k
  by_cases e : va = vb
  · have e2 := k.2 e
    rw [e2, e, Int.sub_self]
    simp
  · have e2 : S8.toList ≠ S10.toList := fun h => e (k.1 (by
      rw [ByteArray.toList_eq, ByteArray.toList_eq] at h
      exact ByteArray.ext (Array.ext' h)))
    have e3 : (va - vb).sign ≠ 0 := by
      intro h
      exact e (by have := Int.sign_eq_zero_iff_zero.1 h; omega)
    rw [beq_eq_false_iff_ne.2 e2, beq_eq_false_iff_ne.2 e3]
    rfl

theorem len_noughts (A : List Nat) : (A ++ [0, 0]).length = A.length + 2 := by simp
noncomputable def tail12 (n : Nat) : Code := seqDrop n (Tryd.f12.body.getD .skip)
noncomputable def head12 (n : Nat) : Code := seqHead (tail12 n)
noncomputable def Q12 (w : World) : Exit → Act → World → Prop := bodyPost Tryd.prog Tryd.f12 fun e w' => e = .returned (.bool true) ∧ Below w.heap.size w w'

set_option maxRecDepth 100000 in
set_option maxHeartbeats 2000000 in
theorem RD_10 {r : Nat} {S8 S10 : ByteArray} {w wr : World} {g3 g4 g14 : Nat} {u0 u1 u5 u6 u16 u17 u18 u19 u20 u21 u22 u23 u24 u25 u26 u27 u28 u29 u30 u31 u32 u33 u34 u35 u36 u37 u38 u39 u40 u41 u42 u43 u44 u45 u46 u47 u48 u49 u50 u51 u52 u53 u54 u55 u56 u57 u58 u59 u60 u61 u62 u63 u64 u65 u66 u67 u68 u69 u70 u71 u72 u73 u74 u75 u76 u77 u78 u79 u80 u81 u82 u83 u84 u85 u86 u87 u88 u89 u90 u91 u92 u93 u94 u95 u96 u97 u98 : Value} {va vb : Int}
    (h2 : 2 ≤ r) (h36 : r ≤ 36) (la : Lt 4096 va) (lb : Lt 4096 vb) (s8 : Hid (tx r va = S8)) (s10 : Hid (tx r vb = S10))
    (hb : Below w.heap.size w wr) (_h0 : w.heap.size ≤ g3)
    (_o4 : g3 < g4) (_o14 : g4 < g14)
    (b3 : BxL 128 wr g3 (va)) (b4 : Bx wr g4 (vb)) (b14 : Bx wr g14 (va)) :
    Code.wp Tryd.prog (tail12 10) (Q12 w) ⟨#[u0, u1, .int .i64 (r : Int), .pointer (some ⟨g3, 0, none⟩), .pointer (some ⟨g4, 0, none⟩), u5, u6, .bool true, .string S8, .int .i64 0, .string S10, .int .i64 0, .string S8, .int .i64 0, .pointer (some ⟨g14, 0, none⟩), .int .i64 0, u16, u17, u18, u19, u20, u21, u22, u23, u24, u25, u26, u27, u28, u29, u30, u31, u32, u33, u34, u35, u36, u37, u38, u39, u40, u41, u42, u43, u44, u45, u46, u47, u48, u49, u50, u51, u52, u53, u54, u55, u56, u57, u58, u59, u60, u61, u62, u63, u64, u65, u66, u67, u68, u69, u70, u71, u72, u73, u74, u75, u76, u77, u78, u79, u80, u81, u82, u83, u84, u85, u86, u87, u88, u89, u90, u91, u92, u93, u94, u95, u96, u97, u98], []⟩ wr := by
  have b3' := b3
  obtain ⟨nA, aA, lA, cA, A, hHA, hRA, hEA, hLA⟩ := b3'
  obtain ⟨kA0, kA1, _, _⟩ := two_cells hHA
  have HEA := hid hEA
  have HHA := hid hHA
  clear hEA hHA
  have b4' := b4
  obtain ⟨nB, aB, lB, cB, B, hHB, hRB, hEB⟩ := b4'
  obtain ⟨kB0, kB1, _, _⟩ := two_cells hHB
  have HEB := hid hEB
  have HHB := hid hHB
  clear hEB hHB
  have b14' := b14
  obtain ⟨nX, aX, lX, cX, X, hHX, hRX, hEX⟩ := b14'
  obtain ⟨kX0, kX1, _, _⟩ := two_cells hHX
  have HEX := hid hEX
  have HHX := hid hHX
  clear hEX hHX
  conv => arg 2; whnf
  go_wp2_with fail
  refine (cmp_any nX aX lX cX X nA aA lA cA A _ hRX hRA).mono ?_
  rintro e w2 ⟨rfl, hb2⟩
  rw [HEX.out, HEA.out, Int.sub_self]
  obtain ⟨qA0, qA1, _, _⟩ := two_cells (heap_keep HHA.out hb2)
  obtain ⟨qB0, qB1, _, _⟩ := two_cells (heap_keep HHB.out hb2)
  go_wp2_with fail
  refine (cmp_any nA aA lA cA A nB aB lB cB B _ (hRA.keep hb2) (hRB.keep hb2)).mono ?_
  rintro e w3 ⟨rfl, hb3⟩
  rw [HEA.out, HEB.out]
  have hd := eq_same h2 h36 la lb s8 s10
  go_wp2
  unfold Q12
  go_ret
  exact ⟨rfl, (hb.trans (hb2.mono hb.size)).trans (hb3.mono (hb.trans (hb2.mono hb.size)).size)⟩

set_option maxRecDepth 100000 in
set_option maxHeartbeats 2000000 in
theorem RD_9 {r : Nat} {S8 S10 : ByteArray} {w wr : World} {g3 g4 : Nat} {u0 u1 u5 u6 u14 u15 u16 u17 u18 u19 u20 u21 u22 u23 u24 u25 u26 u27 u28 u29 u30 u31 u32 u33 u34 u35 u36 u37 u38 u39 u40 u41 u42 u43 u44 u45 u46 u47 u48 u49 u50 u51 u52 u53 u54 u55 u56 u57 u58 u59 u60 u61 u62 u63 u64 u65 u66 u67 u68 u69 u70 u71 u72 u73 u74 u75 u76 u77 u78 u79 u80 u81 u82 u83 u84 u85 u86 u87 u88 u89 u90 u91 u92 u93 u94 u95 u96 u97 u98 : Value} {va vb : Int}
    (h2 : 2 ≤ r) (h36 : r ≤ 36) (la : Lt 4096 va) (lb : Lt 4096 vb) (s8 : Hid (tx r va = S8)) (s10 : Hid (tx r vb = S10))
    (hb : Below w.heap.size w wr) (h0 : w.heap.size ≤ g3)
    (o4 : g3 < g4)
    (b3 : BxL 128 wr g3 (va)) (b4 : Bx wr g4 (vb)) :
    Code.wp Tryd.prog (tail12 9) (Q12 w) ⟨#[u0, u1, .int .i64 (r : Int), .pointer (some ⟨g3, 0, none⟩), .pointer (some ⟨g4, 0, none⟩), u5, u6, .bool true, .string S8, .int .i64 0, .string S10, .int .i64 0, .string S8, .int .i64 0, u14, u15, u16, u17, u18, u19, u20, u21, u22, u23, u24, u25, u26, u27, u28, u29, u30, u31, u32, u33, u34, u35, u36, u37, u38, u39, u40, u41, u42, u43, u44, u45, u46, u47, u48, u49, u50, u51, u52, u53, u54, u55, u56, u57, u58, u59, u60, u61, u62, u63, u64, u65, u66, u67, u68, u69, u70, u71, u72, u73, u74, u75, u76, u77, u78, u79, u80, u81, u82, u83, u84, u85, u86, u87, u88, u89, u90, u91, u92, u93, u94, u95, u96, u97, u98], []⟩ wr := by
  show Code.wp Tryd.prog (Code.seq (head12 9) (tail12 10)) _ _ _
  conv => arg 2; arg 1; whnf
  go_wp2_with fail
  have hp := parse_canon r va wr h2 h36 la
  rw [s8.out] at hp
  refine hp.mono ?_
  rintro e w2 ⟨n2, ao2, len2, C2, rfl, hR2, hE2, hb2⟩
  have HE2 := hid hE2
  clear hE2
  go_wp2
  have hlast : g4 < w2.heap.size := (b4.keep hb2).lt
  have hb3 := hb.trans (hb2.mono hb.size)
  exact RD_10 h2 h36 la lb s8 s10 (hb3.alloc hb3.size _) h0 o4 hlast ((b3.keep hb2).alloc _) ((b4.keep hb2).alloc _) (Bx.new hR2 HE2.out)

set_option maxRecDepth 100000 in
set_option maxHeartbeats 2000000 in
theorem RD_8 {r : Nat} {S8 S10 : ByteArray} {w wr : World} {g3 g4 : Nat} {u0 u1 u5 u6 u12 u13 u14 u15 u16 u17 u18 u19 u20 u21 u22 u23 u24 u25 u26 u27 u28 u29 u30 u31 u32 u33 u34 u35 u36 u37 u38 u39 u40 u41 u42 u43 u44 u45 u46 u47 u48 u49 u50 u51 u52 u53 u54 u55 u56 u57 u58 u59 u60 u61 u62 u63 u64 u65 u66 u67 u68 u69 u70 u71 u72 u73 u74 u75 u76 u77 u78 u79 u80 u81 u82 u83 u84 u85 u86 u87 u88 u89 u90 u91 u92 u93 u94 u95 u96 u97 u98 : Value} {va vb : Int}
    (h2 : 2 ≤ r) (h36 : r ≤ 36) (la : Lt 4096 va) (lb : Lt 4096 vb) (s8 : Hid (tx r va = S8)) (s10 : Hid (tx r vb = S10))
    (hb : Below w.heap.size w wr) (h0 : w.heap.size ≤ g3)
    (o4 : g3 < g4)
    (b3 : BxL 128 wr g3 (va)) (b4 : Bx wr g4 (vb)) :
    Code.wp Tryd.prog (tail12 8) (Q12 w) ⟨#[u0, u1, .int .i64 (r : Int), .pointer (some ⟨g3, 0, none⟩), .pointer (some ⟨g4, 0, none⟩), u5, u6, .bool true, .string S8, .int .i64 0, .string S10, .int .i64 0, u12, u13, u14, u15, u16, u17, u18, u19, u20, u21, u22, u23, u24, u25, u26, u27, u28, u29, u30, u31, u32, u33, u34, u35, u36, u37, u38, u39, u40, u41, u42, u43, u44, u45, u46, u47, u48, u49, u50, u51, u52, u53, u54, u55, u56, u57, u58, u59, u60, u61, u62, u63, u64, u65, u66, u67, u68, u69, u70, u71, u72, u73, u74, u75, u76, u77, u78, u79, u80, u81, u82, u83, u84, u85, u86, u87, u88, u89, u90, u91, u92, u93, u94, u95, u96, u97, u98], []⟩ wr := by
  have b3' := b3
  obtain ⟨nA, aA, lA, cA, A, hHA, hRA, hEA, hlA⟩ := b3'
  obtain ⟨kA0, kA1, _, _⟩ := two_cells hHA
  have HHA := hid hHA
  have HE3 : Hid (num nA (A ++ [0, 0]) = va) := hid (by rw [← hEA]; unfold num; rw [val_noughts])
  clear hEA hHA
  have hs := hb.size
  have hg3 := b3.lt
  have hsA := hRA.size
  have hAl : A.length ≤ 1000 := by omega
  have hla : lA ≤ 1000 := by omega
  have hok3 : Ok (A ++ [0, 0]) := hRA.ok.append (Ok.zeros 2)
  have hl3 : (A ++ [0, 0]).length ≤ 70368744177664 := by rw [List.length_append]; simp; omega
  clear hsA
  have hG1 := hid (few_made wr)
  have hG2 := hid (alloc_made wr)
  have hG3 := hid (made_alloc wr)
  have hR1 : Rd (wr.alloc EE).drew aA lA cA A := (hRA.alloc _).drew
  have hR2 : Rd ((wr.alloc ZZ).alloc EE).drew aA lA cA A := ((hRA.alloc _).alloc _).drew
  have hR3 : Rd ((wr.alloc EE).alloc ZZ).drew aA lA cA A := ((hRA.alloc _).alloc _).drew
  have Q1 : Hid ((wr.alloc EE).drew.heap[g3]? = some (.cells #[.bool nA, .slice aA lA cA] 24 (0, 0))) := hid (hpS EE HHA.out)
  have Q2 : Hid (((wr.alloc ZZ).alloc EE).drew.heap[g3]? = some (.cells #[.bool nA, .slice aA lA cA] 24 (0, 0))) := hid (hpS EE (hpS ZZ HHA.out))
  have Q3 : Hid (((wr.alloc EE).alloc ZZ).drew.heap[g3]? = some (.cells #[.bool nA, .slice aA lA cA] 24 (0, 0))) := hid (hpS ZZ (hpS EE HHA.out))
  have Z2 : Hid (((wr.alloc ZZ).alloc EE).drew.heap[wr.heap.size]? = some ZZ) := hid (hpS EE (heap_alloc_new wr ZZ))
  have Z3 : Hid (((wr.alloc EE).alloc ZZ).drew.heap[wr.heap.size + 1]? = some ZZ) := hid (heap_new2 wr EE ZZ)
  have hx1 : Below wr.heap.size wr (wr.alloc EE).drew := ((Below.refl _ _).alloc (Nat.le_refl _) _).drew
  have hx2 : Below wr.heap.size wr ((wr.alloc ZZ).alloc EE).drew := (((Below.refl _ _).alloc (Nat.le_refl _) _).alloc (by simp) _).drew
  have hx3 : Below wr.heap.size wr ((wr.alloc EE).alloc ZZ).drew := (((Below.refl _ _).alloc (Nat.le_refl _) _).alloc (by simp) _).drew
  show Code.wp Tryd.prog (Code.seq (head12 8) (tail12 9)) _ _ _
  conv => arg 2; arg 1; whnf
  go_wp2_with fail
  go_region_held3 (fun w' => w'.cell? ⟨g3, 0, none⟩ = some (.bool nA) ∧ w'.cell? ⟨g3, 1, none⟩ = some (.slice aA lA cA))
    (first
      | go_keep
      | (with_reducible exact ⟨(two_cells K.out).1, (two_cells K.out).2.1⟩)
      | (with_reducible exact ⟨(two_cells J.out).1, (two_cells J.out).2.1⟩)
      | (with_reducible exact ⟨(two_cells I.out).1, (two_cells I.out).2.1⟩))
    ((first
      | ( (refine step_app0 (w := (wr.alloc EE).drew) (by rfl) _ _ (by rfl) wr.heap.size (some ⟨wr.heap.size, 0, none⟩) (by rfl) hG1.out (by simp; try omega) aA lA cA A (by rfl) hR1 hla ?_); intro v2 w2 hGv hgr; have I := hid (grown_far hgr Q1.out (by simp [Value.ownBlock]; omega)); have hy2 := hx1.grown hgr (by simp; try omega) (fun k hk => by simp [Value.ownBlock] at hk; omega); have hz2 := hy2.size)
      | ( (refine step_app0 (w := ((wr.alloc ZZ).alloc EE).drew) (by rfl) _ _ (by rfl) wr.heap.size (some ⟨wr.heap.size + 1, 0, none⟩) (by rfl) hG2.out (by simp; try omega) aA lA cA A (by rfl) hR2 hla ?_); intro v2 w2 hGv hgr; have I := hid (grown_far hgr Q2.out (by simp [Value.ownBlock]; omega)); have hy2 := hx2.grown hgr (by simp; try omega) (fun k hk => by simp [Value.ownBlock] at hk; omega); have hz2 := hy2.size; have HZ := hid (grown_far hgr Z2.out (by simp [Value.ownBlock])))
      | ( (refine step_app0 (w := ((wr.alloc EE).alloc ZZ).drew) (by rfl) _ _ (by rfl) wr.heap.size (some ⟨wr.heap.size, 0, none⟩) (by rfl) hG3.out (by simp; try omega) aA lA cA A (by rfl) hR3 hla ?_); intro v2 w2 hGv hgr; have I := hid (grown_far hgr Q3.out (by simp [Value.ownBlock]; omega)); have hy2 := hx3.grown hgr (by simp; try omega) (fun k hk => by simp [Value.ownBlock] at hk; omega); have hz2 := hy2.size; have HZ := hid (grown_far hgr Z3.out (by simp [Value.ownBlock])))
      | ((refine step_app2 (w := w2) (by rfl) _ _ (by rfl) wr.heap.size v2 A (by rfl) hGv hz2 hAl _ HZ.out (by rfl) ?_); intro v3 w3 hGw hgs; have J := hid (grown_far hgs I.out (by intro e; have := hGv.le _ e.symm; omega)); have hy3 := hy2.grown hgs (by first | omega | (simp; omega)) hGv.le; obtain ⟨ao3, cap3, rfl, hRw⟩ := hGw.rd hok3 hl3; rw [len_noughts] at hRw)
      | ((refine step_app2 (w := w2.alloc ZZ) (by rfl) _ _ (by rfl) wr.heap.size v2 A (by rfl) (Grow.alloc hGv ZZ) (by simp; omega) hAl w2.heap.size (heap_alloc_new w2 ZZ) (by rfl) ?_); intro v3 w3 hGw hgs; have J := hid (grown_far hgs (hpS ZZ I.out) (by intro e; have := hGv.le _ e.symm; omega)); have hy3 := (hy2.alloc hz2 ZZ).grown hgs (by first | omega | (simp; omega)) hGv.le; obtain ⟨ao3, cap3, rfl, hRw⟩ := hGw.rd hok3 hl3; rw [len_noughts] at hRw)
      | (go_at_call 59; (with_reducible refine (text_canon r w3 hRw HE3.out h2 h36 la).mono ?_); rintro e w4 ⟨rfl, hb4⟩; rw [s8.out]; have K := hid (heap_keep J.out hb4); have hy4 := hy3.trans (hb4.mono hy3.size))))
  all_goals
    go_wp2
    have hy4' := hb.trans (hy4.mono hb.size)
    exact RD_9 h2 h36 la lb s8 s10 (hy4') h0 o4 (b3.keep hy4) (b4.keep hy4)

set_option maxRecDepth 100000 in
set_option maxHeartbeats 2000000 in
theorem RD_7 {r : Nat} {S8 : ByteArray} {w wr : World} {g3 g4 : Nat} {u0 u1 u5 u6 u10 u11 u12 u13 u14 u15 u16 u17 u18 u19 u20 u21 u22 u23 u24 u25 u26 u27 u28 u29 u30 u31 u32 u33 u34 u35 u36 u37 u38 u39 u40 u41 u42 u43 u44 u45 u46 u47 u48 u49 u50 u51 u52 u53 u54 u55 u56 u57 u58 u59 u60 u61 u62 u63 u64 u65 u66 u67 u68 u69 u70 u71 u72 u73 u74 u75 u76 u77 u78 u79 u80 u81 u82 u83 u84 u85 u86 u87 u88 u89 u90 u91 u92 u93 u94 u95 u96 u97 u98 : Value} {va vb : Int}
    (h2 : 2 ≤ r) (h36 : r ≤ 36) (la : Lt 4096 va) (lb : Lt 4096 vb) (s8 : Hid (tx r va = S8))
    (hb : Below w.heap.size w wr) (h0 : w.heap.size ≤ g3)
    (o4 : g3 < g4)
    (b3 : BxL 128 wr g3 (va)) (b4 : Bx wr g4 (vb)) :
    Code.wp Tryd.prog (tail12 7) (Q12 w) ⟨#[u0, u1, .int .i64 (r : Int), .pointer (some ⟨g3, 0, none⟩), .pointer (some ⟨g4, 0, none⟩), u5, u6, .bool true, .string S8, .int .i64 0, u10, u11, u12, u13, u14, u15, u16, u17, u18, u19, u20, u21, u22, u23, u24, u25, u26, u27, u28, u29, u30, u31, u32, u33, u34, u35, u36, u37, u38, u39, u40, u41, u42, u43, u44, u45, u46, u47, u48, u49, u50, u51, u52, u53, u54, u55, u56, u57, u58, u59, u60, u61, u62, u63, u64, u65, u66, u67, u68, u69, u70, u71, u72, u73, u74, u75, u76, u77, u78, u79, u80, u81, u82, u83, u84, u85, u86, u87, u88, u89, u90, u91, u92, u93, u94, u95, u96, u97, u98], []⟩ wr := by
  have b4' := b4
  obtain ⟨nA, aA, lA, cA, A, hHA, hRA, hEA⟩ := b4'
  obtain ⟨kA0, kA1, _, _⟩ := two_cells hHA
  have HEA := hid hEA
  clear hEA hHA
  show Code.wp Tryd.prog (Code.seq (head12 7) (tail12 8)) _ _ _
  conv => arg 2; arg 1; whnf
  go_wp2_with fail
  refine (text_canon r _ hRA HEA.out h2 h36 lb).mono ?_
  rintro e w2 ⟨rfl, hb2⟩
  generalize hS : tx r vb = S10
  have HS := hid hS
  clear hS
  go_wp2
  exact RD_8 h2 h36 la lb s8 HS (hb.trans (hb2.mono hb.size)) h0 o4 (b3.keep hb2) (b4.keep hb2)

set_option maxRecDepth 100000 in
set_option maxHeartbeats 2000000 in
theorem RD_6 {r : Nat} {w wr : World} {g3 g4 : Nat} {u0 u1 u5 u6 u8 u9 u10 u11 u12 u13 u14 u15 u16 u17 u18 u19 u20 u21 u22 u23 u24 u25 u26 u27 u28 u29 u30 u31 u32 u33 u34 u35 u36 u37 u38 u39 u40 u41 u42 u43 u44 u45 u46 u47 u48 u49 u50 u51 u52 u53 u54 u55 u56 u57 u58 u59 u60 u61 u62 u63 u64 u65 u66 u67 u68 u69 u70 u71 u72 u73 u74 u75 u76 u77 u78 u79 u80 u81 u82 u83 u84 u85 u86 u87 u88 u89 u90 u91 u92 u93 u94 u95 u96 u97 u98 : Value} {va vb : Int}
    (h2 : 2 ≤ r) (h36 : r ≤ 36) (la : Lt 4096 va) (lb : Lt 4096 vb)
    (hb : Below w.heap.size w wr) (h0 : w.heap.size ≤ g3)
    (o4 : g3 < g4)
    (b3 : BxL 128 wr g3 (va)) (b4 : Bx wr g4 (vb)) :
    Code.wp Tryd.prog (tail12 6) (Q12 w) ⟨#[u0, u1, .int .i64 (r : Int), .pointer (some ⟨g3, 0, none⟩), .pointer (some ⟨g4, 0, none⟩), u5, u6, .bool true, u8, u9, u10, u11, u12, u13, u14, u15, u16, u17, u18, u19, u20, u21, u22, u23, u24, u25, u26, u27, u28, u29, u30, u31, u32, u33, u34, u35, u36, u37, u38, u39, u40, u41, u42, u43, u44, u45, u46, u47, u48, u49, u50, u51, u52, u53, u54, u55, u56, u57, u58, u59, u60, u61, u62, u63, u64, u65, u66, u67, u68, u69, u70, u71, u72, u73, u74, u75, u76, u77, u78, u79, u80, u81, u82, u83, u84, u85, u86, u87, u88, u89, u90, u91, u92, u93, u94, u95, u96, u97, u98], []⟩ wr := by
  have b3' := b3
  obtain ⟨nA, aA, lA, cA, A, hHA, hRA, hEA, hLA⟩ := b3'
  obtain ⟨kA0, kA1, _, _⟩ := two_cells hHA
  have HEA := hid hEA
  clear hEA hHA
  show Code.wp Tryd.prog (Code.seq (head12 6) (tail12 7)) _ _ _
  conv => arg 2; arg 1; whnf
  go_wp2_with fail
  refine (text_canon r _ hRA HEA.out h2 h36 la).mono ?_
  rintro e w2 ⟨rfl, hb2⟩
  generalize hS : tx r va = S8
  have HS := hid hS
  clear hS
  go_wp2
  exact RD_7 h2 h36 la lb HS (hb.trans (hb2.mono hb.size)) h0 o4 (b3.keep hb2) (b4.keep hb2)

set_option maxRecDepth 100000 in
set_option maxHeartbeats 2000000 in
theorem RD_5 {w wr : World} {g3 g4 : Nat} {u0 u1 u5 u6 u8 u9 u10 u11 u12 u13 u14 u15 u16 u17 u18 u19 u20 u21 u22 u23 u24 u25 u26 u27 u28 u29 u30 u31 u32 u33 u34 u35 u36 u37 u38 u39 u40 u41 u42 u43 u44 u45 u46 u47 u48 u49 u50 u51 u52 u53 u54 u55 u56 u57 u58 u59 u60 u61 u62 u63 u64 u65 u66 u67 u68 u69 u70 u71 u72 u73 u74 u75 u76 u77 u78 u79 u80 u81 u82 u83 u84 u85 u86 u87 u88 u89 u90 u91 u92 u93 u94 u95 u96 u97 u98 : Value} {va vb x : Int}
    (hx : 0 ≤ x ∧ x ≤ 9223372036854775807) (la : Lt 4096 va) (lb : Lt 4096 vb)
    (hb : Below w.heap.size w wr) (h0 : w.heap.size ≤ g3)
    (o4 : g3 < g4)
    (b3 : BxL 128 wr g3 (va)) (b4 : Bx wr g4 (vb)) :
    Code.wp Tryd.prog (tail12 5) (Q12 w) ⟨#[u0, u1, .int .i64 x, .pointer (some ⟨g3, 0, none⟩), .pointer (some ⟨g4, 0, none⟩), u5, u6, .bool true, u8, u9, u10, u11, u12, u13, u14, u15, u16, u17, u18, u19, u20, u21, u22, u23, u24, u25, u26, u27, u28, u29, u30, u31, u32, u33, u34, u35, u36, u37, u38, u39, u40, u41, u42, u43, u44, u45, u46, u47, u48, u49, u50, u51, u52, u53, u54, u55, u56, u57, u58, u59, u60, u61, u62, u63, u64, u65, u66, u67, u68, u69, u70, u71, u72, u73, u74, u75, u76, u77, u78, u79, u80, u81, u82, u83, u84, u85, u86, u87, u88, u89, u90, u91, u92, u93, u94, u95, u96, u97, u98], []⟩ wr := by
  show Code.wp Tryd.prog (Code.seq (head12 5) (tail12 6)) _ _ _
  conv => arg 2; arg 1; whnf
  have h1 := hx.1
  have h2 := hx.2
  clear hx
  obtain ⟨m, rfl⟩ : ∃ m : Nat, x = (m : Int) := ⟨x.toNat, by omega⟩
  go_wp2
  exact RD_6 (r := 2 + m % 35) (by omega) (by omega) la lb hb h0 o4 b3 b4

set_option maxRecDepth 100000 in
set_option maxHeartbeats 2000000 in
theorem RD_4 {w wr : World} {g3 g4 : Nat} {u0 u1 u5 u6 u8 u9 u10 u11 u12 u13 u14 u15 u16 u17 u18 u19 u20 u21 u22 u23 u24 u25 u26 u27 u28 u29 u30 u31 u32 u33 u34 u35 u36 u37 u38 u39 u40 u41 u42 u43 u44 u45 u46 u47 u48 u49 u50 u51 u52 u53 u54 u55 u56 u57 u58 u59 u60 u61 u62 u63 u64 u65 u66 u67 u68 u69 u70 u71 u72 u73 u74 u75 u76 u77 u78 u79 u80 u81 u82 u83 u84 u85 u86 u87 u88 u89 u90 u91 u92 u93 u94 u95 u96 u97 u98 : Value} {va vb x : Int}
    (hx : -9223372036854775808 ≤ x ∧ x ≤ 9223372036854775807) (la : Lt 4096 va) (lb : Lt 4096 vb)
    (hb : Below w.heap.size w wr) (h0 : w.heap.size ≤ g3)
    (o4 : g3 < g4)
    (b3 : BxL 128 wr g3 (va)) (b4 : Bx wr g4 (vb)) :
    Code.wp Tryd.prog (tail12 4) (Q12 w) ⟨#[u0, u1, .int .i64 x, .pointer (some ⟨g3, 0, none⟩), .pointer (some ⟨g4, 0, none⟩), u5, u6, .bool true, u8, u9, u10, u11, u12, u13, u14, u15, u16, u17, u18, u19, u20, u21, u22, u23, u24, u25, u26, u27, u28, u29, u30, u31, u32, u33, u34, u35, u36, u37, u38, u39, u40, u41, u42, u43, u44, u45, u46, u47, u48, u49, u50, u51, u52, u53, u54, u55, u56, u57, u58, u59, u60, u61, u62, u63, u64, u65, u66, u67, u68, u69, u70, u71, u72, u73, u74, u75, u76, u77, u78, u79, u80, u81, u82, u83, u84, u85, u86, u87, u88, u89, u90, u91, u92, u93, u94, u95, u96, u97, u98], []⟩ wr := by
  show Code.wp Tryd.prog (Code.seq (head12 4) (tail12 5)) _ _ _
  conv => arg 2; arg 1; whnf
  have h1 := hx.1
  have h2 := hx.2
  clear hx
  go_wp2
  all_goals exact RD_5 (by omega) la lb hb h0 o4 b3 b4

set_option maxRecDepth 100000 in
set_option maxHeartbeats 2000000 in
theorem RD_3 {w wr : World} {g3 g4 : Nat} {u0 u1 u5 u6 u8 u9 u10 u11 u12 u13 u14 u15 u16 u17 u18 u19 u20 u21 u22 u23 u24 u25 u26 u27 u28 u29 u30 u31 u32 u33 u34 u35 u36 u37 u38 u39 u40 u41 u42 u43 u44 u45 u46 u47 u48 u49 u50 u51 u52 u53 u54 u55 u56 u57 u58 u59 u60 u61 u62 u63 u64 u65 u66 u67 u68 u69 u70 u71 u72 u73 u74 u75 u76 u77 u78 u79 u80 u81 u82 u83 u84 u85 u86 u87 u88 u89 u90 u91 u92 u93 u94 u95 u96 u97 u98 : Value} {va vb x : Int}
    (hx : -9223372036854775808 ≤ x ∧ x ≤ 9223372036854775807) (la : Lt 4096 va)
    (hb : Below w.heap.size w wr) (h0 : w.heap.size ≤ g3)
    (o4 : g3 < g4)
    (b3 : BxL 128 wr g3 (va)) (b4 : Bx wr g4 (vb)) :
    Code.wp Tryd.prog (tail12 3) (Q12 w) ⟨#[u0, u1, .int .i64 x, .pointer (some ⟨g3, 0, none⟩), .pointer (some ⟨g4, 0, none⟩), u5, u6, .bool true, u8, u9, u10, u11, u12, u13, u14, u15, u16, u17, u18, u19, u20, u21, u22, u23, u24, u25, u26, u27, u28, u29, u30, u31, u32, u33, u34, u35, u36, u37, u38, u39, u40, u41, u42, u43, u44, u45, u46, u47, u48, u49, u50, u51, u52, u53, u54, u55, u56, u57, u58, u59, u60, u61, u62, u63, u64, u65, u66, u67, u68, u69, u70, u71, u72, u73, u74, u75, u76, u77, u78, u79, u80, u81, u82, u83, u84, u85, u86, u87, u88, u89, u90, u91, u92, u93, u94, u95, u96, u97, u98], []⟩ wr := by
  have b4' := b4
  obtain ⟨nA, aA, lA, cA, A, hHA, hRA, hEA⟩ := b4'
  obtain ⟨kA0, kA1, _, _⟩ := two_cells hHA
  have HEA := hid hEA
  clear hEA hHA
  show Code.wp Tryd.prog (Code.seq (head12 3) (tail12 4)) _ _ _
  conv => arg 2; arg 1; whnf
  go_wp2_with fail
  refine (few_any nA aA lA cA A 128 _ hRA (by decide) (by decide)).mono ?_
  rintro e w2 ⟨ao2, len2, cap2, rfl, hR2, hb2⟩
  have hlt : Lt 4096 (num nA (A.take 128)) := lt_take hRA.ok _ rfl
  obtain ⟨nP, aP, lP, cP, P, hHP, _, _⟩ := b4.keep hb2
  obtain ⟨kP0, kP1, kP2, kP3⟩ := two_cells hHP
  clear hHP
  go_wp2
  have hb3 := hb.trans (hb2.mono hb.size)
  exact RD_4 hx la hlt (below_put hb3 (by omega) _ _) h0 o4 ((b3.keep hb2).put_other (b4.keep hb2) (by omega) _ _) ((b4.keep hb2).put hR2 rfl)

set_option maxRecDepth 100000 in
set_option maxHeartbeats 2000000 in
theorem RD_2 {w wr : World} {g3 g4 : Nat} {u0 u1 u5 u6 u8 u9 u10 u11 u12 u13 u14 u15 u16 u17 u18 u19 u20 u21 u22 u23 u24 u25 u26 u27 u28 u29 u30 u31 u32 u33 u34 u35 u36 u37 u38 u39 u40 u41 u42 u43 u44 u45 u46 u47 u48 u49 u50 u51 u52 u53 u54 u55 u56 u57 u58 u59 u60 u61 u62 u63 u64 u65 u66 u67 u68 u69 u70 u71 u72 u73 u74 u75 u76 u77 u78 u79 u80 u81 u82 u83 u84 u85 u86 u87 u88 u89 u90 u91 u92 u93 u94 u95 u96 u97 u98 : Value} {va vb x : Int}
    (hx : -9223372036854775808 ≤ x ∧ x ≤ 9223372036854775807)
    (hb : Below w.heap.size w wr) (h0 : w.heap.size ≤ g3)
    (o4 : g3 < g4)
    (b3 : Bx wr g3 (va)) (b4 : Bx wr g4 (vb)) :
    Code.wp Tryd.prog (tail12 2) (Q12 w) ⟨#[u0, u1, .int .i64 x, .pointer (some ⟨g3, 0, none⟩), .pointer (some ⟨g4, 0, none⟩), u5, u6, .bool true, u8, u9, u10, u11, u12, u13, u14, u15, u16, u17, u18, u19, u20, u21, u22, u23, u24, u25, u26, u27, u28, u29, u30, u31, u32, u33, u34, u35, u36, u37, u38, u39, u40, u41, u42, u43, u44, u45, u46, u47, u48, u49, u50, u51, u52, u53, u54, u55, u56, u57, u58, u59, u60, u61, u62, u63, u64, u65, u66, u67, u68, u69, u70, u71, u72, u73, u74, u75, u76, u77, u78, u79, u80, u81, u82, u83, u84, u85, u86, u87, u88, u89, u90, u91, u92, u93, u94, u95, u96, u97, u98], []⟩ wr := by
  have b3' := b3
  obtain ⟨nA, aA, lA, cA, A, hHA, hRA, hEA⟩ := b3'
  obtain ⟨kA0, kA1, _, _⟩ := two_cells hHA
  have HEA := hid hEA
  clear hEA hHA
  show Code.wp Tryd.prog (Code.seq (head12 2) (tail12 3)) _ _ _
  conv => arg 2; arg 1; whnf
  go_wp2_with fail
  refine (few_any nA aA lA cA A 128 _ hRA (by decide) (by decide)).mono ?_
  rintro e w2 ⟨ao2, len2, cap2, rfl, hR2, hb2⟩
  have hlt : Lt 4096 (num nA (A.take 128)) := lt_take hRA.ok _ rfl
  obtain ⟨nP, aP, lP, cP, P, hHP, _, _⟩ := b3.keep hb2
  obtain ⟨kP0, kP1, kP2, kP3⟩ := two_cells hHP
  clear hHP
  go_wp2
  have hlen : len2 ≤ 128 := (by have h1 := hR2.size; rw [List.length_take] at h1; omega)
  have hb3 := hb.trans (hb2.mono hb.size)
  exact RD_3 hx hlt (below_put hb3 (by omega) _ _) h0 o4 ((b3.keep hb2).putL hR2 rfl hlen) ((b4.keep hb2).put_other (b3.keep hb2) (by omega) _ _)

set_option maxRecDepth 100000 in
set_option maxHeartbeats 2000000 in
theorem reads_yes {na : Bool} {aa : Option Addr} {la ca : Nat} {A : List Nat} {nb : Bool} {ab : Option Addr} {lb cb : Nat} {B : List Nat} (x : Int) (w : World) (hA : Rd w aa la ca A) (hB : Rd w ab lb cb B) (hx : -9223372036854775808 ≤ x ∧ x ≤ 9223372036854775807) :
    Calls Tryd.prog 12 #[.agg #[.bool na, .slice aa la ca], .agg #[.bool nb, .slice ab lb cb], .int .i64 x] w fun e w' => e = .returned (.bool true) ∧ Below w.heap.size w w' := by
  have X0 := (Bx.new (n := na) hA rfl).alloc (.cells #[.bool nb, .slice ab lb cb] 24)
  have X1 := Bx.new (n := nb) (hB.alloc (.cells #[.bool na, .slice aa la ca] 24)) rfl
  rw [show (w.alloc (.cells #[.bool na, .slice aa la ca] 24)).heap.size = w.heap.size + 1 by simp] at X1
  have hb := ((Below.refl w.heap.size w).alloc (Nat.le_refl _) (.cells #[.bool na, .slice aa la ca] 24)).alloc (by simp) (.cells #[.bool nb, .slice ab lb cb] 24)
  go_enter Tryd.func12, Tryd.ntmps12
  change Code.wp Tryd.prog (Code.seq (head12 0) (tail12 1)) (Q12 w) _ _
  conv => arg 2; arg 1; whnf
  go_wp2
  show Code.wp Tryd.prog (Code.seq (head12 1) (tail12 2)) _ _ _
  conv => arg 2; arg 1; whnf
  go_wp2_with fail
  refine (awake_yes _).mono ?_
  rintro e w2 ⟨rfl, hb2⟩
  go_wp2
  exact RD_2 hx (hb.trans (hb2.mono hb.size)) (Nat.le_refl _) (by simp) (X0.keep hb2) (X1.keep hb2)
end Go.Proofs.YtldafoojkimdeaaDoor
