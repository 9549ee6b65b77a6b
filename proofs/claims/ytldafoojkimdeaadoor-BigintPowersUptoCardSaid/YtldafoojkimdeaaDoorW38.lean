/- For the law BigintReads: Text and Parse by a number's value alone; appends in regions that draw their order. -/
import Derived.Test.YtldafoojkimdeaaDoorW35
import Derived.Test.YtldafoojkimdeaaDoorW37
namespace Go.Proofs.YtldafoojkimdeaaDoor
open Go.RowKit Lm

/-- The text of a number. -/
def tx (r : Nat) (v : Int) : ByteArray := strOf (txt (decide (v < 0)) r v.natAbs)
theorem tx_num (r : Nat) (n : Bool) (A : List Nat) : strOf (txt n r (val A)) = tx r (num n A) := by
  unfold tx num
  cases n
  · have h1 : decide ((val A : Int) < 0) = false := decide_eq_false (by omega)
    simp [h1]
  · by_cases h : val A = 0
    · rw [h]; simp [txt]
    · have h1 : decide (-(val A : Int) < 0) = true := decide_eq_true (by omega)
      have h2 : (-(val A : Int)).natAbs = val A := by omega
      rw [if_pos rfl, h1, h2]
theorem abs_sign (v : Int) : (if decide (v < 0) = true then -(v.natAbs : Int) else (v.natAbs : Int)) = v := by
  by_cases h : v < 0
  · rw [decide_eq_true h, if_pos rfl]; omega
  · rw [decide_eq_false h, if_neg (by decide)]; omega
theorem tx_same {r : Nat} {u v : Int} (h2 : 2 ≤ r) (h36 : r ≤ 36) (hu : Lt 4096 u) (hv : Lt 4096 v) : tx r u = tx r v ↔ u = v := by
  have k1 := (back_any (decide (u < 0)) h2 h36 hu).back
  have k2 := (back_any (decide (v < 0)) h2 h36 hv).back
  constructor
  · intro e
    unfold tx at e
    rw [e, k2] at k1
    rw [abs_sign, abs_sign] at k1; exact k1.symm
  · rintro rfl; rfl

theorem text_canon {na : Bool} {aa : Option Addr} {la ca : Nat} {A : List Nat} {v : Int} (r : Nat) (w : World) (hA : Rd w aa la ca A) (e : num na A = v) (h2 : 2 ≤ r) (h36 : r ≤ 36) (hv : Lt 4096 v) :
    Calls Tryd.prog 59 #[.agg #[.bool na, .slice aa la ca], .int .i64 (r : Int)] w fun e w' => e = .returned (.tuple #[.string (tx r v), .int .i64 0]) ∧ Below w.heap.size w w' := by
  have := text_good na aa la ca A r w hA h2 h36 ((hv.sm (Nat.le_refl _)).short e)
  rw [tx_num, e] at this
  exact this
theorem parse_canon (r : Nat) (v : Int) (w : World) (h2 : 2 ≤ r) (h36 : r ≤ 36) (hv : Lt 4096 v) :
    Calls Tryd.prog 57 #[.string (tx r v), .int .i64 (r : Int)] w fun e w' => ∃ n' ao' len' C, e = .returned (.tuple #[.agg #[.bool n', .slice ao' len' len'], .int .i64 0]) ∧ Rd w' ao' len' len' C ∧ num n' C = v ∧ Below w.heap.size w w' := by
  have k := back_any (decide (v < 0)) h2 h36 hv
  refine (parse_good (tx r v) r w h2 h36 (Nat.le_trans k.us (by decide)) k.all k.bs k.bd).mono ?_
  rintro e w' ⟨n', ao', len', c, rfl, hf, hb⟩
  have e2 : sval (signed (tx r v)) (dval r (bare (tx r v)).data.toList) = v := k.back.trans (abs_sign v)
  rw [e2] at hf
  obtain ⟨rfl, C, h1, h3⟩ := hf.read (hv.sm (Nat.le_refl _))
  exact ⟨n', ao', len', C, rfl, h1, h3, hb⟩

theorem Grow.le {B : Nat} {w : World} {v : Value} {L : List Nat} (h : Grow B w v L) : ∀ k, v.ownBlock = some k → B ≤ k := by
  intro k hk
  rcases h.2 with ⟨rfl, _⟩ | ⟨g, cap, cur, rfl, hb, _⟩
  · simp [Value.ownBlock] at hk
  · simp [Value.ownBlock] at hk; omega

/-- So many limbs appended to an empty slice of the call's own, at a step of a region that draws its order. -/
theorem step_app0 {w : World} {ops : Array Oper} {o : Oper} {a : Act} {K : Act → World → Prop} {Q : Exit → Act → World → Prop} {E : Prop} (hgd : o.guard = none) (s x : Operand)
    (ho : o.op = .call { callee := .builtin .append, args := #[s, x], argTypes := #[22, 22] }) (B : Nat) (ao0 : Option Addr) (hs : a.eval s = .slice ao0 0 0) (hG : Grow B w (.slice ao0 0 0) []) (hB : B ≤ w.heap.size)
    (aa : Option Addr) (la ca : Nat) (A : List Nat) (hx : a.eval x = .slice aa la ca) (hA : Rd w aa la ca A) (hl : la ≤ 1000)
    (h : ∀ v' w', Grow B w' v' A → w.grownBy w' (Value.slice ao0 0 0).ownBlock → K (a.put o.dst v') w') :
    if Region.wanted o (yielded ops a.tmps) = true then Oper.wp Tryd.prog o a w K Q else E := by
  by_cases h0 : la = 0
  · subst h0
    have hA0 : A = [] := List.eq_nil_of_length_eq_zero hA.size
    subst hA0
    exact step_append_zero hgd s x ho ao0 aa ca hs hx (h _ _ hG ⟨rfl, rfl, rfl, Nat.le_refl _, fun _ _ _ => rfl⟩)
  · obtain ⟨i0, hi, hz0, hz1, hz2⟩ := info_parts Tryd.info43
    obtain ⟨g, off, rfl, hc⟩ := hA.cells (by omega)
    have hsz := hA.size
    have hn := lims_news hc la (Nat.le_refl _) hsz
    rw [List.take_of_length_le (by omega)] at hn
    refine step_append_lies w hgd s x 22 ho B 43 i0 _ 1 4 Tryd.underlying22 hi hz0 hz1 hz2 rfl (by omega) _ 0 [] hs hG ⟨g, off, none⟩ la ca (lims A) hx (by rw [lims_len]; omega) hn (lims_one _)
      (by omega) (by unfold maxLen; omega) (by omega) hB w.heap.size rfl ?_
    intro gg cap w1 hown hgrow _ _
    refine h _ _ ?_ hgrow
    unfold Grow
    rw [List.nil_append] at hown
    rw [hsz]
    simp only [Nat.zero_add] at hown ⊢
    exact hown

/-- Two noughts appended. -/
theorem step_app2 {w : World} {ops : Array Oper} {o : Oper} {a : Act} {K : Act → World → Prop} {Q : Exit → Act → World → Prop} {E : Prop} (hgd : o.guard = none) (s x : Operand)
    (ho : o.op = .call { callee := .builtin .append, args := #[s, x], argTypes := #[22, 22] }) (B : Nat) (v : Value) (L : List Nat) (hs : a.eval s = v) (hG : Grow B w v L) (hB : B ≤ w.heap.size) (hl : L.length ≤ 1000)
    (b2 : Nat) (hz : w.heap[b2]? = some (.cells #[.int .u32 0, .int .u32 0] 43 (0, 0))) (hx : a.eval x = .slice (some ⟨b2, 0, none⟩) 2 2)
    (h : ∀ v' w', Grow B w' v' (L ++ [0, 0]) → w.grownBy w' v.ownBlock → K (a.put o.dst v') w') :
    if Region.wanted o (yielded ops a.tmps) = true then Oper.wp Tryd.prog o a w K Q else E := by
  obtain ⟨i0, hi, hz0, hz1, hz2⟩ := info_parts Tryd.info43
  refine step_append_lies w hgd s x 22 ho B 43 i0 _ 1 4 Tryd.underlying22 hi hz0 hz1 hz2 rfl (by omega) v L.length (lims L) hs hG ⟨b2, 0, none⟩ 2 2 (lims [0, 0]) hx (by rw [lims_len]; rfl) (World.news_of_block hz) (lims_one _)
      (by omega) (by unfold maxLen; omega) (by omega) hB w.heap.size rfl ?_
  intro gg cap w1 hown hgrow _ _
  refine h _ _ ?_ hgrow
  unfold Grow
  have e : lims L ++ lims [0, 0] = lims (L ++ [0, 0]) := by unfold lims; rw [List.map_append]
  rw [e] at hown
  rw [List.length_append]
  exact hown
theorem val_noughts (A : List Nat) : val (A ++ [0, 0]) = val A := by
  rw [val_append]; simp [val]
end Go.Proofs.YtldafoojkimdeaaDoor
