/- Walks: the function that Rule hands made, and made over it, of whatever term may be. No condition but those that each theorem names. Walks: Rule, of whatever tree. No condition but those that each theorem names. -/
import Derived.Test.YtiaddfedaikaiaaGreatDoorD29m
import Derived.Test.YtiaddfedaikaiaaGreatDoorD36m
import Derived.Test.YtiaddfedaikaiaaGreatDoorT101p
namespace Go.Proofs.YtiaddfedaikaiaaGreatDoor
open Go.RowKit

set_option maxRecDepth 100000 in
set_option maxHeartbeats 8000000 in
theorem ruleF_ok (t : Tm) (p : Option Addr) (c : Nat) (bt bx : Nat) (n : Int) (w : World) (ht : w.heap[bt]? = some (tobj t p c)) (hT : TmAt w t p) (hg : Good t) (hX : ∀ W, But1 bx w W → Utf W) (hn : nodes t ≤ 4000) (hbx : Box1 w bx n) (h0 : 0 ≤ n) (hmx : n + nodes t + 3 ≤ 9223372036854775806) (g : Tm) (m : Int) (hok : ruleP t n = .ok g m) :
    Calls Tryz.prog 51 #[.func (.func 104) #[] #[.pointer (some ⟨bx, 0, none⟩)], .pointer (some ⟨bt, 0, none⟩)] w fun x w' => ∃ q c', x = .returned (g.val q c') ∧ TmAt w' g q ∧ Box1 w' bx m ∧ But1 bx w w' := by
  obtain ⟨W0, hW0⟩ : ∃ W0, W0 = w.alloc (.cells #[.int .i64 0, .string ⟨#[]⟩, .string ⟨#[]⟩, .int .u64 0, .int .i64 0, .slice none 0 0] 25) := ⟨_, rfl⟩
  have B0 := hid (show Below w.heap.size w W0 by rw [hW0]; exact (Below.refl w.heap.size w).alloc (Nat.le_refl _) _)
  have N0 := hid (But1.of_below hbx B0.out)
  have X0 := hid (hbx.keep B0.out)
  have R0 := hid (show W0.heap[w.heap.size]? = some (.cells #[.int .i64 0, .string ⟨#[]⟩, .string ⟨#[]⟩, .int .u64 0, .int .i64 0, .slice none 0 0] 25 (0, 0)) by rw [hW0]; exact heap_alloc_new w _)
  have hbl := hid (lt_of_block hbx)
  have CB := hid (show Calls Tryz.prog 52 #[.agg #[.int .i64 t.kind, .string t.name, .string t.num, .int .u64 t.bits, .int .i64 t.var, .slice p t.args.length c], .func (.func 104) #[] #[.pointer (some ⟨bx, 0, none⟩)]] W0 fun x w' => ∃ q c', x = .returned (.agg #[.int .i64 g.kind, .string g.name, .string g.num, .int .u64 g.bits, .int .i64 g.var, .slice q g.args.length c']) ∧ TmAt w' g q ∧ Box1 w' bx m ∧ But1 bx W0 w' from by
    have hc := rule_any bx t n p c W0 (hT.keep B0.out) hg (fun W h => hX W (N0.out.trans h)) hn X0.out h0 hmx
    unfold RuleAt at hc
    rw [hok] at hc
    exact hc)
  have GR := hid (rule_clause hg h0 (by omega) hok).1
  have et := hid (obj_keep ht B0.out)
  unfold Tm.val
  clear hT hg hX hn hbx h0 hmx hok ht
  go_enter Tryz.func51, Tryz.ntmps51
  go_upto_region 1 with fail
  rw [← hW0]
  clear hW0
  obtain ⟨a0, a1, a2, a3, a4, a5⟩ := six_of et.out
  go_wp2_with (first
    | (go_at_call 52; (with_reducible refine CB.out.mono ?_); rintro x w4 ⟨q4, c4, rfl, hm4, hx4, hb4⟩; have D4 := hid hb4; have X9 := hid hx4; have M9 := hid hm4; have R9 := hid (hb4.obj R0.out (by have := hbl.out; omega)); clear hb4 hx4 hm4; obtain ⟨⟨z0, z1, z2, z3, z4, z5⟩, ⟨f0, f1, f2, f3, f4, f5⟩⟩ := six_free R9.out)
    | fail)
  have hq := hbl.out
  have hgr := set6_grown w4 w.heap.size (.int .i64 g.kind) (.string g.name) (.string g.num) (.int .u64 g.bits) (.int .i64 g.var) (.slice q4 g.args.length c4)
  have hm' := TmAt.past (b := w.heap.size) (t := g) (p := q4) (show Blank w4 w.heap.size from R9.out) (Past.grown hgr) GR.out M9.out
  have hx' : Box1 _ bx m := (hgr.block bx (lt_of_block X9.out) (fun e => by have := Option.some.inj e; omega)).trans X9.out
  exact bodyPost_ret (results_tm rfl _ _ w.heap.size g q4 c4 (by rfl) (set6 R9.out _ _ _ _ _ _)) rfl ⟨q4, c4, rfl, hm', hx', ⟨(N0.out.trans D4.out).chg.grown1 hgr (fun x e => .inl (by have := Option.some.inj e; omega)), N0.out.here, ⟨_, hx'⟩⟩⟩
set_option maxRecDepth 100000 in
set_option maxHeartbeats 8000000 in
theorem ruleF_ball (t : Tm) (p : Option Addr) (c : Nat) (bt bx : Nat) (n : Int) (w : World) (ht : w.heap[bt]? = some (tobj t p c)) (hT : TmAt w t p) (hg : Good t) (hX : ∀ W, But1 bx w W → Utf W) (hn : nodes t ≤ 4000) (hbx : Box1 w bx n) (h0 : 0 ≤ n) (hmx : n + nodes t + 3 ≤ 9223372036854775806) (bb : Tm) (hok : ruleP t n = .ball bb) :
    Calls Tryz.prog 51 #[.func (.func 104) #[] #[.pointer (some ⟨bx, 0, none⟩)], .pointer (some ⟨bt, 0, none⟩)] w fun x w' => ∃ k, x = .panicked [{ v := .iface 105 (.pointer (some ⟨k, 0, none⟩)), recovered := false }] ∧ BallAt w' k bb ∧ But1 bx w w' := by
  obtain ⟨W0, hW0⟩ : ∃ W0, W0 = w.alloc (.cells #[.int .i64 0, .string ⟨#[]⟩, .string ⟨#[]⟩, .int .u64 0, .int .i64 0, .slice none 0 0] 25) := ⟨_, rfl⟩
  have B0 := hid (show Below w.heap.size w W0 by rw [hW0]; exact (Below.refl w.heap.size w).alloc (Nat.le_refl _) _)
  have N0 := hid (But1.of_below hbx B0.out)
  have X0 := hid (hbx.keep B0.out)
  have R0 := hid (show W0.heap[w.heap.size]? = some (.cells #[.int .i64 0, .string ⟨#[]⟩, .string ⟨#[]⟩, .int .u64 0, .int .i64 0, .slice none 0 0] 25 (0, 0)) by rw [hW0]; exact heap_alloc_new w _)
  have hbl := hid (lt_of_block hbx)
  have CB := hid (show Calls Tryz.prog 52 #[.agg #[.int .i64 t.kind, .string t.name, .string t.num, .int .u64 t.bits, .int .i64 t.var, .slice p t.args.length c], .func (.func 104) #[] #[.pointer (some ⟨bx, 0, none⟩)]] W0 fun x w' => ∃ k, x = .panicked [{ v := .iface 105 (.pointer (some ⟨k, 0, none⟩)), recovered := false }] ∧ BallAt w' k bb ∧ But1 bx W0 w' from by
    have hc := rule_any bx t n p c W0 (hT.keep B0.out) hg (fun W h => hX W (N0.out.trans h)) hn X0.out h0 hmx
    unfold RuleAt at hc
    rw [hok] at hc
    exact hc)
  have et := hid (obj_keep ht B0.out)
  clear hT hg hX hn hbx h0 hmx hok ht
  go_enter Tryz.func51, Tryz.ntmps51
  go_upto_region 1 with fail
  rw [← hW0]
  clear hW0
  obtain ⟨a0, a1, a2, a3, a4, a5⟩ := six_of et.out
  go_wp2_with (first
    | (go_at_call 52; (with_reducible refine CB.out.mono ?_); rintro x w4 ⟨k, rfl, hk, hb4⟩; have D4 := hid hb4; have K4 := hid hk; clear hb4 hk)
    | fail)
  exact ⟨rfl, k, rfl, K4.out, N0.out.trans D4.out⟩
/-- What made comes to, over what Rule hands it. -/
theorem madeR_any (t : Tm) (p : Option Addr) (c : Nat) (bt : Nat) (n : Int) (w : World) (ht : w.heap[bt]? = some (tobj t p c)) (hT : TmAt w t p) (hg : Good t) (hX : Utf w) (hn : nodes t ≤ 4000) (h0 : 0 ≤ n) (hmx : n + nodes t + 3 ≤ 9223372036854775806) :
    Calls Tryz.prog 50 #[.int .i64 n, .func (.func 51) #[] #[.pointer (some ⟨bt, 0, none⟩)]] w fun x w' => (match madeP (ruleP t n) with
      | .ok g m => ∃ q c', x = .returned (.tuple #[.agg #[.int .i64 g.kind, .string g.name, .string g.num, .int .u64 g.bits, .int .i64 g.var, .slice q g.args.length c'], .int .i64 m, .nilIface]) ∧ TmAt w' g q
      | .ball b => ∃ k, x = .returned (.tuple #[.agg #[.int .i64 0, .string ⟨#[]⟩, .string ⟨#[]⟩, .int .u64 0, .int .i64 0, .slice none 0 0], .int .i64 0, .iface 105 (.pointer (some ⟨k, 0, none⟩))]) ∧ BallAt w' k b) ∧ Below w.heap.size w w' := by
  have hlt := lt_of_block ht
  have hut : ∀ W bx, Below w.heap.size w W → w.heap.size ≤ bx → ∀ W', But1 bx W W' → Utf W' := fun W bx h1 h2 W' h3 => hX.keep (h3.below h2 w rfl h1)
  cases hok : ruleP t n with
  | ball bb =>
    simp only [madeP]
    exact (made_ballR n bt bb w (fun W bx h1 h2 h3 => ruleF_ball t p c bt bx n W (obj_keep ht h1) (hT.keep h1) hg (hut W bx h1 h2) hn h3 h0 hmx bb hok)).mono fun x w' ⟨k, a, b, d⟩ => ⟨⟨k, a, b⟩, d⟩
  | ok g m =>
    have gg := (rule_clause hg h0 (by omega) hok).1
    have HC := fun W bx (h1 : Below w.heap.size w W) (h2 : w.heap.size ≤ bx) (h3 : Box1 W bx n) => ruleF_ok t p c bt bx n W (obj_keep ht h1) (hT.keep h1) hg (hut W bx h1 h2) hn h3 h0 hmx g m hok
    by_cases hs : nodes g ≤ 4000
    · simp only [madeP, if_pos hs]
      exact (made_okR n m bt g w HC gg hs (fun W h => hX.keep h)).mono fun x w' ⟨q, c', a, b, d⟩ => ⟨⟨q, c', a, b⟩, d⟩
    · simp only [madeP, if_neg hs]
      exact (made_overR n m bt g w HC gg (by omega) (fun W h => hX.keep h)).mono fun x w' ⟨k, a, b, d⟩ => ⟨⟨k, a, b⟩, d⟩
end Go.Proofs.YtiaddfedaikaiaaGreatDoor

namespace Go.Proofs.YtiaddfedaikaiaaGreatDoor
open Go.RowKit

theorem occ_range : ∀ (d : Nat) (t : Tm) (x : Int), nodes t ≤ d → Good t → occT t x → 0 ≤ x ∧ x ≤ 9223372036854775807
  | 0, t, x, h, _, _ => by have := nodes_pos t; omega
  | d + 1, t, x, h, hg, ho => by
    have hr : ∀ (l : List Tm), (∀ u ∈ l, Good u ∧ nodes u < nodes t) → occR l x → 0 ≤ x ∧ x ≤ 9223372036854775807 := by
      intro l
      induction l with
      | nil => intro _ h; unfold occR at h; exact h.elim
      | cons u l ih =>
        intro hl h
        unfold occR at h
        rcases h with h | h
        · have hu := hl u (by simp)
          exact occ_range d u x (by omega) hu.1 h
        · exact ih (fun v hv => hl v (by simp [hv])) h
    cases t with
    | mk k n u b v l =>
      unfold occT at ho
      rcases ho with ⟨_, rfl⟩ | ho
      · have h0 := hg.var0
        have hw := hg.1.head.var
        have hv : (Tm.mk k n u b v l).var = v := rfl
        rw [hv] at h0 hw
        simp only [Lit.wf, Bool.and_eq_true, decide_eq_true_eq] at hw
        have hm : IntKind.i64.max = 9223372036854775807 := rfl
        exact ⟨h0, by have := hw.2; omega⟩
      · exact hr l (fun u hu => hg.arg u hu) ho
theorem aboveL_snoc : ∀ (l : List Int) (x : Int), aboveL (l ++ [x]) = max (aboveL l) (x + 1)
  | [], x => by simp [aboveL]; omega
  | y :: l, x => by
    have := aboveL_snoc l x
    simp only [List.cons_append, aboveL, this]
    omega
theorem checks_one (t : Tm) : checksErr vName numOk bitsOk [t] = checkErr vName numOk bitsOk t := by
  unfold checksErr checksErr
  split <;> simp_all
theorem vars_one (t : Tm) : varsR [t] [] = varsT t [] := by unfold varsR varsR; rfl
theorem good_of_check {t : Tm} (hD : AllT DomA t) (h : checkErr vName numOk bitsOk t = 0) : Good t ∧ nodes t ≤ 4000 := by
  unfold checkErr at h
  split at h
  · cases h
  · exact ⟨⟨hD, h⟩, by omega⟩
set_option maxRecDepth 100000 in
set_option maxHeartbeats 8000000 in
theorem rule_bad (t : Tm) (p : Option Addr) (c : Nat) (w : World) (hT : TmAt w t p) (hD : AllT DomA t) (hU : Utf w) (he : checkErr vName numOk bitsOk t ≠ 0) :
    Calls Tryz.prog 14 #[t.val p c] w fun x w' => x = .returned (.tuple #[.agg #[.int .i64 0, .string ⟨#[]⟩, .string ⟨#[]⟩, .int .u64 0, .int .i64 0, .slice none 0 0], .iface 32 (.int .i64 (checkErr vName numOk bitsOk t))]) ∧ Below w.heap.size w w' := by
  obtain ⟨W0, hW0⟩ : ∃ W0, W0 = (w.alloc (tobj t p c)).alloc (.cells #[.int .i64 0, .string ⟨#[]⟩, .string ⟨#[]⟩, .int .u64 0, .int .i64 0, .slice none 0 0] 25) := ⟨_, rfl⟩
  have B0 := hid (show Below w.heap.size w W0 by rw [hW0]; exact ((Below.refl w.heap.size w).alloc (Nat.le_refl _) _).alloc (by simp) _)
  have e0 := hid (show W0.heap[w.heap.size]? = some (tobj t p c) by rw [hW0]; exact (heap_alloc_old (w.alloc _) _ (by simp)).trans (heap_alloc_new w _))
  have R0 := hid (show W0.heap[w.heap.size + 1]? = some (.cells #[.int .i64 0, .string ⟨#[]⟩, .string ⟨#[]⟩, .int .u64 0, .int .i64 0, .slice none 0 0] 25 (0, 0)) by rw [hW0]; have h := heap_alloc_new (w.alloc (tobj t p c)) (.cells #[.int .i64 0, .string ⟨#[]⟩, .string ⟨#[]⟩, .int .u64 0, .int .i64 0, .slice none 0 0] 25); rw [World.size_alloc] at h; exact h)
  obtain ⟨W1, hW1⟩ : ∃ W1, W1 = W0.alloc (.cells #[.int .i64 t.kind, .string t.name, .string t.num, .int .u64 t.bits, .int .i64 t.var, .slice p t.args.length c] 25) := ⟨_, rfl⟩
  have D1 := hid (show Below W0.heap.size W0 W1 by rw [hW1]; exact (Below.refl _ _).alloc (Nat.le_refl _) _)
  have B1 := hid (B0.out.trans (D1.out.mono B0.out.size))
  have hL1 : ListAt W1 [t] (some ⟨W0.heap.size, 0, none⟩) := .inr ⟨W0.heap.size, 0, rfl, by
    unfold RowT RowT
    exact ⟨⟨p, c, six_of (show W1.heap[W0.heap.size]? = some (tobj t p c) by rw [hW1]; exact heap_alloc_new W0 _), hT.keep B1.out⟩, trivial⟩⟩
  obtain ⟨y, hy⟩ : ∃ y, y = checkErr vName numOk bitsOk t := ⟨_, rfl⟩
  have CV := hid (show Calls Tryz.prog 49 #[.slice (some ⟨W0.heap.size, 0, none⟩) 1 1] W1 fun x w' => x = .returned (.tuple #[.slice none 0 0, .int .i64 y]) ∧ Below W1.heap.size W1 w' from by
    rw [hy, ← checks_one]
    exact variables_bad vName numOk bitsOk DomA [t] _ 1 W1 (by unfold maxLen; simp) hL1 (oracleA W1 (hU.keep B1.out)) (by unfold AllR AllR; exact ⟨hD, trivial⟩) (by rw [checks_one]; exact he))
  rw [← hy] at he ⊢
  have hyb : (y == 0) = false := beq_eq_false_iff_ne.2 he
  have hyc : (y != 0) = true := by simp [he]
  unfold tobj at hW0
  unfold Tm.val
  clear hT hD hU he hy hL1
  go_enter Tryz.func14, Tryz.ntmps14
  go_upto_region 1 with fail
  rw [← hW0]
  clear hW0
  obtain ⟨a0, a1, a2, a3, a4, a5⟩ := six_of e0.out
  go_wp2_with (first
    | (go_at_call 49; rw [← hW1]; (with_reducible refine CV.out.mono ?_); rintro x w4 ⟨rfl, hb4⟩; have B4 := hid (B1.out.trans (hb4.mono B1.out.size)); have R4 := hid (obj_keep (obj_keep R0.out D1.out) hb4); clear hb4 hW1; obtain ⟨⟨z0, z1, z2, z3, z4, z5⟩, ⟨f0, f1, f2, f3, f4, f5⟩⟩ := six_free R4.out)
    | fail)
  have h6 := set6 R4.out (.int .i64 0) (.string ⟨#[]⟩) (.string ⟨#[]⟩) (.int .u64 0) (.int .i64 0) (.slice none 0 0)
  exact bodyPost_ret (results_pair (b := w.heap.size + 1) (t := leaf 0 ⟨#[]⟩ ⟨#[]⟩ 0) (q := none) (cap := 0) rfl _ _ (.iface 32 (.int .i64 y)) ⟨by rfl, by rfl⟩ h6) rfl ⟨rfl, set6_below B4.out (by omega) _ _ _ _ _ _⟩
set_option maxRecDepth 100000 in
set_option maxHeartbeats 16000000 in
theorem rule_high (t : Tm) (p : Option Addr) (c : Nat) (w : World) (hT : TmAt w t p) (hg : Good t) (hU : Utf w) (hn : nodes t ≤ 4000) (hhi : 4611686018427387905 < aboveT t) :
    Calls Tryz.prog 14 #[t.val p c] w fun x w' => x = .returned (.tuple #[.agg #[.int .i64 0, .string ⟨#[]⟩, .string ⟨#[]⟩, .int .u64 0, .int .i64 0, .slice none 0 0], .iface 32 (.int .i64 1)]) ∧ Below w.heap.size w w' := by
  obtain ⟨W0, hW0⟩ : ∃ W0, W0 = (w.alloc (tobj t p c)).alloc (.cells #[.int .i64 0, .string ⟨#[]⟩, .string ⟨#[]⟩, .int .u64 0, .int .i64 0, .slice none 0 0] 25) := ⟨_, rfl⟩
  have B0 := hid (show Below w.heap.size w W0 by rw [hW0]; exact ((Below.refl w.heap.size w).alloc (Nat.le_refl _) _).alloc (by simp) _)
  have e0 := hid (show W0.heap[w.heap.size]? = some (tobj t p c) by rw [hW0]; exact (heap_alloc_old (w.alloc _) _ (by simp)).trans (heap_alloc_new w _))
  have R0 := hid (show W0.heap[w.heap.size + 1]? = some (.cells #[.int .i64 0, .string ⟨#[]⟩, .string ⟨#[]⟩, .int .u64 0, .int .i64 0, .slice none 0 0] 25 (0, 0)) by rw [hW0]; have h := heap_alloc_new (w.alloc (tobj t p c)) (.cells #[.int .i64 0, .string ⟨#[]⟩, .string ⟨#[]⟩, .int .u64 0, .int .i64 0, .slice none 0 0] 25); rw [World.size_alloc] at h; exact h)
  obtain ⟨W1, hW1⟩ : ∃ W1, W1 = W0.alloc (.cells #[.int .i64 t.kind, .string t.name, .string t.num, .int .u64 t.bits, .int .i64 t.var, .slice p t.args.length c] 25) := ⟨_, rfl⟩
  have D1 := hid (show Below W0.heap.size W0 W1 by rw [hW1]; exact (Below.refl _ _).alloc (Nat.le_refl _) _)
  have B1 := hid (B0.out.trans (D1.out.mono B0.out.size))
  have hL1 : ListAt W1 [t] (some ⟨W0.heap.size, 0, none⟩) := .inr ⟨W0.heap.size, 0, rfl, by
    unfold RowT RowT
    exact ⟨⟨p, c, six_of (show W1.heap[W0.heap.size]? = some (tobj t p c) by rw [hW1]; exact heap_alloc_new W0 _), hT.keep B1.out⟩, trivial⟩⟩
  have hck := hg.check hn
  obtain ⟨L, hL⟩ : ∃ L, L = varsT t [] := ⟨_, rfl⟩
  have hab : aboveT t = aboveL L := by rw [hL]; rfl
  have hmem : ∀ x ∈ L, 0 ≤ x ∧ x ≤ 9223372036854775807 := fun x hx => by
    rw [hL, mem_varsT] at hx
    rcases hx with hx | hx
    · cases hx
    · exact occ_range (nodes t) t x (Nat.le_refl _) hg hx
  have hll : L.length ≤ 4000 := by
    have := varsR_length [t] []
    rw [vars_one, ← hL] at this
    simp [nodesL] at this
    omega
  have CV := hid (show Calls Tryz.prog 49 #[.slice (some ⟨W0.heap.size, 0, none⟩) 1 1] W1 fun x w' => ∃ q c', x = .returned (.tuple #[.slice q L.length c', .int .i64 0]) ∧ (∀ k (h : k < L.length), ∃ g, q = some ⟨g, 0, none⟩ ∧ w'.cell? ⟨g, k, none⟩ = some (.int .i64 L[k])) ∧ Below W1.heap.size W1 w' from by
    have hh := variables_good vName numOk bitsOk DomA [t] _ 1 W1 (by unfold maxLen; simp) hL1 (oracleA W1 (hU.keep B1.out)) (by unfold AllR AllR; exact ⟨hg.1, trivial⟩) (by rw [checks_one]; exact hck) (AllR.varOk (by unfold AllR AllR; exact ⟨hg.1, trivial⟩)) (by simp [nodesL]; omega)
    rw [vars_one, ← hL] at hh
    refine hh.mono fun x w' ⟨v, e1, e2, e3⟩ => ?_
    obtain ⟨q, c', rfl⟩ := rowI_form e2
    refine ⟨q, c', e1, fun k hk => ?_, e3⟩
    rcases e2.2 with ⟨-, hz⟩ | ⟨g, cap, cur, hv, _⟩
    · omega
    · injection hv with hq _ _
      refine ⟨g, hq, ?_⟩
      have hc := e2.cells (g := g) (by rw [hq]; rfl) k (.int .i64 L[k]) (by simp [ints, hk])
      rwa [add_plain, Nat.zero_add] at hc)
  have HHI := hid hhi
  unfold tobj at hW0
  unfold Tm.val
  have HG := hid hg
  have hnn : (0 : Int) ≤ aboveL L := aboveL_nonneg L
  have HAB := hid hab
  have HMEM := hid hmem
  have hlz : (L.length : Int) ≤ 4000 := by omega
  clear hT hg hU hn hL1 hck hL hab hmem hhi
  go_enter Tryz.func14, Tryz.ntmps14
  go_upto_region 1 with fail
  rw [← hW0]
  clear hW0
  obtain ⟨a0, a1, a2, a3, a4, a5⟩ := six_of e0.out
  go_wp2_with (first
    | (go_at_call 49; rw [← hW1]; (with_reducible refine CV.out.mono ?_); rintro x w4 ⟨q, c', rfl, hcl, hb4⟩; have CL := hid hcl; have B4 := hid (B1.out.trans (hb4.mono B1.out.size)); have E4 := hid (obj_keep (obj_keep e0.out D1.out) hb4); have R4 := hid (obj_keep (obj_keep R0.out D1.out) hb4); clear hb4 hW1 hcl a0 a1 a2 a3 a4 a5)
    | fail)
  go_loop [6, 25] (fun g i => ∃ (k : Nat) (G : Int), k ≤ L.length ∧ i = .int .i64 (k : Int) ∧ g = .int .i64 G ∧ Hid (G + 1 = aboveL (L.take k))) (fun _ i => L.length - (intOf i).toNat)
  case atStart => exact ⟨0, -1, Nat.zero_le _, rfl, rfl, hid rfl⟩
  case round =>
    obtain ⟨k, G, hk, rfl, rfl, HGR⟩ := hrel
    by_cases hlt : k < L.length
    · obtain ⟨g, rfl, hcell⟩ := CL.out k hlt
      have hkz : (0 : Int) ≤ (k : Int) := by omega
      have hkl : (k : Int) < (L.length : Int) := by omega
      have htk : L.take (k + 1) = L.take k ++ [L[k]] := List.take_succ_eq_append_getElem hlt
      have HST := hid (show aboveL (L.take (k + 1)) = max (aboveL (L.take k)) (L[k] + 1) by rw [htk, aboveL_snoc])
      have hmx := HMEM.out L[k] (List.getElem_mem hlt)
      generalize L[k] = x at *
      clear htk
      go_wp2
      go_round
      case rel => exact ⟨k + 1, max G x, by omega, by go_num, rfl, hid (by rw [HST.out, ← HGR.out]; omega)⟩
      case measure => simp [intOf]; omega
    · obtain rfl : k = L.length := by omega
      have HGE := hid (show G + 1 = aboveL L by have h := HGR.out; rwa [List.take_length] at h)
      have hG0 : -1 ≤ G := by have := HGE.out; omega
      clear HGR hlt hk
      have hgt : decide (G > 4611686018427387904) = true := by have := HGE.out; have := HAB.out; have := HHI.out; simp; omega
      have hgt2 : 4611686018427387904 < G := by simpa using hgt
      obtain ⟨⟨z0, z1, z2, z3, z4, z5⟩, ⟨f0, f1, f2, f3, f4, f5⟩⟩ := six_free R4.out
      go_wp2
      have h6 := set6 R4.out (.int .i64 0) (.string ⟨#[]⟩) (.string ⟨#[]⟩) (.int .u64 0) (.int .i64 0) (.slice none 0 0)
      exact bodyPost_ret (results_pair (b := w.heap.size + 1) (t := leaf 0 ⟨#[]⟩ ⟨#[]⟩ 0) (q := none) (cap := 0) rfl _ _ (.iface 32 (.int .i64 1)) ⟨by rfl, by rfl⟩ h6) rfl ⟨rfl, set6_below B4.out (by omega) _ _ _ _ _ _⟩
set_option maxRecDepth 100000 in
set_option maxHeartbeats 16000000 in
theorem rule_gball (t : Tm) (p : Option Addr) (c : Nat) (w : World) (hT : TmAt w t p) (hg : Good t) (hU : Utf w) (hn : nodes t ≤ 4000) (hhi : ¬ 4611686018427387905 < aboveT t) (bb : Tm) (hmd : madeP (ruleP t (aboveT t)) = .ball bb) :
    Calls Tryz.prog 14 #[t.val p c] w fun x w' => (∃ k, x = .returned (.tuple #[.agg #[.int .i64 0, .string ⟨#[]⟩, .string ⟨#[]⟩, .int .u64 0, .int .i64 0, .slice none 0 0], .iface 105 (.pointer (some ⟨k, 0, none⟩))]) ∧ BallAt w' k bb) ∧ Below w.heap.size w w' := by
  obtain ⟨W0, hW0⟩ : ∃ W0, W0 = (w.alloc (tobj t p c)).alloc (.cells #[.int .i64 0, .string ⟨#[]⟩, .string ⟨#[]⟩, .int .u64 0, .int .i64 0, .slice none 0 0] 25) := ⟨_, rfl⟩
  have B0 := hid (show Below w.heap.size w W0 by rw [hW0]; exact ((Below.refl w.heap.size w).alloc (Nat.le_refl _) _).alloc (by simp) _)
  have e0 := hid (show W0.heap[w.heap.size]? = some (tobj t p c) by rw [hW0]; exact (heap_alloc_old (w.alloc _) _ (by simp)).trans (heap_alloc_new w _))
  have R0 := hid (show W0.heap[w.heap.size + 1]? = some (.cells #[.int .i64 0, .string ⟨#[]⟩, .string ⟨#[]⟩, .int .u64 0, .int .i64 0, .slice none 0 0] 25 (0, 0)) by rw [hW0]; have h := heap_alloc_new (w.alloc (tobj t p c)) (.cells #[.int .i64 0, .string ⟨#[]⟩, .string ⟨#[]⟩, .int .u64 0, .int .i64 0, .slice none 0 0] 25); rw [World.size_alloc] at h; exact h)
  obtain ⟨W1, hW1⟩ : ∃ W1, W1 = W0.alloc (.cells #[.int .i64 t.kind, .string t.name, .string t.num, .int .u64 t.bits, .int .i64 t.var, .slice p t.args.length c] 25) := ⟨_, rfl⟩
  have D1 := hid (show Below W0.heap.size W0 W1 by rw [hW1]; exact (Below.refl _ _).alloc (Nat.le_refl _) _)
  have B1 := hid (B0.out.trans (D1.out.mono B0.out.size))
  have hL1 : ListAt W1 [t] (some ⟨W0.heap.size, 0, none⟩) := .inr ⟨W0.heap.size, 0, rfl, by
    unfold RowT RowT
    exact ⟨⟨p, c, six_of (show W1.heap[W0.heap.size]? = some (tobj t p c) by rw [hW1]; exact heap_alloc_new W0 _), hT.keep B1.out⟩, trivial⟩⟩
  have hck := hg.check hn
  obtain ⟨L, hL⟩ : ∃ L, L = varsT t [] := ⟨_, rfl⟩
  have hab : aboveT t = aboveL L := by rw [hL]; rfl
  have hmem : ∀ x ∈ L, 0 ≤ x ∧ x ≤ 9223372036854775807 := fun x hx => by
    rw [hL, mem_varsT] at hx
    rcases hx with hx | hx
    · cases hx
    · exact occ_range (nodes t) t x (Nat.le_refl _) hg hx
  have hll : L.length ≤ 4000 := by
    have := varsR_length [t] []
    rw [vars_one, ← hL] at this
    simp [nodesL] at this
    omega
  have CV := hid (show Calls Tryz.prog 49 #[.slice (some ⟨W0.heap.size, 0, none⟩) 1 1] W1 fun x w' => ∃ q c', x = .returned (.tuple #[.slice q L.length c', .int .i64 0]) ∧ (∀ k (h : k < L.length), ∃ g, q = some ⟨g, 0, none⟩ ∧ w'.cell? ⟨g, k, none⟩ = some (.int .i64 L[k])) ∧ Below W1.heap.size W1 w' from by
    have hh := variables_good vName numOk bitsOk DomA [t] _ 1 W1 (by unfold maxLen; simp) hL1 (oracleA W1 (hU.keep B1.out)) (by unfold AllR AllR; exact ⟨hg.1, trivial⟩) (by rw [checks_one]; exact hck) (AllR.varOk (by unfold AllR AllR; exact ⟨hg.1, trivial⟩)) (by simp [nodesL]; omega)
    rw [vars_one, ← hL] at hh
    refine hh.mono fun x w' ⟨v, e1, e2, e3⟩ => ?_
    obtain ⟨q, c', rfl⟩ := rowI_form e2
    refine ⟨q, c', e1, fun k hk => ?_, e3⟩
    rcases e2.2 with ⟨-, hz⟩ | ⟨g, cap, cur, hv, _⟩
    · omega
    · injection hv with hq _ _
      refine ⟨g, hq, ?_⟩
      have hc := e2.cells (g := g) (by rw [hq]; rfl) k (.int .i64 L[k]) (by simp [ints, hk])
      rwa [add_plain, Nat.zero_add] at hc)
  have HHI := hid hhi
  have CM := hid (show ∀ W G, G + 1 = aboveT t → Below w.heap.size w W → W.heap[w.heap.size]? = some (tobj t p c) → Calls Tryz.prog 50 #[.int .i64 (G + 1), .func (.func 51) #[] #[.pointer (some ⟨w.heap.size, 0, none⟩)]] W fun x w' => (∃ k, x = .returned (.tuple #[.agg #[.int .i64 0, .string ⟨#[]⟩, .string ⟨#[]⟩, .int .u64 0, .int .i64 0, .slice none 0 0], .int .i64 0, .iface 105 (.pointer (some ⟨k, 0, none⟩))]) ∧ BallAt w' k bb) ∧ Below W.heap.size W w' from fun W G h1 h2 h3 => by
    have hh := madeR_any t p c w.heap.size (G + 1) W h3 (hT.keep h2) hg (hU.keep h2) hn (by have := aboveL_nonneg (varsT t []); rw [h1]; exact this) (by omega)
    rw [h1, hmd] at hh
    rw [h1]
    exact hh)
  unfold tobj at hW0
  unfold Tm.val
  have HG := hid hg
  have hnn : (0 : Int) ≤ aboveL L := aboveL_nonneg L
  have HAB := hid hab
  have HMEM := hid hmem
  have hlz : (L.length : Int) ≤ 4000 := by omega
  clear hT hg hU hn hL1 hck hL hab hmem hhi hmd
  go_enter Tryz.func14, Tryz.ntmps14
  go_upto_region 1 with fail
  rw [← hW0]
  clear hW0
  obtain ⟨a0, a1, a2, a3, a4, a5⟩ := six_of e0.out
  go_wp2_with (first
    | (go_at_call 49; rw [← hW1]; (with_reducible refine CV.out.mono ?_); rintro x w4 ⟨q, c', rfl, hcl, hb4⟩; have CL := hid hcl; have B4 := hid (B1.out.trans (hb4.mono B1.out.size)); have E4 := hid (obj_keep (obj_keep e0.out D1.out) hb4); have R4 := hid (obj_keep (obj_keep R0.out D1.out) hb4); clear hb4 hW1 hcl a0 a1 a2 a3 a4 a5)
    | fail)
  go_loop [6, 25] (fun g i => ∃ (k : Nat) (G : Int), k ≤ L.length ∧ i = .int .i64 (k : Int) ∧ g = .int .i64 G ∧ Hid (G + 1 = aboveL (L.take k))) (fun _ i => L.length - (intOf i).toNat)
  case atStart => exact ⟨0, -1, Nat.zero_le _, rfl, rfl, hid rfl⟩
  case round =>
    obtain ⟨k, G, hk, rfl, rfl, HGR⟩ := hrel
    by_cases hlt : k < L.length
    · obtain ⟨g, rfl, hcell⟩ := CL.out k hlt
      have hkz : (0 : Int) ≤ (k : Int) := by omega
      have hkl : (k : Int) < (L.length : Int) := by omega
      have htk : L.take (k + 1) = L.take k ++ [L[k]] := List.take_succ_eq_append_getElem hlt
      have HST := hid (show aboveL (L.take (k + 1)) = max (aboveL (L.take k)) (L[k] + 1) by rw [htk, aboveL_snoc])
      have hmx := HMEM.out L[k] (List.getElem_mem hlt)
      generalize L[k] = x at *
      clear htk
      go_wp2
      go_round
      case rel => exact ⟨k + 1, max G x, by omega, by go_num, rfl, hid (by rw [HST.out, ← HGR.out]; omega)⟩
      case measure => simp [intOf]; omega
    · obtain rfl : k = L.length := by omega
      have HGE := hid (show G + 1 = aboveL L by have h := HGR.out; rwa [List.take_length] at h)
      have hG0 : -1 ≤ G := by have := HGE.out; omega
      clear HGR hlt hk
      have hgt : decide (G > 4611686018427387904) = false := by have := HGE.out; have := HAB.out; have := HHI.out; simp; omega
      have hgt2 : ¬ 4611686018427387904 < G := by simpa using hgt
      have hmf : ∀ (fn : Fn) (first cap : Array Value) (w : World), (Instr.makeFunc fn first cap).run Tryz.prog w = .ok (.func fn first cap) w := fun _ _ _ _ => rfl
      go_wp2_with (first
        | (go_at_call 50; (with_reducible refine (CM.out _ _ (by rw [HGE.out, HAB.out]) B4.out E4.out).mono ?_); rintro x w5 ⟨⟨k, rfl, hk⟩, hb5⟩; have K5 := hid hk; have B5 := hid (B4.out.trans (hb5.mono B4.out.size)); have A5 := hid (show Below w5.heap.size w5 (w5.alloc (.cells #[.int .i64 0, .string ⟨#[]⟩, .string ⟨#[]⟩, .int .u64 0, .int .i64 0, .slice none 0 0] 25)) from (Below.refl _ _).alloc (Nat.le_refl _) _); have R5 := hid (obj_keep (obj_keep R4.out hb5) A5.out); clear hb5 hk; obtain ⟨⟨z0, z1, z2, z3, z4, z5⟩, ⟨f0, f1, f2, f3, f4, f5⟩⟩ := six_free R5.out)
        | fail)
      have h6 := set6 R5.out (.int .i64 0) (.string ⟨#[]⟩) (.string ⟨#[]⟩) (.int .u64 0) (.int .i64 0) (.slice none 0 0)
      have hB6 := set_blank (show Blank _ (w.heap.size + 1) from R5.out)
      exact bodyPost_ret (results_pair (b := w.heap.size + 1) (t := leaf 0 ⟨#[]⟩ ⟨#[]⟩ 0) (q := none) (cap := 0) rfl _ _ (.iface 105 (.pointer (some ⟨k, 0, none⟩))) ⟨by rfl, by rfl⟩ h6) rfl ⟨⟨k, rfl, (K5.out.keep A5.out).keep hB6⟩, set6_below (B5.out.trans (A5.out.mono B5.out.size)) (by omega) _ _ _ _ _ _⟩
set_option maxRecDepth 100000 in
set_option maxHeartbeats 16000000 in
theorem rule_gok (t : Tm) (p : Option Addr) (c : Nat) (w : World) (hT : TmAt w t p) (hg : Good t) (hU : Utf w) (hn : nodes t ≤ 4000) (hhi : ¬ 4611686018427387905 < aboveT t) (g : Tm) (m : Int) (hmd : madeP (ruleP t (aboveT t)) = .ok g m) :
    Calls Tryz.prog 14 #[t.val p c] w fun x w' => (∃ q c', x = .returned (.tuple #[.agg #[.int .i64 g.kind, .string g.name, .string g.num, .int .u64 g.bits, .int .i64 g.var, .slice q g.args.length c'], .nilIface]) ∧ TmAt w' g q) ∧ Below w.heap.size w w' := by
  obtain ⟨W0, hW0⟩ : ∃ W0, W0 = (w.alloc (tobj t p c)).alloc (.cells #[.int .i64 0, .string ⟨#[]⟩, .string ⟨#[]⟩, .int .u64 0, .int .i64 0, .slice none 0 0] 25) := ⟨_, rfl⟩
  have B0 := hid (show Below w.heap.size w W0 by rw [hW0]; exact ((Below.refl w.heap.size w).alloc (Nat.le_refl _) _).alloc (by simp) _)
  have e0 := hid (show W0.heap[w.heap.size]? = some (tobj t p c) by rw [hW0]; exact (heap_alloc_old (w.alloc _) _ (by simp)).trans (heap_alloc_new w _))
  have R0 := hid (show W0.heap[w.heap.size + 1]? = some (.cells #[.int .i64 0, .string ⟨#[]⟩, .string ⟨#[]⟩, .int .u64 0, .int .i64 0, .slice none 0 0] 25 (0, 0)) by rw [hW0]; have h := heap_alloc_new (w.alloc (tobj t p c)) (.cells #[.int .i64 0, .string ⟨#[]⟩, .string ⟨#[]⟩, .int .u64 0, .int .i64 0, .slice none 0 0] 25); rw [World.size_alloc] at h; exact h)
  obtain ⟨W1, hW1⟩ : ∃ W1, W1 = W0.alloc (.cells #[.int .i64 t.kind, .string t.name, .string t.num, .int .u64 t.bits, .int .i64 t.var, .slice p t.args.length c] 25) := ⟨_, rfl⟩
  have D1 := hid (show Below W0.heap.size W0 W1 by rw [hW1]; exact (Below.refl _ _).alloc (Nat.le_refl _) _)
  have B1 := hid (B0.out.trans (D1.out.mono B0.out.size))
  have hL1 : ListAt W1 [t] (some ⟨W0.heap.size, 0, none⟩) := .inr ⟨W0.heap.size, 0, rfl, by
    unfold RowT RowT
    exact ⟨⟨p, c, six_of (show W1.heap[W0.heap.size]? = some (tobj t p c) by rw [hW1]; exact heap_alloc_new W0 _), hT.keep B1.out⟩, trivial⟩⟩
  have hck := hg.check hn
  obtain ⟨L, hL⟩ : ∃ L, L = varsT t [] := ⟨_, rfl⟩
  have hab : aboveT t = aboveL L := by rw [hL]; rfl
  have hmem : ∀ x ∈ L, 0 ≤ x ∧ x ≤ 9223372036854775807 := fun x hx => by
    rw [hL, mem_varsT] at hx
    rcases hx with hx | hx
    · cases hx
    · exact occ_range (nodes t) t x (Nat.le_refl _) hg hx
  have hll : L.length ≤ 4000 := by
    have := varsR_length [t] []
    rw [vars_one, ← hL] at this
    simp [nodesL] at this
    omega
  have CV := hid (show Calls Tryz.prog 49 #[.slice (some ⟨W0.heap.size, 0, none⟩) 1 1] W1 fun x w' => ∃ q c', x = .returned (.tuple #[.slice q L.length c', .int .i64 0]) ∧ (∀ k (h : k < L.length), ∃ g, q = some ⟨g, 0, none⟩ ∧ w'.cell? ⟨g, k, none⟩ = some (.int .i64 L[k])) ∧ Below W1.heap.size W1 w' from by
    have hh := variables_good vName numOk bitsOk DomA [t] _ 1 W1 (by unfold maxLen; simp) hL1 (oracleA W1 (hU.keep B1.out)) (by unfold AllR AllR; exact ⟨hg.1, trivial⟩) (by rw [checks_one]; exact hck) (AllR.varOk (by unfold AllR AllR; exact ⟨hg.1, trivial⟩)) (by simp [nodesL]; omega)
    rw [vars_one, ← hL] at hh
    refine hh.mono fun x w' ⟨v, e1, e2, e3⟩ => ?_
    obtain ⟨q, c', rfl⟩ := rowI_form e2
    refine ⟨q, c', e1, fun k hk => ?_, e3⟩
    rcases e2.2 with ⟨-, hz⟩ | ⟨g, cap, cur, hv, _⟩
    · omega
    · injection hv with hq _ _
      refine ⟨g, hq, ?_⟩
      have hc := e2.cells (g := g) (by rw [hq]; rfl) k (.int .i64 L[k]) (by simp [ints, hk])
      rwa [add_plain, Nat.zero_add] at hc)
  have HHI := hid hhi
  have GR := hid (show Good g from by
    have h0 : 0 ≤ aboveT t := aboveL_nonneg _
    unfold madeP at hmd
    split at hmd
    · cases hmd
    · rename_i g' m' hp
      split at hmd
      · injection hmd with h1 h2
        subst h1 h2
        exact (rule_clause hg h0 (by omega) hp).1
      · cases hmd)
  have CM := hid (show ∀ W G, G + 1 = aboveT t → Below w.heap.size w W → W.heap[w.heap.size]? = some (tobj t p c) → Calls Tryz.prog 50 #[.int .i64 (G + 1), .func (.func 51) #[] #[.pointer (some ⟨w.heap.size, 0, none⟩)]] W fun x w' => (∃ q c', x = .returned (.tuple #[.agg #[.int .i64 g.kind, .string g.name, .string g.num, .int .u64 g.bits, .int .i64 g.var, .slice q g.args.length c'], .int .i64 m, .nilIface]) ∧ TmAt w' g q) ∧ Below W.heap.size W w' from fun W G h1 h2 h3 => by
    have hh := madeR_any t p c w.heap.size (G + 1) W h3 (hT.keep h2) hg (hU.keep h2) hn (by have := aboveL_nonneg (varsT t []); rw [h1]; exact this) (by omega)
    rw [h1, hmd] at hh
    rw [h1]
    exact hh)
  unfold tobj at hW0
  unfold Tm.val
  have HG := hid hg
  have hnn : (0 : Int) ≤ aboveL L := aboveL_nonneg L
  have HAB := hid hab
  have HMEM := hid hmem
  have hlz : (L.length : Int) ≤ 4000 := by omega
  clear hT hg hU hn hL1 hck hL hab hmem hhi hmd
  go_enter Tryz.func14, Tryz.ntmps14
  go_upto_region 1 with fail
  rw [← hW0]
  clear hW0
  obtain ⟨a0, a1, a2, a3, a4, a5⟩ := six_of e0.out
  go_wp2_with (first
    | (go_at_call 49; rw [← hW1]; (with_reducible refine CV.out.mono ?_); rintro x w4 ⟨q, c', rfl, hcl, hb4⟩; have CL := hid hcl; have B4 := hid (B1.out.trans (hb4.mono B1.out.size)); have E4 := hid (obj_keep (obj_keep e0.out D1.out) hb4); have R4 := hid (obj_keep (obj_keep R0.out D1.out) hb4); clear hb4 hW1 hcl a0 a1 a2 a3 a4 a5)
    | fail)
  go_loop [6, 25] (fun g i => ∃ (k : Nat) (G : Int), k ≤ L.length ∧ i = .int .i64 (k : Int) ∧ g = .int .i64 G ∧ Hid (G + 1 = aboveL (L.take k))) (fun _ i => L.length - (intOf i).toNat)
  case atStart => exact ⟨0, -1, Nat.zero_le _, rfl, rfl, hid rfl⟩
  case round =>
    obtain ⟨k, G, hk, rfl, rfl, HGR⟩ := hrel
    by_cases hlt : k < L.length
    · obtain ⟨g, rfl, hcell⟩ := CL.out k hlt
      have hkz : (0 : Int) ≤ (k : Int) := by omega
      have hkl : (k : Int) < (L.length : Int) := by omega
      have htk : L.take (k + 1) = L.take k ++ [L[k]] := List.take_succ_eq_append_getElem hlt
      have HST := hid (show aboveL (L.take (k + 1)) = max (aboveL (L.take k)) (L[k] + 1) by rw [htk, aboveL_snoc])
      have hmx := HMEM.out L[k] (List.getElem_mem hlt)
      generalize L[k] = x at *
      clear htk
      go_wp2
      go_round
      case rel => exact ⟨k + 1, max G x, by omega, by go_num, rfl, hid (by rw [HST.out, ← HGR.out]; omega)⟩
      case measure => simp [intOf]; omega
    · obtain rfl : k = L.length := by omega
      have HGE := hid (show G + 1 = aboveL L by have h := HGR.out; rwa [List.take_length] at h)
      have hG0 : -1 ≤ G := by have := HGE.out; omega
      clear HGR hlt hk
      have hgt : decide (G > 4611686018427387904) = false := by have := HGE.out; have := HAB.out; have := HHI.out; simp; omega
      have hgt2 : ¬ 4611686018427387904 < G := by simpa using hgt
      have hmf : ∀ (fn : Fn) (first cap : Array Value) (w : World), (Instr.makeFunc fn first cap).run Tryz.prog w = .ok (.func fn first cap) w := fun _ _ _ _ => rfl
      go_wp2_with (first
        | (go_at_call 50; (with_reducible refine (CM.out _ _ (by rw [HGE.out, HAB.out]) B4.out E4.out).mono ?_); rintro x w5 ⟨⟨q5, c5, rfl, hm⟩, hb5⟩; have M5 := hid hm; have B5 := hid (B4.out.trans (hb5.mono B4.out.size)); have A5 := hid (show Below w5.heap.size w5 (w5.alloc (.cells #[.int .i64 g.kind, .string g.name, .string g.num, .int .u64 g.bits, .int .i64 g.var, .slice q5 g.args.length c5] 25)) from (Below.refl _ _).alloc (Nat.le_refl _) _); have R5 := hid (obj_keep (obj_keep R4.out hb5) A5.out); clear hb5 hm; obtain ⟨⟨z0, z1, z2, z3, z4, z5⟩, ⟨f0, f1, f2, f3, f4, f5⟩⟩ := six_free R5.out)
        | fail)
      have h6 := set6 R5.out (.int .i64 g.kind) (.string g.name) (.string g.num) (.int .u64 g.bits) (.int .i64 g.var) (.slice q5 g.args.length c5)
      have hgr := set6_grown (w5.alloc (.cells #[.int .i64 g.kind, .string g.name, .string g.num, .int .u64 g.bits, .int .i64 g.var, .slice q5 g.args.length c5] 25)) (w.heap.size + 1) (.int .i64 g.kind) (.string g.name) (.string g.num) (.int .u64 g.bits) (.int .i64 g.var) (.slice q5 g.args.length c5)
      have hm' := TmAt.past (b := w.heap.size + 1) (t := g) (p := q5) (show Blank _ (w.heap.size + 1) from R5.out) (Past.grown hgr) GR.out (M5.out.keep A5.out)
      exact bodyPost_ret (results_pair (b := w.heap.size + 1) (t := g) (q := q5) (cap := c5) rfl _ _ .nilIface ⟨by rfl, by rfl⟩ h6) rfl ⟨⟨q5, c5, rfl, hm'⟩, set6_below (B5.out.trans (A5.out.mono B5.out.size)) (by omega) _ _ _ _ _ _⟩
end Go.Proofs.YtiaddfedaikaiaaGreatDoor
