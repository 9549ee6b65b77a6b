/- For every input the law DcgFresh answers true and leaves its arguments alone: no condition on the arguments; the package-level tables that its row lists are tied to the program's text by the given tie. -/
import Derived.Test.YtiaddfedaikaiaaGreatDoorD40m
import Derived.Deep.DeepWitnessRowRef
namespace Go.Proofs.YtiaddfedaikaiaaGreatDoor
open Go.RowKit

theorem vars_of (t : Tm) (p : Option Addr) (c : Nat) (w : World) (hT : TmAt w t p) (hn : nodes t ≤ 1000000) :
    Calls Tryz.prog 28 #[.agg #[.int .i64 t.kind, .string t.name, .string t.num, .int .u64 t.bits, .int .i64 t.var, .slice p t.args.length c], .slice none 0 0] w fun x w' => ∃ q c', x = .returned (.slice q (varsT t []).length c') ∧ w'.ownsRow w.heap.size 3 1 (.slice q (varsT t []).length c') (varsT t []).length (ints (varsT t [])) ∧ Below w.heap.size w w' :=
  (vars_any w (nodes t) t p c [] none 0 w (Nat.le_refl _) hT (Below.refl _ _) (World.ownsRow_nil _ _ _ _) (by simp; omega)).mono fun x w' ⟨q, c', a, b, d, _⟩ => ⟨q, c', a, b, d⟩
theorem varsT_len (t : Tm) : (varsT t []).length ≤ nodes t := by
  have := varsR_length [t] []
  rw [vars_one] at this
  simpa [nodesL] using this
set_option maxRecDepth 100000 in
set_option maxHeartbeats 8000000 in
theorem aboveR_any (t : Tm) (p : Option Addr) (c : Nat) (w : World) (hT : TmAt w t p) (hn : nodes t ≤ 1000000) (hv : ∀ x, occT t x → 0 ≤ x ∧ x ≤ 9223372036854775806) :
    Calls Tryz.prog 25 #[.agg #[.int .i64 t.kind, .string t.name, .string t.num, .int .u64 t.bits, .int .i64 t.var, .slice p t.args.length c]] w fun x w' => x = .returned (.int .i64 (aboveT t)) ∧ Below w.heap.size w w' := by
  obtain ⟨W0, hW0⟩ : ∃ W0, W0 = w.alloc (.cells #[.int .i64 t.kind, .string t.name, .string t.num, .int .u64 t.bits, .int .i64 t.var, .slice p t.args.length c] 25) := ⟨_, rfl⟩
  have B0 := hid (show Below w.heap.size w W0 by rw [hW0]; exact (Below.refl w.heap.size w).alloc (Nat.le_refl _) _)
  have e0 := hid (show W0.heap[w.heap.size]? = some (tobj t p c) by rw [hW0]; exact heap_alloc_new w _)
  obtain ⟨L, hL⟩ : ∃ L, L = varsT t [] := ⟨_, rfl⟩
  have hll := varsT_len t
  have CV := hid (vars_of t p c W0 (hT.keep B0.out) hn)
  have HMEM := hid (show ∀ x ∈ L, 0 ≤ x ∧ x ≤ 9223372036854775806 from fun x hx => by
    rw [hL, mem_varsT] at hx
    rcases hx with hx | hx
    · cases hx
    · exact hv x hx)
  rw [← hL] at CV hll
  have HAB := hid (show aboveT t = aboveL L by rw [hL]; rfl)
  have hlz : (L.length : Int) ≤ 1000000 := by omega
  clear hT hn hv hL hll
  go_enter Tryz.func25, Tryz.ntmps25
  go_upto_region 1 with fail
  rw [← hW0]
  clear hW0
  obtain ⟨a0, a1, a2, a3, a4, a5⟩ := six_of e0.out
  go_wp2_with (first
    | (go_at_call 28; (with_reducible refine CV.out.mono ?_); rintro x w4 ⟨q, c', rfl, hr, hb4⟩; have RR := hid hr; have B4 := hid (B0.out.trans (hb4.mono B0.out.size)); clear hb4 hr a0 a1 a2 a3 a4 a5)
    | fail)
  go_loop [3, 5] (fun g i => ∃ (k : Nat) (G : Int), k ≤ L.length ∧ i = .int .i64 (k : Int) ∧ g = .int .i64 G ∧ Hid (G = aboveL (L.take k))) (fun _ i => L.length - (intOf i).toNat)
  case atStart => exact ⟨0, 0, Nat.zero_le _, rfl, rfl, hid rfl⟩
  case round =>
    obtain ⟨k, G, hk, rfl, rfl, HGR⟩ := hrel
    by_cases hlt : k < L.length
    · obtain ⟨g, rfl, hcell⟩ := rowI_get RR.out rfl k hlt
      have hkz : (0 : Int) ≤ (k : Int) := by omega
      have hkl : (k : Int) < (L.length : Int) := by omega
      have htk : L.take (k + 1) = L.take k ++ [L[k]] := List.take_succ_eq_append_getElem hlt
      have HST := hid (show aboveL (L.take (k + 1)) = max (aboveL (L.take k)) (L[k] + 1) by rw [htk, aboveL_snoc])
      have hmx := HMEM.out L[k] (List.getElem_mem hlt)
      generalize L[k] = x at *
      clear htk
      go_wp2
      go_round
      case rel => exact ⟨k + 1, max G (x + 1), by omega, by go_num, rfl, hid (by rw [HST.out, ← HGR.out])⟩
      case measure => simp [intOf]; omega
    · obtain rfl : k = L.length := by omega
      have HGE := hid (show G = aboveT t by have h := HGR.out; rw [List.take_length] at h; rw [HAB.out]; exact h)
      clear HGR hlt hk
      go_wp2
      go_ret
      exact ⟨ret_int HGE.out, B4.out⟩
end Go.Proofs.YtiaddfedaikaiaaGreatDoor

namespace Go.Proofs.YtiaddfedaikaiaaGreatDoor
open Go.RowKit

set_option maxRecDepth 100000 in
set_option maxHeartbeats 8000000 in
theorem fresh_err (t : Tm) (p : Option Addr) (c : Nat) (w : World) (hU : Utf w) (CRx : ∀ W, Below w.heap.size w W → Calls Tryz.prog 14 #[.agg #[.int .i64 t.kind, .string t.name, .string t.num, .int .u64 t.bits, .int .i64 t.var, .slice p t.args.length c]] W fun x w' => ∃ ty v, x = .returned (.tuple #[.agg #[.int .i64 0, .string ⟨#[]⟩, .string ⟨#[]⟩, .int .u64 0, .int .i64 0, .slice none 0 0], .iface ty v]) ∧ Below W.heap.size W w') :
    Calls Tryz.prog 6 #[t.val p c] w fun x w' => x = .returned (.bool true) ∧ Below w.heap.size w w' := by
  obtain ⟨W0, hW0⟩ : ∃ W0, W0 = w.alloc (.cells #[.int .i64 t.kind, .string t.name, .string t.num, .int .u64 t.bits, .int .i64 t.var, .slice p t.args.length c] 25) := ⟨_, rfl⟩
  have B0 := hid (show Below w.heap.size w W0 by rw [hW0]; exact (Below.refl w.heap.size w).alloc (Nat.le_refl _) _)
  have e0 := hid (show W0.heap[w.heap.size]? = some (tobj t p c) by rw [hW0]; exact heap_alloc_new w _)
  have AW := hid (lawAwake W0 (hU.keep B0.out))
  have CR := hid CRx
  unfold Tm.val
  clear hU CRx
  go_enter Tryz.func6, Tryz.ntmps6
  go_upto_region 1 with fail
  rw [← hW0]
  clear hW0
  go_wp2_with (first
    | (go_at_call 12; (with_reducible refine AW.out.mono ?_); rintro x w1 ⟨rfl, hb1⟩; have B1 := hid (B0.out.trans (hb1.mono B0.out.size)); have E1 := hid (obj_keep e0.out hb1); clear hb1; obtain ⟨a0, a1, a2, a3, a4, a5⟩ := six_of E1.out)
    | (go_at_call 14; (with_reducible refine (CR.out _ B1.out).mono ?_); rintro x w2 ⟨ty, v, rfl, hb2⟩; have B2 := hid (B1.out.trans (hb2.mono B1.out.size)); have A2 := hid (show Below w2.heap.size w2 (w2.alloc (.cells #[.int .i64 0, .string ⟨#[]⟩, .string ⟨#[]⟩, .int .u64 0, .int .i64 0, .slice none 0 0] 25)) from (Below.refl _ _).alloc (Nat.le_refl _) _); clear hb2)
    | fail)
  go_ret
  exact ⟨rfl, B2.out.trans (A2.out.mono B2.out.size)⟩
/-- The greatest of some numbers and one more, by aboveL. -/
theorem above_is {L : List Int} {n m : Int} (h0 : 0 ≤ n) (h1 : n < m) (h : ∀ x, x ∈ L → x < m) (hm : m - 1 ∈ L) : max (n + 1) (aboveL L) = m := by
  have a := aboveL_le L m (by omega) h
  have b := aboveL_lt L (m - 1) hm
  omega
set_option maxRecDepth 100000 in
set_option maxHeartbeats 32000000 in
theorem fresh_ok (t : Tm) (p : Option Addr) (c : Nat) (w : World) (hU : Utf w) (hT : TmAt w t p) (hg : Good t) (hn : nodes t ≤ 4000) (hhi : ¬ 4611686018427387905 < aboveT t) (g : Tm) (m : Int) (hmd : madeP (ruleP t (aboveT t)) = .ok g m) :
    Calls Tryz.prog 6 #[t.val p c] w fun x w' => x = .returned (.bool true) ∧ Below w.heap.size w w' := by
  obtain ⟨W0, hW0⟩ : ∃ W0, W0 = w.alloc (.cells #[.int .i64 t.kind, .string t.name, .string t.num, .int .u64 t.bits, .int .i64 t.var, .slice p t.args.length c] 25) := ⟨_, rfl⟩
  have B0 := hid (show Below w.heap.size w W0 by rw [hW0]; exact (Below.refl w.heap.size w).alloc (Nat.le_refl _) _)
  have e0 := hid (show W0.heap[w.heap.size]? = some (tobj t p c) by rw [hW0]; exact heap_alloc_new w _)
  have AW := hid (lawAwake W0 (hU.keep B0.out))
  have h0 : 0 ≤ aboveT t := aboveL_nonneg _
  have hrp : ruleP t (aboveT t) = .ok g m ∧ nodes g ≤ 4000 := by
    unfold madeP at hmd
    split at hmd
    · cases hmd
    · rename_i g' m' hp
      split at hmd
      · injection hmd with h1 h2
        subst h1 h2
        exact ⟨hp, ‹_›⟩
      · cases hmd
  obtain ⟨gg, hm1, hm2, ⟨ga, gb, hgab, hga⟩, hocc⟩ := rule_clause hg h0 (by omega) hrp.1
  have CR := hid (show ∀ W, Below w.heap.size w W → Calls Tryz.prog 14 #[.agg #[.int .i64 t.kind, .string t.name, .string t.num, .int .u64 t.bits, .int .i64 t.var, .slice p t.args.length c]] W fun x w' => (∃ q c', x = .returned (.tuple #[.agg #[.int .i64 g.kind, .string g.name, .string g.num, .int .u64 g.bits, .int .i64 g.var, .slice q g.args.length c'], .nilIface]) ∧ TmAt w' g q) ∧ Below W.heap.size W w' from fun W h => rule_gok t p c W (hT.keep h) hg (hU.keep h) hn hhi g m hmd)
  have hup : ∀ x, occT t x → 0 ≤ x ∧ x ≤ 9223372036854775806 := fun x hx => by
    have a := occ_range (nodes t) t x (Nat.le_refl _) hg hx
    have b := occ_above hx
    exact ⟨a.1, by omega⟩
  have CA := hid (show ∀ W, Below w.heap.size w W → Calls Tryz.prog 25 #[.agg #[.int .i64 t.kind, .string t.name, .string t.num, .int .u64 t.bits, .int .i64 t.var, .slice p t.args.length c]] W fun x w' => x = .returned (.int .i64 (aboveT t)) ∧ Below W.heap.size W w' from fun W h => aboveR_any t p c W (hT.keep h) (by omega) hup)
  obtain ⟨LT, hLT⟩ : ∃ LT, LT = varsT t [] := ⟨_, rfl⟩
  obtain ⟨LG, hLG⟩ : ∃ LG, LG = varsT g [] := ⟨_, rfl⟩
  have CVT := hid (show ∀ W, Below w.heap.size w W → Calls Tryz.prog 28 #[.agg #[.int .i64 t.kind, .string t.name, .string t.num, .int .u64 t.bits, .int .i64 t.var, .slice p t.args.length c], .slice none 0 0] W fun x w' => ∃ q c', x = .returned (.slice q LT.length c') ∧ w'.ownsRow W.heap.size 3 1 (.slice q LT.length c') LT.length (ints LT) ∧ Below W.heap.size W w' from fun W h => by
    rw [hLT]
    exact vars_of t p c W (hT.keep h) (by omega))
  have CVG := hid (show ∀ W q c, TmAt W g q → Calls Tryz.prog 28 #[.agg #[.int .i64 g.kind, .string g.name, .string g.num, .int .u64 g.bits, .int .i64 g.var, .slice q g.args.length c], .slice none 0 0] W fun x w' => ∃ q c', x = .returned (.slice q LG.length c') ∧ w'.ownsRow W.heap.size 3 1 (.slice q LG.length c') LG.length (ints LG) ∧ Below W.heap.size W w' from fun W q c h => by
    rw [hLG]
    exact vars_of g q c W h (by omega))
  have hlt := varsT_len t
  have hlg := varsT_len g
  rw [← hLT] at hlt
  rw [← hLG] at hlg
  have hin : ∀ x, x ∈ LG ↔ occT g x := fun x => by rw [hLG, mem_varsT]; simp
  have hit : ∀ x, x ∈ LT ↔ occT t x := fun x => by rw [hLT, mem_varsT]; simp
  obtain ⟨n, hnn⟩ : ∃ n, n = aboveT t := ⟨_, rfl⟩
  rw [← hnn] at CA h0 hhi hm1 hm2 hocc
  have HOLD := hid (show ∀ x, x ∈ LG → x < n → decide (x ∈ LT) = true from fun x hx hlt => by
    rw [decide_eq_true_eq, hit]
    rcases (hocc x).1 ((hin x).1 hx) with h | h
    · exact h
    · omega)
  have HNEW := hid (show ∀ x, n ≤ x → x < m → decide (x ∈ LG) = true from fun x h1 h2 => by
    rw [decide_eq_true_eq, hin]
    exact (hocc x).2 (.inr ⟨h1, h2⟩))
  have HTOP := hid (show max (n + 1) (aboveL LG) = m from above_is h0 (by omega) (fun x hx => by
    rcases (hocc x).1 ((hin x).1 hx) with h | h
    · have := occ_above h
      omega
    · exact h.2) ((hin _).2 ((hocc _).2 (.inr ⟨by omega, by omega⟩))))
  have HRNG := hid (show ∀ x, x ∈ LG → 0 ≤ x ∧ x ≤ 9223372036854775806 from fun x hx => by
    rcases (hocc x).1 ((hin x).1 hx) with h | h
    · exact hup x h
    · omega)
  have CI := hid (show ∀ (S : List Int) (q : Option Addr) (c : Nat) (x : Int) (base : Nat) (W : World), W.ownsRow base 3 1 (.slice q S.length c) S.length (ints S) → S.length ≤ 4000 → Calls Tryz.prog 29 #[.slice q S.length c, .int .i64 x] W fun e w' => e = .returned (.bool (decide (x ∈ S))) ∧ Below W.heap.size W w' from fun S q c x base W h1 h2 => in_any S q c x base W h1 (by omega))
  have hlt2 : LT.length ≤ 4000 := by omega
  have hlg2 : LG.length ≤ 4000 := by omega
  have hlgz : (LG.length : Int) ≤ 4000 := by omega
  have hmz : m ≤ 4611686018427399999 := by omega
  have hnz : n ≤ 4611686018427387905 := by omega
  have hmn : n + 2 ≤ m := hm1
  have HNM := hid (show g.name = ⟨#[58, 45]⟩ by rw [hgab]; rfl)
  have HLN := hid (show g.args.length = 2 by rw [hgab]; rfl)
  have HA0 := hid (show ∀ (h : 0 < g.args.length), 2 ≤ (g.args[0]).args.length from fun h => by subst hgab; exact hga)
  unfold Tm.val
  clear hU hT hg hn hhi hmd hrp gg hm1 hm2 hocc hup hgab hga hLT hLG hin hit hnn hlt hlg
  go_enter Tryz.func6, Tryz.ntmps6
  go_upto_region 1 with fail
  rw [← hW0]
  clear hW0
  go_upto_region 8 with (first
    | (go_at_call 12; (with_reducible refine AW.out.mono ?_); rintro x w1 ⟨rfl, hb1⟩; have B1 := hid (B0.out.trans (hb1.mono B0.out.size)); have E1 := hid (obj_keep e0.out hb1); clear hb1; obtain ⟨a0, a1, a2, a3, a4, a5⟩ := six_of E1.out)
    | (go_at_call 14; (with_reducible refine (CR.out _ B1.out).mono ?_); rintro x w2 ⟨⟨q2, c2, rfl, hm2⟩, hb2⟩; have B2 := hid (B1.out.trans (hb2.mono B1.out.size)); have A2 := hid (show Below w2.heap.size w2 (w2.alloc (.cells #[.int .i64 g.kind, .string g.name, .string g.num, .int .u64 g.bits, .int .i64 g.var, .slice q2 g.args.length c2] 25)) from (Below.refl _ _).alloc (Nat.le_refl _) _); have O2 := hid (show (w2.alloc (.cells #[.int .i64 g.kind, .string g.name, .string g.num, .int .u64 g.bits, .int .i64 g.var, .slice q2 g.args.length c2] 25)).heap[w2.heap.size]? = some (tobj g q2 c2) from heap_alloc_new w2 _); have E2 := hid (obj_keep (obj_keep E1.out hb2) A2.out); have M2 := hid (hm2.keep A2.out); have BA := hid (B2.out.trans (A2.out.mono B2.out.size)); clear hb2 hm2 a0 a1 a2 a3 a4 a5; obtain ⟨a0, a1, a2, a3, a4, a5⟩ := six_of E2.out)
    | (go_at_call 25; (with_reducible refine (CA.out _ BA.out).mono ?_); rintro x w3 ⟨rfl, hb3⟩; have B3 := hid (BA.out.trans (hb3.mono BA.out.size)); have O3 := hid (obj_keep O2.out hb3); have M3 := hid (M2.out.keep hb3); have E3 := hid (obj_keep E2.out hb3); clear hb3 a0 a1 a2 a3 a4 a5; obtain ⟨a0, a1, a2, a3, a4, a5⟩ := six_of E3.out)
    | (go_at_call 28; have tok := B3; (with_reducible refine (CVT.out _ B3.out).mono ?_); rintro x w4 ⟨q4, c4, rfl, hr, hb4⟩; have B4 := hid (B3.out.trans (hb4.mono B3.out.size)); have RT := hid hr; have O4 := hid (obj_keep O3.out hb4); have M4 := hid (M3.out.keep hb4); clear hb4 hr B3 tok a0 a1 a2 a3 a4 a5; obtain ⟨a0, a1, a2, a3, a4, a5⟩ := six_of O4.out)
    | (go_at_call 28; have tok := B4; (with_reducible refine (CVG.out _ _ _ M4.out).mono ?_); rintro x w5 ⟨q5, c5, rfl, hr, hb5⟩; have B5 := hid (B4.out.trans (hb5.mono B4.out.size)); have RG := hid hr; have RT := hid (row_keep RT.out hb5); have O5 := hid (obj_keep O4.out hb5); have M5 := hid (M4.out.keep hb5); clear hb5 hr tok a0 a1 a2 a3 a4 a5)
    | fail)
  clear CR CA CVT CVG AW
  have BW := hid (Below.refl w5.heap.size w5)
  go_wp2_with fail
  go_loopw [9, 10] (fun g i wr => ∃ (k : Nat) (G : Int), k ≤ LG.length ∧ i = .int .i64 (k : Int) ∧ g = .int .i64 G ∧ Hid (G + 1 = max (n + 1) (aboveL (LG.take k))) ∧ Hid (Below w5.heap.size w5 wr)) (fun _ i _ => LG.length - (intOf i).toNat)
  case atStart => exact ⟨0, n, Nat.zero_le _, rfl, rfl, hid (by simp [aboveL]; omega), BW⟩
  case round =>
    clear BW
    obtain ⟨k, G, hk, rfl, rfl, HGR, hBr⟩ := hrel
    by_cases hlt : k < LG.length
    · obtain ⟨g1, rfl, y1⟩ := rowI_get (row_keep RG.out hBr.out) rfl k hlt
      have hkz : (0 : Int) ≤ (k : Int) := by omega
      have hkl : (k : Int) < (LG.length : Int) := by omega
      have htk : LG.take (k + 1) = LG.take k ++ [LG[k]] := List.take_succ_eq_append_getElem hlt
      have HST := hid (show aboveL (LG.take (k + 1)) = max (aboveL (LG.take k)) (LG[k] + 1) by rw [htk, aboveL_snoc])
      have hmx := HRNG.out LG[k] (List.getElem_mem hlt)
      have hox := HOLD.out LG[k] (List.getElem_mem hlt)
      have CX0 := fun (W : World) (h : Below wr.heap.size wr W) => CI.out LT q4 c4 LG[k] _ W (row_keep RT.out (hBr.out.trans (h.mono hBr.out.size))) hlt2
      generalize LG[k] = x at *
      clear htk
      by_cases hxn : x < n
      · have hb1 : decide (x < n) = true := by simpa using hxn
        have CX := hid (show ∀ W, Below wr.heap.size wr W → Calls Tryz.prog 29 #[.slice q4 LT.length c4, .int .i64 x] W fun e w' => e = .returned (.bool true) ∧ Below W.heap.size W w' from fun W h => by
          have hh := CX0 W h
          rwa [hox hxn] at hh)
        clear CX0 hox
        go_wp2_with (first
          | (go_at_call 29; (with_reducible refine (CX.out _ (Below.refl _ _)).mono ?_); rintro x w6 ⟨rfl, hb6⟩; have B6 := hid (hBr.out.trans (hb6.mono hBr.out.size)); have y6 := heap_cell_keep hb6 y1; clear hb6)
          | fail)
        go_roundw
        case rel => exact ⟨k + 1, max G x, by omega, by go_num, rfl, hid (by rw [HST.out]; have := HGR.out; omega), B6⟩
        case measure => simp [intOf]; omega
      · have hb1 : decide (x < n) = false := by simpa using hxn
        obtain ⟨bb, hbb⟩ : ∃ bb, bb = decide (x ∈ LT) := ⟨_, rfl⟩
        rw [← hbb] at CX0
        have CX := hid CX0
        clear CX0 hox hbb
        go_wp2_with (first
          | (go_at_call 29; (with_reducible refine (CX.out _ (Below.refl _ _)).mono ?_); rintro x w6 ⟨rfl, hb6⟩; have B6 := hid (hBr.out.trans (hb6.mono hBr.out.size)); have y6 := heap_cell_keep hb6 y1; clear hb6)
          | fail)
        go_roundw
        case rel => exact ⟨k + 1, max G x, by omega, by go_num, rfl, hid (by rw [HST.out]; have := HGR.out; omega), B6⟩
        case measure => simp [intOf]; omega
    · obtain rfl : k = LG.length := by omega
      obtain rfl : G = m - 1 := by have h := HGR.out; rw [List.take_length, HTOP.out] at h; omega
      clear HGR hlt hk
      go_wp2_with fail
      generalize wr = wx at *
      have BX := hid (Below.refl wx.heap.size wx)
      go_loopw [12] (fun i wy => ∃ k : Int, n ≤ k ∧ k ≤ m ∧ i = .int .i64 k ∧ Hid (Below wx.heap.size wx wy)) (fun i _ => (m - intOf i).toNat)
      case atStart => exact ⟨n, by omega, by omega, rfl, BX⟩
      case round =>
        clear BX
        obtain ⟨k, hk1, hk2, rfl, hBy⟩ := hrel
        by_cases hlt : k < m
        · have hle : decide (k ≤ m - 1) = true := by simp; omega
          have hle2 : k ≤ m - 1 := by omega
          have hd := HNEW.out k hk1 hlt
          have CX := hid (show ∀ W, Below wr.heap.size wr W → Calls Tryz.prog 29 #[.slice q5 LG.length c5, .int .i64 k] W fun e w' => e = .returned (.bool true) ∧ Below W.heap.size W w' from fun W h => by
            have hb1 := hBy.out.trans (h.mono hBy.out.size)
            have hh := CI.out LG q5 c5 k _ W (row_keep RG.out (hBr.out.trans (hb1.mono hBr.out.size))) hlg2
            rwa [hd] at hh)
          clear hd
          go_wp2_with (first
            | (go_at_call 29; (with_reducible refine (CX.out _ (Below.refl _ _)).mono ?_); rintro x w7 ⟨rfl, hb7⟩; have B7 := hid (hBy.out.trans (hb7.mono hBy.out.size)); clear hb7)
            | fail)
          go_roundw
          case rel => exact ⟨k + 1, by omega, by omega, by go_num, B7⟩
          case measure => simp [intOf]; omega
        · obtain rfl : k = m := by omega
          have hle : decide (k ≤ k - 1) = false := by simp; omega
          have hle2 : ¬ k ≤ k - 1 := by omega
          have hgt : decide (k - 1 > n) = true := by simp; omega
          have hgt2 : n < k - 1 := by omega
          have DD := hBr.out.trans (hBy.out.mono hBr.out.size)
          have O7 := obj_keep O5.out DD
          have M7 := M5.out.keep DD
          obtain ⟨b0, o0, rfl, pa, ca, hs, -⟩ := M7.get 0 (by have := HLN.out; omega)
          have hl0 := HA0.out (by have := HLN.out; omega)
          generalize (g.args[0]'(by have := HLN.out; omega)) = ga at *
          obtain ⟨a0, a1, a2, a3, a4, a5⟩ := six_of O7
          have s5 := hs.c5
          rw [Nat.zero_mul, Nat.add_zero] at s5
          rw [HNM.out] at a1
          rw [HLN.out] at a5
          have hge : decide (ga.args.length ≥ 2) = true := by simpa using hl0
          have hge2 : decide ((ga.args.length : Int) ≥ 2) = true := by simp; omega
          have hge3 : (2 : Int) ≤ (ga.args.length : Int) := by omega
          have BE := hid (B5.out.trans (DD.mono B5.out.size))
          clear O7 M7 hs DD
          go_wp2_with fail
          go_ret
          exact ⟨rfl, BE.out⟩
end Go.Proofs.YtiaddfedaikaiaaGreatDoor

namespace Go.Proofs.YtiaddfedaikaiaaGreatDoor
open Go.RowKit

theorem fresh_yes (t : Tm) (p : Option Addr) (c : Nat) (w : World) (hU : Utf w) (hT : TmAt w t p) (hD : AllT DomA t) :
    Calls Tryz.prog 6 #[t.val p c] w fun x w' => x = .returned (.bool true) ∧ Below w.heap.size w w' := by
  by_cases he : checkErr vName numOk bitsOk t = 0
  · obtain ⟨hg, hn⟩ := good_of_check hD he
    by_cases hhi : 4611686018427387905 < aboveT t
    · exact fresh_err t p c w hU fun W h => (rule_high t p c W (hT.keep h) hg (hU.keep h) hn hhi).mono fun x w' ⟨a, b⟩ => ⟨_, _, a, b⟩
    · cases hmd : madeP (ruleP t (aboveT t)) with
      | ball bb => exact fresh_err t p c w hU fun W h => (rule_gball t p c W (hT.keep h) hg (hU.keep h) hn hhi bb hmd).mono fun x w' ⟨⟨k, a, _⟩, b⟩ => ⟨_, _, a, b⟩
      | ok g m => exact fresh_ok t p c w hU hT hg hn hhi g m hmd
  · exact fresh_err t p c w hU fun W h => (rule_bad t p c W (hT.keep h) hD (hU.keep h) he).mono fun x w' ⟨a, b⟩ => ⟨_, _, a, b⟩
end Go.Proofs.YtiaddfedaikaiaaGreatDoor

namespace Go.Proofs.YtiaddfedaikaiaaGreatDoor
open Go.ChangeShapes Go.WideShapes Go.ChangeAt Go.RowKit Go.Joins Go.ChangeMaps

theorem fresh_params : ∀ t ∈ Tryz.f6.params.toList, Tryz.prog.readableRec t = true ∧ t < Tryz.prog.types.size := by
  intro t ht
  rw [Tryz.params6] at ht
  simp at ht
  subst ht; exact readsT

set_option maxRecDepth 100000 in
theorem fresh_contract (H : Type) (enc : TypeId × Value → H) (W : World) (base : Nat) (args : Array Value) (ds gs : List (DataW H)) (before : List MemPlace)
    (hval : ∀ (j : Nat) t v, Tryz.f6.params[j]? = some t → args[j]? = some v → Value.okWide Tryz.prog W .any base t v)
    (hW : DataW.Whole enc Tryz.prog Tryz.f6.params.toList Rows.dcgFreshSpec.vars false W args.toList ds gs before) (hL : laidMet Tryz.prog theLaid W) :
    Calls Tryz.prog 6 args W fun e W' => ∃ v, e = .returned v ∧ Rows.dcgFreshSpec.post enc Tryz.prog Tryz.f6 false true false false W args v W' := by
  have hU := laid_facts hL
  have hW' := hW
  obtain ⟨p, q, hA0, hV, rfl, hfz, hnd⟩ := hW
  have hA : DataW.TrodAll enc Tryz.prog W 0 (fun _ => true) true Tryz.f6.params.toList args.toList ds p := hA0
  rw [Tryz.params6] at hA hval
  obtain ⟨v0, vs0, d0, ds0, p0, q0', hargs, rfl, rfl, h0, r0⟩ := trodAll_cons hA
  obtain ⟨rfl, rfl, rfl⟩ := trodAll_nil r0
  obtain rfl : args = #[v0] := by cases args; simp_all
  obtain ⟨t0, q0, c0, rfl, hT0, hD0⟩ := open_term (hval 0 25 v0 rfl rfl) h0
  refine (fresh_yes t0 q0 c0 W hU hT0 hD0).mono fun e W' ⟨he, hb⟩ => ⟨_, he, ?_⟩
  exact law_post fresh_params rfl rfl rfl rfl rfl hW' hb

/-- The world of the witness. -/
noncomputable def freshWorld (os : Os) : World := World.laidAll Tryz.prog os Rows.dcgFreshRow.laid
noncomputable def freshArgs : Array Value := #[.agg #[.int .i64 0, .string ByteArray.empty, .string ByteArray.empty, .int .u64 0, .int .i64 0, .slice none 0 0]]
set_option maxRecDepth 100000 in
theorem fresh_laid (os : Os) : laidMet Tryz.prog Rows.dcgFreshRow.laid ((freshWorld os).forCall (fun _ _ => 0) ⟨#[], freshArgs, []⟩).memory :=
  laidMet_laidAll _ (by kernel_rfl) (by kernel_rfl)
set_option maxRecDepth 100000 in
theorem fresh_reads (os : Os) {H : Type} (enc : TypeId × Value → H) : ∃ places, DataW.whole enc Tryz.prog ((freshWorld os).forCall (fun _ _ => 0) ⟨#[], freshArgs, []⟩).memory Tryz.f6.params.toList Rows.dcgFreshSpec.vars false freshArgs.toList 8 =
    some ([.agg [.lit (.int .i64 0), .lit (.string []), .lit (.string []), .lit (.int .u64 0), .lit (.int .i64 0), .nil]], [], places) :=
  ⟨[], by kernel_rfl⟩

set_option maxRecDepth 100000 in
theorem fresh_lifted (os : Os) (started : os.Started) (H : Type) (enc : TypeId × Value → H) (F : Stop.Interp) :
    ReturnsInHanded {} Tryz.checked os 6 .any ((OpenSpec.ofChange Rows.dcgFreshSpec).preRow enc Tryz.prog Tryz.f6 Rows.dcgFreshRow.domain false Rows.dcgFreshRow.laid) (((OpenSpec.ofChange Rows.dcgFreshSpec).at F).post enc Tryz.prog Tryz.f6 false true false false) := by
  obtain ⟨places, hx⟩ := fresh_reads os enc
  refine returnsInHanded_of_row (C := Tryz.checked) (s := OpenSpec.ofChange Rows.dcgFreshSpec) own started (by kernel_rfl) Tryz.func6
    (witness_row_atRef (enc := enc) (C := Tryz.checked) false (freshWorld os) freshArgs (World.laidAll_os _ _ _) (by kernel_rfl) (by kernel_rfl) (by kernel_rfl)
      (OpenSpec.preRow_of_cond 8 hx (by kernel_rfl) (fun k hk => by cases hk) (by kernel_rfl) (fresh_laid os))) ?_
  intro W base args ds gs before hval hW _ _ hsz hL _ _
  exact fresh_contract H enc W base args ds gs before hval hW hL

set_option maxRecDepth 100000 in
theorem fresh_said : Rows.DcgFreshSaid :=
  OpenClaim.holds_of_cond 6 Tryz.f6 rfl rfl rfl rfl rfl rfl rfl ⟨rfl, rfl, rfl, rfl, rfl⟩ rfl rfl rfl rfl rfl (by kernel_rfl) Tryz.func6 (by kernel_rfl)
    (of_decide_eq_true (by kernel_rfl)) (by unfold Func.isWrapper; first | (rw [if_pos (by decide +kernel)]; kernel_rfl) | (rw [if_neg (by decide +kernel)]; exact ⟨rfl, rfl⟩))
    (fun os started H enc _ F => by rw [OpenClaim.pre_eq_preRow]; exact fresh_lifted os started H enc F)

set_option maxRecDepth 100000 in
theorem fresh_plain (f : FuncId) (fn : Func) (hf : Tryz.pinned.checked.prog.funcNamed "hornbeam/hornbeamlaw10.DcgFresh" = some f) (hfn : Tryz.pinned.checked.prog.funcs[f]? = some fn) :
    true = Tryz.pinned.checked.prog.looks [] ∧ ∀ (j : Nat) t, fn.params[j]? = some t → Tryz.pinned.checked.prog.wantsStandIn t = false := by
  obtain rfl : f = 6 := Option.some.inj ((show Tryz.prog.funcNamed "hornbeam/hornbeamlaw10.DcgFresh" = some 6 by kernel_rfl).symm.trans hf) |>.symm
  obtain rfl : fn = Tryz.f6 := (Option.some.inj (Tryz.func6.symm.trans hfn)).symm
  refine ⟨by kernel_rfl, fun j t ht => ?_⟩
  rw [Tryz.params6] at ht
  have hm := Array.mem_of_getElem? ht
  simp at hm
  subst hm
  exact (show Tryz.prog.wantsStandIn 25 = false by kernel_rfl)

set_option maxRecDepth 100000 in
theorem fresh_card : Rows.DcgFreshCardSaid :=
  Claim7.holds_tied_plain_at .later [] _ _ _ _ fresh_said (fun _ h => by cases h) (by kernel_rfl) (fun _ h => by cases h) dcgFresh_row_tie rfl ⟨rfl, rfl⟩ (by kernel_rfl) rfl fresh_plain (by kernel_rfl)
end Go.Proofs.YtiaddfedaikaiaaGreatDoor
