/- Walks: List of the program, where something is wrong with what it is handed. No condition but those that each theorem names. -/
import Derived.Test.YtkapejcbmonfkaaGreatDoorT63
namespace Go.Proofs.YtkapejcbmonfkaaGreatDoor
open Go.RowKit Go.Shelf

set_option maxRecDepth 100000 in
set_option maxHeartbeats 16000000 in
theorem list_bad1 (l : List Tm) (e : Tm) (pl pe : Option Addr) (cl ce : Nat) (w : World) (hl : ListAt w l pl) (he : TmAt w e pe) (hX : Utf w) (hD : AllR DomA l) (hDe : AllT DomA e) (hlm : l.length ≤ maxLen) (hv : checksErr vName numOk bitsOk l ≠ 0) :
    Calls Tryz.prog 28 #[.slice pl l.length cl, e.val pe ce] w fun x w' => x = .returned (.tuple #[(leaf 0 ⟨#[]⟩ ⟨#[]⟩ 0).val none 0, .int .i64 (checksErr vName numOk bitsOk l)]) ∧ Below w.heap.size w w' := by
  refine (callsIn_wide (n := 6)).1 ?_
  have HL := hid hl
  obtain ⟨W0, hW0⟩ : ∃ W0, W0 = (w.alloc (.cells #[.int .i64 e.kind, .string e.name, .string e.num, .int .u64 e.bits, .int .i64 e.var, .slice pe e.args.length ce] 25)).alloc (.cells #[.int .i64 0, .string ⟨#[]⟩, .string ⟨#[]⟩, .int .u64 0, .int .i64 0, .slice none 0 0] 25) := ⟨_, rfl⟩
  have B0 := hid (show Below w.heap.size w W0 by rw [hW0]; exact ((Below.refl w.heap.size w).alloc (Nat.le_refl _) _).alloc (by simp) _)
  have E0 := hid (show W0.heap[w.heap.size]? = some (.cells #[.int .i64 e.kind, .string e.name, .string e.num, .int .u64 e.bits, .int .i64 e.var, .slice pe e.args.length ce] 25 (0, 0)) by rw [hW0]; exact (heap_alloc_old (w.alloc _) _ (by simp)).trans (heap_alloc_new w _))
  have Z0 := hid (show W0.heap[w.heap.size + 1]? = some (.cells #[.int .i64 0, .string ⟨#[]⟩, .string ⟨#[]⟩, .int .u64 0, .int .i64 0, .slice none 0 0] 25 (0, 0)) by
    rw [hW0]
    have h := heap_alloc_new (w.alloc (.cells #[.int .i64 e.kind, .string e.name, .string e.num, .int .u64 e.bits, .int .i64 e.var, .slice pe e.args.length ce] 25)) (.cells #[.int .i64 0, .string ⟨#[]⟩, .string ⟨#[]⟩, .int .u64 0, .int .i64 0, .slice none 0 0] 25)
    rwa [World.size_alloc] at h)
  have hW0' : W0 = (w.alloc (.cells #[.int .i64 e.kind, .string e.name, .string e.num, .int .u64 e.bits, .int .i64 e.var, .slice pe e.args.length ce] 25)).alloc (.cells #[.int .i64 0, .string ⟨#[]⟩, .string ⟨#[]⟩, .int .u64 0, .int .i64 0, .slice none 0 0] 25) := hW0
  clear hW0
  have CK := hid (fun (W : World) (h : Below w.heap.size w W) => checks_any vName numOk bitsOk DomA l pl cl W hlm (hl.keep h) (oracleA _ (hX.keep h)) hD)
  have CC := hid (fun (W : World) (h : Below w.heap.size w W) => check_any vName numOk bitsOk DomA e pe ce W (he.keep h) (oracleA _ (hX.keep h)) hDe)
  have CN := hid (fun (W : World) (h : Below w.heap.size w W) => nodes_any e pe ce W (he.keep h))
  generalize checksErr vName numOk bitsOk l = v at *
  have hq : (v == 0) = false := beq_eq_false_iff_ne.2 hv
  have hq2 : (v != 0) = true := by simp [hv]
  clear hv
  unfold maxLen at hlm
  unfold Tm.val at CC CN
  unfold Tm.val
  clear hl he hD hDe hX
  refine callsIn_of_wp_marks Tryz.func28 rfl trivial ?_ rfl
  simp only [Tryz.ntmps28, List.size_toArray, List.length_cons, List.length_nil, Nat.reduceAdd, Nat.reduceSub, Array.replicate_succ, Array.replicate_zero, List.push_toArray, List.append_toArray, List.nil_append, List.cons_append]
  rw [wpIn_wide]
  go_wp2_with (first
    | (go_at_call 46; rw [← hW0']; (with_reducible refine (CK.out _ B0.out).mono ?_); rintro x w1 ⟨rfl, hb⟩; have B1 := hid (B0.out.trans (hb.mono B0.out.size)); have E1 := hid (obj_keep E0.out hb); have Z1 := hid ((hb.block _ (lt_of_block Z0.out)).trans Z0.out); clear hb E0 Z0; obtain ⟨⟨x0, x1, x2, x3, x4, x5⟩, _⟩ := six_free E1.out; clear hW0'; obtain ⟨⟨z0, z1, z2, z3, z4, z5⟩, ⟨f0, f1, f2, f3, f4, f5⟩⟩ := six_free Z1.out)
    | fail)
  have h6 := set6 Z1.out (.int .i64 0) (.string ⟨#[]⟩) (.string ⟨#[]⟩) (.int .u64 0) (.int .i64 0) (.slice none 0 0)
  exact ⟨_, results_pair (b := w.heap.size + 1) (t := leaf 0 ⟨#[]⟩ ⟨#[]⟩ 0) (q := none) (cap := 0) rfl _ _ (.int .i64 v) ⟨by rfl, by rfl⟩ h6, rfl, set6_below B1.out (by omega) _ _ _ _ _ _⟩
set_option maxRecDepth 100000 in
set_option maxHeartbeats 16000000 in
theorem list_bad2 (l : List Tm) (e : Tm) (pl pe : Option Addr) (cl ce : Nat) (w : World) (hl : ListAt w l pl) (he : TmAt w e pe) (hX : Utf w) (hD : AllR DomA l) (hDe : AllT DomA e) (hlm : l.length ≤ maxLen) (h1 : checksErr vName numOk bitsOk l = 0) (hv : checkErr vName numOk bitsOk e ≠ 0) :
    Calls Tryz.prog 28 #[.slice pl l.length cl, e.val pe ce] w fun x w' => x = .returned (.tuple #[(leaf 0 ⟨#[]⟩ ⟨#[]⟩ 0).val none 0, .int .i64 (checkErr vName numOk bitsOk e)]) ∧ Below w.heap.size w w' := by
  refine (callsIn_wide (n := 6)).1 ?_
  have HL := hid hl
  obtain ⟨W0, hW0⟩ : ∃ W0, W0 = (w.alloc (.cells #[.int .i64 e.kind, .string e.name, .string e.num, .int .u64 e.bits, .int .i64 e.var, .slice pe e.args.length ce] 25)).alloc (.cells #[.int .i64 0, .string ⟨#[]⟩, .string ⟨#[]⟩, .int .u64 0, .int .i64 0, .slice none 0 0] 25) := ⟨_, rfl⟩
  have B0 := hid (show Below w.heap.size w W0 by rw [hW0]; exact ((Below.refl w.heap.size w).alloc (Nat.le_refl _) _).alloc (by simp) _)
  have E0 := hid (show W0.heap[w.heap.size]? = some (.cells #[.int .i64 e.kind, .string e.name, .string e.num, .int .u64 e.bits, .int .i64 e.var, .slice pe e.args.length ce] 25 (0, 0)) by rw [hW0]; exact (heap_alloc_old (w.alloc _) _ (by simp)).trans (heap_alloc_new w _))
  have Z0 := hid (show W0.heap[w.heap.size + 1]? = some (.cells #[.int .i64 0, .string ⟨#[]⟩, .string ⟨#[]⟩, .int .u64 0, .int .i64 0, .slice none 0 0] 25 (0, 0)) by
    rw [hW0]
    have h := heap_alloc_new (w.alloc (.cells #[.int .i64 e.kind, .string e.name, .string e.num, .int .u64 e.bits, .int .i64 e.var, .slice pe e.args.length ce] 25)) (.cells #[.int .i64 0, .string ⟨#[]⟩, .string ⟨#[]⟩, .int .u64 0, .int .i64 0, .slice none 0 0] 25)
    rwa [World.size_alloc] at h)
  have hW0' : W0 = (w.alloc (.cells #[.int .i64 e.kind, .string e.name, .string e.num, .int .u64 e.bits, .int .i64 e.var, .slice pe e.args.length ce] 25)).alloc (.cells #[.int .i64 0, .string ⟨#[]⟩, .string ⟨#[]⟩, .int .u64 0, .int .i64 0, .slice none 0 0] 25) := hW0
  clear hW0
  have CK := hid (fun (W : World) (h : Below w.heap.size w W) => checks_any vName numOk bitsOk DomA l pl cl W hlm (hl.keep h) (oracleA _ (hX.keep h)) hD)
  have CC := hid (fun (W : World) (h : Below w.heap.size w W) => check_any vName numOk bitsOk DomA e pe ce W (he.keep h) (oracleA _ (hX.keep h)) hDe)
  have CN := hid (fun (W : World) (h : Below w.heap.size w W) => nodes_any e pe ce W (he.keep h))
  rw [h1] at CK
  generalize checkErr vName numOk bitsOk e = v at *
  clear h1
  have hq : (v == 0) = false := beq_eq_false_iff_ne.2 hv
  have hq2 : (v != 0) = true := by simp [hv]
  clear hv
  unfold maxLen at hlm
  unfold Tm.val at CC CN
  unfold Tm.val
  clear hl he hD hDe hX
  refine callsIn_of_wp_marks Tryz.func28 rfl trivial ?_ rfl
  simp only [Tryz.ntmps28, List.size_toArray, List.length_cons, List.length_nil, Nat.reduceAdd, Nat.reduceSub, Array.replicate_succ, Array.replicate_zero, List.push_toArray, List.append_toArray, List.nil_append, List.cons_append]
  rw [wpIn_wide]
  go_wp2_with (first
    | (go_at_call 46; rw [← hW0']; (with_reducible refine (CK.out _ B0.out).mono ?_); rintro x w1 ⟨rfl, hb⟩; have B1 := hid (B0.out.trans (hb.mono B0.out.size)); have E1 := hid (obj_keep E0.out hb); have Z1 := hid ((hb.block _ (lt_of_block Z0.out)).trans Z0.out); clear hb E0 Z0; obtain ⟨⟨x0, x1, x2, x3, x4, x5⟩, _⟩ := six_free E1.out; clear hW0')
    | (go_at_call 45; (with_reducible refine (CC.out _ B1.out).mono ?_); rintro x w2 ⟨rfl, hb⟩; clear x0 x1 x2 x3 x4 x5; have B2 := hid (B1.out.trans (hb.mono B1.out.size)); have E2 := hid (obj_keep E1.out hb); have Z2 := hid ((hb.block _ (lt_of_block Z1.out)).trans Z1.out); clear hb E1 Z1; obtain ⟨⟨x0, x1, x2, x3, x4, x5⟩, _⟩ := six_free E2.out; obtain ⟨⟨z0, z1, z2, z3, z4, z5⟩, ⟨f0, f1, f2, f3, f4, f5⟩⟩ := six_free Z2.out)
    | fail)
  have h6 := set6 Z2.out (.int .i64 0) (.string ⟨#[]⟩) (.string ⟨#[]⟩) (.int .u64 0) (.int .i64 0) (.slice none 0 0)
  exact ⟨_, results_pair (b := w.heap.size + 1) (t := leaf 0 ⟨#[]⟩ ⟨#[]⟩ 0) (q := none) (cap := 0) rfl _ _ (.int .i64 v) ⟨by rfl, by rfl⟩ h6, rfl, set6_below B2.out (by omega) _ _ _ _ _ _⟩
set_option maxRecDepth 100000 in
set_option maxHeartbeats 16000000 in
theorem list_bad3 (l : List Tm) (e : Tm) (pl pe : Option Addr) (cl ce : Nat) (w : World) (hl : ListAt w l pl) (he : TmAt w e pe) (hX : Utf w) (hD : AllR DomA l) (hDe : AllT DomA e) (hlm : l.length ≤ maxLen) (h1 : checksErr vName numOk bitsOk l = 0) (h2 : checkErr vName numOk bitsOk e = 0) (h3 : 4000 < tot l e l.length) (h42 : l.length ≤ 4398046511104) :
    Calls Tryz.prog 28 #[.slice pl l.length cl, e.val pe ce] w fun x w' => x = .returned (.tuple #[(leaf 0 ⟨#[]⟩ ⟨#[]⟩ 0).val none 0, .int .i64 24]) ∧ Below w.heap.size w w' := by
  refine (callsIn_wide (n := 6)).1 ?_
  have HL := hid hl
  obtain ⟨W0, hW0⟩ : ∃ W0, W0 = (w.alloc (.cells #[.int .i64 e.kind, .string e.name, .string e.num, .int .u64 e.bits, .int .i64 e.var, .slice pe e.args.length ce] 25)).alloc (.cells #[.int .i64 0, .string ⟨#[]⟩, .string ⟨#[]⟩, .int .u64 0, .int .i64 0, .slice none 0 0] 25) := ⟨_, rfl⟩
  have B0 := hid (show Below w.heap.size w W0 by rw [hW0]; exact ((Below.refl w.heap.size w).alloc (Nat.le_refl _) _).alloc (by simp) _)
  have E0 := hid (show W0.heap[w.heap.size]? = some (.cells #[.int .i64 e.kind, .string e.name, .string e.num, .int .u64 e.bits, .int .i64 e.var, .slice pe e.args.length ce] 25 (0, 0)) by rw [hW0]; exact (heap_alloc_old (w.alloc _) _ (by simp)).trans (heap_alloc_new w _))
  have Z0 := hid (show W0.heap[w.heap.size + 1]? = some (.cells #[.int .i64 0, .string ⟨#[]⟩, .string ⟨#[]⟩, .int .u64 0, .int .i64 0, .slice none 0 0] 25 (0, 0)) by
    rw [hW0]
    have h := heap_alloc_new (w.alloc (.cells #[.int .i64 e.kind, .string e.name, .string e.num, .int .u64 e.bits, .int .i64 e.var, .slice pe e.args.length ce] 25)) (.cells #[.int .i64 0, .string ⟨#[]⟩, .string ⟨#[]⟩, .int .u64 0, .int .i64 0, .slice none 0 0] 25)
    rwa [World.size_alloc] at h)
  have hW0' : W0 = (w.alloc (.cells #[.int .i64 e.kind, .string e.name, .string e.num, .int .u64 e.bits, .int .i64 e.var, .slice pe e.args.length ce] 25)).alloc (.cells #[.int .i64 0, .string ⟨#[]⟩, .string ⟨#[]⟩, .int .u64 0, .int .i64 0, .slice none 0 0] 25) := hW0
  clear hW0
  have CK := hid (fun (W : World) (h : Below w.heap.size w W) => checks_any vName numOk bitsOk DomA l pl cl W hlm (hl.keep h) (oracleA _ (hX.keep h)) hD)
  have CC := hid (fun (W : World) (h : Below w.heap.size w W) => check_any vName numOk bitsOk DomA e pe ce W (he.keep h) (oracleA _ (hX.keep h)) hDe)
  have CN := hid (fun (W : World) (h : Below w.heap.size w W) => nodes_any e pe ce W (he.keep h))
  rw [h1] at CK
  rw [h2] at CC
  have HTT := hid h3
  clear h1 h2 h3
  unfold maxLen at hlm
  unfold Tm.val at CC CN
  unfold Tm.val
  clear hl he hD hDe hX
  refine callsIn_of_wp_marks Tryz.func28 rfl trivial ?_ rfl
  simp only [Tryz.ntmps28, List.size_toArray, List.length_cons, List.length_nil, Nat.reduceAdd, Nat.reduceSub, Array.replicate_succ, Array.replicate_zero, List.push_toArray, List.append_toArray, List.nil_append, List.cons_append]
  rw [wpIn_wide]
  go_wp2_with (first
    | (go_at_call 46; rw [← hW0']; (with_reducible refine (CK.out _ B0.out).mono ?_); rintro x w1 ⟨rfl, hb⟩; have B1 := hid (B0.out.trans (hb.mono B0.out.size)); have E1 := hid (obj_keep E0.out hb); have Z1 := hid ((hb.block _ (lt_of_block Z0.out)).trans Z0.out); clear hb E0 Z0; obtain ⟨⟨x0, x1, x2, x3, x4, x5⟩, _⟩ := six_free E1.out; clear hW0')
    | (go_at_call 45; (with_reducible refine (CC.out _ B1.out).mono ?_); rintro x w2 ⟨rfl, hb⟩; clear x0 x1 x2 x3 x4 x5; have B2 := hid (B1.out.trans (hb.mono B1.out.size)); have E2 := hid (obj_keep E1.out hb); have Z2 := hid ((hb.block _ (lt_of_block Z1.out)).trans Z1.out); clear hb E1 Z1; obtain ⟨⟨x0, x1, x2, x3, x4, x5⟩, _⟩ := six_free E2.out)
    | (go_at_call 44; (with_reducible refine (CN.out _ B2.out).mono ?_); rintro x w3 ⟨rfl, hb⟩; clear x0 x1 x2 x3 x4 x5; have B3 := hid (B2.out.trans (hb.mono B2.out.size)); have E3 := hid (obj_keep E2.out hb); have Z3 := hid ((hb.block _ (lt_of_block Z2.out)).trans Z2.out); clear hb E2 Z2; obtain ⟨⟨x0, x1, x2, x3, x4, x5⟩, _⟩ := six_free E3.out)
    | fail)
  go_loopw [30, 8] (fun i n wr => ∃ (k : Nat) (m : Int), k ≤ l.length ∧ i = .int .i64 (k : Int) ∧ n = .int .i64 m ∧ Hid (0 ≤ m ∧ m ≤ 8100 * (k + 1) ∧ ((m = (tot l e k : Int) ∧ tot l e k ≤ 4000) ∨ (4000 < m ∧ 4000 < tot l e k))) ∧ Hid (Below w3.heap.size w3 wr)) (fun i _ _ => l.length - (intOf i).toNat)
  case atStart =>
    refine ⟨0, _, by omega, rfl, rfl, hid ?_, hid (Below.refl _ _)⟩
    rw [tot_zero]
    rcases capped_cases (nodes e) with ⟨h, h'⟩ | ⟨h, h'⟩ <;> rw [h'] <;> omega
  case round =>
    obtain ⟨k, m, hk, rfl, rfl, HM, hBr⟩ := hrel
    have hBw := hid (B3.out.trans (hBr.out.mono B3.out.size))
    by_cases hlk : k < l.length
    · have hk0 : (0 : Int) ≤ (k : Int) := by omega
      have hk1 : (k : Int) < (l.length : Int) := by omega
      obtain ⟨b, o, rfl, e1, c1, hs1, ht1⟩ := (HL.out.keep hBw.out).get k hlk
      have HTS := hid (tot_succ l e k hlk)
      have HCN := hid (fun (W : World) (h : Below wr.heap.size wr W) => nodes_any l[k] e1 c1 W (ht1.keep h))
      clear ht1
      generalize l[k] = t1 at *
      obtain ⟨g0, g1, g2, g3, g4, g5⟩ := hs1
      obtain ⟨cn, hcn⟩ : ∃ cn, cn = capped (nodes t1) 4001 := ⟨_, rfl⟩
      rw [← hcn] at HCN
      have hcb : 0 ≤ cn ∧ cn ≤ 4001 := by rw [hcn]; rcases capped_cases (nodes t1) with ⟨h, h'⟩ | ⟨h, h'⟩ <;> rw [h'] <;> omega
      have HCC := hid hcn
      clear hcn
      have hm0 := HM.out.1
      have hm1 := HM.out.2.1
      obtain ⟨Wp, hWp⟩ : ∃ Wp, Wp = wr.alloc (.cells #[.int .i64 t1.kind, .string t1.name, .string t1.num, .int .u64 t1.bits, .int .i64 t1.var, .slice e1 t1.args.length c1] 25) := ⟨_, rfl⟩
      have BP := hid (show Below wr.heap.size wr Wp by rw [hWp]; exact (Below.refl _ _).alloc (Nat.le_refl _) _)
      have HCP := hid (HCN.out Wp BP.out)
      unfold Tm.val at HCP
      clear HCN
      have hA : m + (1 + cn) ≤ 4611686018427387904 := by omega
      go_wp2_with (first
        | (go_at_call 44; rw [← hWp]; (with_reducible refine HCP.out.mono ?_); rintro x w5 ⟨rfl, hb5⟩; have B5 := hid (BP.out.trans (hb5.mono BP.out.size)); clear hb5 hWp)
        | fail)
      go_roundw
      case rel =>
        refine ⟨k + 1, m + (1 + cn), by omega, by go_num, rfl, hid ?_, hid (hBr.out.trans (B5.out.mono hBr.out.size))⟩
        rw [HTS.out, HCC.out]
        have h1 := HM.out
        rcases capped_cases (nodes t1) with ⟨h, h'⟩ | ⟨h, h'⟩ <;> rw [h'] <;> omega
      case measure => simp [intOf]; omega
    · obtain rfl : k = l.length := by omega
      have Z4 := hid ((hBr.out.block _ (lt_of_block Z3.out)).trans Z3.out)
      have hm3 : (4000 : Int) < m := by have := HM.out; have := HTT.out; omega
      obtain ⟨⟨z0, z1, z2, z3, z4, z5⟩, ⟨f0, f1, f2, f3, f4, f5⟩⟩ := six_free Z4.out
      go_wp2_with fail
      have h6 := set6 Z4.out (.int .i64 0) (.string ⟨#[]⟩) (.string ⟨#[]⟩) (.int .u64 0) (.int .i64 0) (.slice none 0 0)
      exact ⟨_, results_pair (b := w.heap.size + 1) (t := leaf 0 ⟨#[]⟩ ⟨#[]⟩ 0) (q := none) (cap := 0) rfl _ _ (.int .i64 24) ⟨by rfl, by rfl⟩ h6, rfl, set6_below hBw.out (by omega) _ _ _ _ _ _⟩
end Go.Proofs.YtkapejcbmonfkaaGreatDoor
