/- Walk of the document's one at a node of kind 1, where contracts of UTF, canonical, floats are given for the node at hand. No condition but those that the theorem names. Walk of the document's one at a node of kind 2, where contracts of UTF, canonical, floats are given for the node at hand. No condition but those that the theorem names. Walk of the document's one at a node of kind 3, where contracts of UTF, canonical, floats are given for the node at hand. No condition but those that the theorem names. Walk of the document's one at a node of kind 4, where contracts of UTF, canonical, floats are given for the node at hand. No condition but those that the theorem names. Walk of the document's one at a node of kind 5, where contracts of UTF, canonical, floats are given for the node at hand. No condition but those that the theorem names. Walks of the document's answer: one, all, Check, Checks, where contracts of UTF, canonical, floats are given for the nodes at hand. No condition but those that each theorem names. -/
import Derived.Test.YtkapejcbmonfkaaGreatDoorT31m
namespace Go.Proofs.YtkapejcbmonfkaaGreatDoor
open Go.RowKit

set_option maxRecDepth 100000 in
set_option maxHeartbeats 8000000 in
theorem oneR1 (vn vi : ByteArray → Bool) (vb : Int → Bool) (D : Tm → Prop) (t : Tm) (p : Option Addr) (cap : Nat) (w : World) (hO : OracleR vn vi vb D w) (hD : D t) (hl : t.args.length ≤ maxLen) (hk : t.kind = 1) :
    Calls Tryz.prog 101 #[t.val p cap] w fun e w' => e = .returned (.int .i64 (nodeErr vn vi vb t)) ∧ Below w.heap.size w w' := by
  unfold maxLen at hl
  have C1 := hid (fun W h => hO.name W h t hD)
  have C2 := hid (fun W h => hO.num W h t hD)
  have C3 := hid (fun W h => hO.bits W h t hD)
  have AL := hid (fun o => (Below.refl w.heap.size w).alloc (Nat.le_refl _) o)
  unfold Tm.val
  obtain ⟨q, hq⟩ : ∃ q, q = nodeErr vn vi vb t := ⟨_, rfl⟩
  rw [← hq]
  unfold nodeErr fieldsOk at hq
  have HQ := hid hq
  clear hq hO hD
  generalize vn t.name = en at *
  generalize vi t.num = eu at *
  generalize vb t.bits = eb at *
  generalize t.kind = kd at *
  generalize t.name = nm at *
  generalize t.num = nu at *
  generalize t.bits = bi at *
  generalize t.var = va at *
  generalize t.args.length = la at *
  subst hk
  have hnm : nm.toList.isEmpty = true ∨ nm.toList.isEmpty = false := by cases nm.toList.isEmpty <;> simp
  have hnu : nu.toList.isEmpty = true ∨ nu.toList.isEmpty = false := by cases nu.toList.isEmpty <;> simp
  rcases hnm with hnm | hnm <;> rcases hnu with hnu | hnu
  all_goals
    cases en
    all_goals
      go_enter Tryz.func101, Tryz.ntmps101
      go_wp2_with (first
          | (go_at_call 113; (with_reducible refine (C1.out _ (AL.out _)).mono ?_); rintro e w1 ⟨rfl, rfl⟩))
      all_goals
        go_ret
        refine ⟨ret_int ?_, AL.out _⟩
        rw [HQ.out]
        clear HQ AL C1 C2 C3
        simp_all
        try omega
end Go.Proofs.YtkapejcbmonfkaaGreatDoor

namespace Go.Proofs.YtkapejcbmonfkaaGreatDoor
open Go.RowKit

set_option maxRecDepth 100000 in
set_option maxHeartbeats 8000000 in
theorem oneR2 (vn vi : ByteArray → Bool) (vb : Int → Bool) (D : Tm → Prop) (t : Tm) (p : Option Addr) (cap : Nat) (w : World) (hO : OracleR vn vi vb D w) (hD : D t) (hl : t.args.length ≤ maxLen) (hk : t.kind = 2) :
    Calls Tryz.prog 101 #[t.val p cap] w fun e w' => e = .returned (.int .i64 (nodeErr vn vi vb t)) ∧ Below w.heap.size w w' := by
  unfold maxLen at hl
  have C1 := hid (fun W h => hO.name W h t hD)
  have C2 := hid (fun W h => hO.num W h t hD)
  have C3 := hid (fun W h => hO.bits W h t hD)
  have AL := hid (fun o => (Below.refl w.heap.size w).alloc (Nat.le_refl _) o)
  unfold Tm.val
  obtain ⟨q, hq⟩ : ∃ q, q = nodeErr vn vi vb t := ⟨_, rfl⟩
  rw [← hq]
  unfold nodeErr fieldsOk at hq
  have HQ := hid hq
  clear hq hO hD
  generalize vn t.name = en at *
  generalize vi t.num = eu at *
  generalize vb t.bits = eb at *
  generalize t.kind = kd at *
  generalize t.name = nm at *
  generalize t.num = nu at *
  generalize t.bits = bi at *
  generalize t.var = va at *
  generalize t.args.length = la at *
  subst hk
  have hnm : nm.toList.isEmpty = true ∨ nm.toList.isEmpty = false := by cases nm.toList.isEmpty <;> simp
  have hnu : nu.toList.isEmpty = true ∨ nu.toList.isEmpty = false := by cases nu.toList.isEmpty <;> simp
  rcases hnm with hnm | hnm <;> rcases hnu with hnu | hnu
  all_goals
    cases en
    all_goals
      go_enter Tryz.func101, Tryz.ntmps101
      go_wp2_with (first
          | (go_at_call 113; (with_reducible refine (C1.out _ (AL.out _)).mono ?_); rintro e w1 ⟨rfl, rfl⟩))
      all_goals
        go_ret
        refine ⟨ret_int ?_, AL.out _⟩
        rw [HQ.out]
        clear HQ AL C1 C2 C3
        simp_all
        try omega
end Go.Proofs.YtkapejcbmonfkaaGreatDoor

namespace Go.Proofs.YtkapejcbmonfkaaGreatDoor
open Go.RowKit

set_option maxRecDepth 100000 in
set_option maxHeartbeats 8000000 in
theorem oneR3 (vn vi : ByteArray → Bool) (vb : Int → Bool) (D : Tm → Prop) (t : Tm) (p : Option Addr) (cap : Nat) (w : World) (hO : OracleR vn vi vb D w) (hD : D t) (hl : t.args.length ≤ maxLen) (hk : t.kind = 3) :
    Calls Tryz.prog 101 #[t.val p cap] w fun e w' => e = .returned (.int .i64 (nodeErr vn vi vb t)) ∧ Below w.heap.size w w' := by
  unfold maxLen at hl
  have C1 := hid (fun W h => hO.name W h t hD)
  have C2 := hid (fun W h => hO.num W h t hD)
  have C3 := hid (fun W h => hO.bits W h t hD)
  have AL := hid (fun o => (Below.refl w.heap.size w).alloc (Nat.le_refl _) o)
  unfold Tm.val
  obtain ⟨q, hq⟩ : ∃ q, q = nodeErr vn vi vb t := ⟨_, rfl⟩
  rw [← hq]
  unfold nodeErr fieldsOk at hq
  have HQ := hid hq
  clear hq hO hD
  generalize vn t.name = en at *
  generalize vi t.num = eu at *
  generalize vb t.bits = eb at *
  generalize t.kind = kd at *
  generalize t.name = nm at *
  generalize t.num = nu at *
  generalize t.bits = bi at *
  generalize t.var = va at *
  generalize t.args.length = la at *
  subst hk
  have hnm : nm.toList.isEmpty = true ∨ nm.toList.isEmpty = false := by cases nm.toList.isEmpty <;> simp
  have hnu : nu.toList.isEmpty = true ∨ nu.toList.isEmpty = false := by cases nu.toList.isEmpty <;> simp
  rcases hnm with hnm | hnm <;> rcases hnu with hnu | hnu
  all_goals
    cases en <;> cases eu
    all_goals
      go_enter Tryz.func101, Tryz.ntmps101
      go_wp2_with (first
          | (go_at_call 113; (with_reducible refine (C1.out _ (AL.out _)).mono ?_); rintro e w1 ⟨rfl, rfl⟩)
          | (go_at_call 114; (with_reducible refine (C2.out _ (AL.out _) (by first | trivial | rfl)).mono ?_); rintro e w3 ⟨rfl, hb3⟩; have B3 := hid ((AL.out _).trans (hb3.mono (AL.out _).size)); clear hb3))
      all_goals
        go_ret
        refine ⟨ret_int ?_, by first | exact AL.out _ | exact B3.out⟩
        rw [HQ.out]
        clear HQ AL C1 C2 C3
        simp_all
        try omega
end Go.Proofs.YtkapejcbmonfkaaGreatDoor

namespace Go.Proofs.YtkapejcbmonfkaaGreatDoor
open Go.RowKit

set_option maxRecDepth 100000 in
set_option maxHeartbeats 8000000 in
theorem oneR4 (vn vi : ByteArray → Bool) (vb : Int → Bool) (D : Tm → Prop) (t : Tm) (p : Option Addr) (cap : Nat) (w : World) (hO : OracleR vn vi vb D w) (hD : D t) (hl : t.args.length ≤ maxLen) (hk : t.kind = 4) :
    Calls Tryz.prog 101 #[t.val p cap] w fun e w' => e = .returned (.int .i64 (nodeErr vn vi vb t)) ∧ Below w.heap.size w w' := by
  unfold maxLen at hl
  have C1 := hid (fun W h => hO.name W h t hD)
  have C2 := hid (fun W h => hO.num W h t hD)
  have C3 := hid (fun W h => hO.bits W h t hD)
  have AL := hid (fun o => (Below.refl w.heap.size w).alloc (Nat.le_refl _) o)
  unfold Tm.val
  obtain ⟨q, hq⟩ : ∃ q, q = nodeErr vn vi vb t := ⟨_, rfl⟩
  rw [← hq]
  unfold nodeErr fieldsOk at hq
  have HQ := hid hq
  clear hq hO hD
  generalize vn t.name = en at *
  generalize vi t.num = eu at *
  generalize vb t.bits = eb at *
  generalize t.kind = kd at *
  generalize t.name = nm at *
  generalize t.num = nu at *
  generalize t.bits = bi at *
  generalize t.var = va at *
  generalize t.args.length = la at *
  subst hk
  have hnm : nm.toList.isEmpty = true ∨ nm.toList.isEmpty = false := by cases nm.toList.isEmpty <;> simp
  have hnu : nu.toList.isEmpty = true ∨ nu.toList.isEmpty = false := by cases nu.toList.isEmpty <;> simp
  rcases hnm with hnm | hnm <;> rcases hnu with hnu | hnu
  all_goals
    rcases Decidable.em (bi = 0) with rfl | hbi <;> cases en <;> cases eb
    all_goals
      go_enter Tryz.func101, Tryz.ntmps101
      go_wp2_with (first
          | (go_at_call 113; (with_reducible refine (C1.out _ (AL.out _)).mono ?_); rintro e w1 ⟨rfl, rfl⟩)
          | (go_at_call 115; (with_reducible refine (C3.out _ (AL.out _) (by first | trivial | rfl)).mono ?_); rintro e w3 ⟨rfl, rfl⟩))
      all_goals
        go_ret
        refine ⟨ret_int ?_, AL.out _⟩
        rw [HQ.out]
        clear HQ AL C1 C2 C3
        simp_all
        try omega
end Go.Proofs.YtkapejcbmonfkaaGreatDoor

namespace Go.Proofs.YtkapejcbmonfkaaGreatDoor
open Go.RowKit

set_option maxRecDepth 100000 in
set_option maxHeartbeats 8000000 in
theorem oneR5 (vn vi : ByteArray → Bool) (vb : Int → Bool) (D : Tm → Prop) (t : Tm) (p : Option Addr) (cap : Nat) (w : World) (hO : OracleR vn vi vb D w) (hD : D t) (hl : t.args.length ≤ maxLen) (hk : t.kind = 5) :
    Calls Tryz.prog 101 #[t.val p cap] w fun e w' => e = .returned (.int .i64 (nodeErr vn vi vb t)) ∧ Below w.heap.size w w' := by
  unfold maxLen at hl
  have C1 := hid (fun W h => hO.name W h t hD)
  have C2 := hid (fun W h => hO.num W h t hD)
  have C3 := hid (fun W h => hO.bits W h t hD)
  have AL := hid (fun o => (Below.refl w.heap.size w).alloc (Nat.le_refl _) o)
  unfold Tm.val
  obtain ⟨q, hq⟩ : ∃ q, q = nodeErr vn vi vb t := ⟨_, rfl⟩
  rw [← hq]
  unfold nodeErr fieldsOk at hq
  have HQ := hid hq
  clear hq hO hD
  generalize vn t.name = en at *
  generalize vi t.num = eu at *
  generalize vb t.bits = eb at *
  generalize t.kind = kd at *
  generalize t.name = nm at *
  generalize t.num = nu at *
  generalize t.bits = bi at *
  generalize t.var = va at *
  generalize t.args.length = la at *
  subst hk
  have hnm : nm.toList.isEmpty = true ∨ nm.toList.isEmpty = false := by cases nm.toList.isEmpty <;> simp
  have hnu : nu.toList.isEmpty = true ∨ nu.toList.isEmpty = false := by cases nu.toList.isEmpty <;> simp
  rcases hnm with hnm | hnm <;> rcases hnu with hnu | hnu
  all_goals
    cases en
    all_goals
      go_enter Tryz.func101, Tryz.ntmps101
      go_wp2_with (first
          | (go_at_call 113; (with_reducible refine (C1.out _ (AL.out _)).mono ?_); rintro e w1 ⟨rfl, rfl⟩))
      all_goals
        go_ret
        refine ⟨ret_int ?_, AL.out _⟩
        rw [HQ.out]
        clear HQ AL C1 C2 C3
        simp_all
        try omega
end Go.Proofs.YtkapejcbmonfkaaGreatDoor

namespace Go.Proofs.YtkapejcbmonfkaaGreatDoor
open Go.RowKit

set_option maxRecDepth 100000 in
set_option maxHeartbeats 8000000 in
theorem oneR_any (vn vi : ByteArray → Bool) (vb : Int → Bool) (D : Tm → Prop) (t : Tm) (p : Option Addr) (cap : Nat) (w : World) (hO : OracleR vn vi vb D w) (hD : D t) (hl : t.args.length ≤ maxLen) :
    Calls Tryz.prog 101 #[t.val p cap] w fun e w' => e = .returned (.int .i64 (nodeErr vn vi vb t)) ∧ Below w.heap.size w w' := by
  rcases (show (t.kind < 1 ∨ 5 < t.kind) ∨ t.kind = 1 ∨ t.kind = 2 ∨ t.kind = 3 ∨ t.kind = 4 ∨ t.kind = 5 by omega) with h | h | h | h | h | h
  · have AL := hid (fun o => (Below.refl w.heap.size w).alloc (Nat.le_refl _) o)
    unfold Tm.val
    obtain ⟨q, hq⟩ : ∃ q, q = nodeErr vn vi vb t := ⟨_, rfl⟩
    rw [← hq]
    unfold nodeErr fieldsOk at hq
    have HQ := hid hq
    clear hq hO hD
    generalize vn t.name = en at *
    generalize vi t.num = eu at *
    generalize vb t.bits = eb at *
    generalize t.kind = kd at *
    generalize t.name = nm at *
    generalize t.num = nu at *
    generalize t.bits = bi at *
    generalize t.var = va at *
    generalize t.args.length = la at *
    rcases h with h | h
    · have n1 : (kd == 1) = false := beq_eq_false_iff_ne.2 (by omega)
      have n2 : (kd == 2) = false := beq_eq_false_iff_ne.2 (by omega)
      have n3 : (kd == 3) = false := beq_eq_false_iff_ne.2 (by omega)
      have n4 : (kd == 4) = false := beq_eq_false_iff_ne.2 (by omega)
      have n5 : (kd == 5) = false := beq_eq_false_iff_ne.2 (by omega)
      go_enter Tryz.func101, Tryz.ntmps101
      go_wp2_with fail
      go_ret
      exact ⟨ret_int (by rw [HQ.out, decide_eq_false (show ¬ 1 ≤ kd by omega)]; simp), AL.out _⟩
    · have n1 : (kd == 1) = false := beq_eq_false_iff_ne.2 (by omega)
      have n2 : (kd == 2) = false := beq_eq_false_iff_ne.2 (by omega)
      have n3 : (kd == 3) = false := beq_eq_false_iff_ne.2 (by omega)
      have n4 : (kd == 4) = false := beq_eq_false_iff_ne.2 (by omega)
      have n5 : (kd == 5) = false := beq_eq_false_iff_ne.2 (by omega)
      go_enter Tryz.func101, Tryz.ntmps101
      go_wp2_with fail
      go_ret
      exact ⟨ret_int (by rw [HQ.out, decide_eq_false (show ¬ kd ≤ 5 by omega)]; simp), AL.out _⟩
  · exact oneR1 vn vi vb D t p cap w hO hD hl h
  · exact oneR2 vn vi vb D t p cap w hO hD hl h
  · exact oneR3 vn vi vb D t p cap w hO hD hl h
  · exact oneR4 vn vi vb D t p cap w hO hD hl h
  · exact oneR5 vn vi vb D t p cap w hO hD hl h
section
variable (vn vi : ByteArray → Bool) (vb : Int → Bool) (D : Tm → Prop)
set_option maxRecDepth 100000 in
set_option maxHeartbeats 4000000 in
theorem allR_any (d : Nat) : ∀ (t : Tm) (p : Option Addr) (cap : Nat) (w : World), nodes t ≤ d → TmAt w t p → OracleR vn vi vb D w → AllT D t →
    Calls Tryz.prog 75 #[t.val p cap] w fun e w' => e = .returned (.int .i64 (treeErr vn vi vb t)) ∧ Below w.heap.size w w' := by
  induction d with
  | zero => intro t p cap w h; have := nodes_pos t; omega
  | succ d ih =>
    intro t p cap w hd hT hO hD
    obtain ⟨W0, hW0⟩ : ∃ W0, W0 = w.alloc (tobj t p cap) := ⟨_, rfl⟩
    have hB := hid (show Below w.heap.size w W0 by rw [hW0]; exact (Below.refl w.heap.size w).alloc (Nat.le_refl _) (tobj t p cap))
    have HS := hid (show W0.heap[w.heap.size]? = some (tobj t p cap) by rw [hW0]; exact heap_alloc_new w (tobj t p cap))
    have N0 := oneR_any vn vi vb D t p cap W0 (hO.keep hB.out) hD.head hT.len
    have hlen := hT.len
    have HT := hid hT
    have HO := hid hO
    have HNE := hid (fun k (h : k < t.args.length) => (show nodes t.args[k] ≤ d by have := nodes_lt h; omega))
    have HDA := hid (fun k hk => hD.arg k hk)
    have HE := hid (treeErr_args vn vi vb t)
    have HRD := hid (fun k hk => rowErr_drop vn vi vb t.args k hk)
    unfold tobj at hW0
    unfold Tm.val at N0 ih ⊢
    unfold maxLen at hlen
    have IH := hid ih
    have HN0 := hid N0
    clear ih N0 hT hO hD
    generalize nodeErr vn vi vb t = z at *
    generalize treeErr vn vi vb t = r at *
    have HE2 := hid (show r = if z = 0 then rowErr vn vi vb (t.args.drop 0) else z from HE.out)
    clear HE
    go_enter Tryz.func75, Tryz.ntmps75
    go_wp2_with (go_at_call 101; rw [← hW0]; (with_reducible refine HN0.out.mono ?_); rintro e w1 ⟨rfl, hb1⟩; have S1 := hid ((hb1.block _ (lt_of_block HS.out)).trans HS.out); have BW := hid (hB.out.trans (hb1.mono hB.out.size)); clear hb1 HN0)
    go_loopw [3, 4] (fun c i wr => ∃ (k : Nat) (y : Int), k ≤ t.args.length ∧ i = .int .i64 (k : Int) ∧ c = .int .i64 y ∧ Hid (r = if y = 0 then rowErr vn vi vb (t.args.drop k) else y) ∧ Hid (Below w.heap.size w wr) ∧ Hid (wr.heap[w.heap.size]? = some (tobj t p cap))) (fun _ i _ => t.args.length - (intOf i).toNat)
    case atStart => exact ⟨0, z, by omega, rfl, rfl, HE2, BW, S1⟩
    case round =>
      clear BW HE2 S1 HS
      obtain ⟨k, y, hk, rfl, rfl, hr, hBr, hSr⟩ := hrel
      have x5 : wr.cell? ⟨w.heap.size, 5, none⟩ = some (.slice p t.args.length cap) := (six_of hSr.out).c5
      by_cases hlt : k < t.args.length
      · by_cases hy : y = 0
        · subst hy
          obtain ⟨b, o, rfl, q, cq, hs, ht⟩ := (HT.out.keep hBr.out).get k hlt
          have HOA := hid (HO.out.keep hBr.out)
          obtain ⟨y0, y1, y2, y3, y4, y5⟩ := hs
          have HNK := hid (HNE.out k hlt)
          have HDK := hid (HDA.out k hlt)
          have HRN := hid (show r = if treeErr vn vi vb t.args[k] = 0 then rowErr vn vi vb (t.args.drop (k + 1)) else treeErr vn vi vb t.args[k] by rw [hr.out, if_pos rfl, HRD.out k hlt])
          have HTK := hid ht
          clear ht hr
          generalize t.args[k] = u at *
          have HC := hid (IH.out u q cq wr HNK.out HTK.out HOA.out HDK.out)
          generalize treeErr vn vi vb u = x at *
          go_wp2_with (go_at_call 75; (with_reducible refine HC.out.mono ?_); rintro e w2 ⟨rfl, hb2⟩; have B2 := hid (hBr.out.trans (hb2.mono hBr.out.size)); have S2 := hid ((hb2.block _ (lt_of_block hSr.out)).trans hSr.out); clear hb2)
          go_roundw
          case rel => exact ⟨k + 1, x, by omega, by go_num, rfl, HRN, B2, S2⟩
          case measure => simp [intOf]; omega
        · have hq : (y == 0) = false := beq_eq_false_iff_ne.2 hy
          have HRN := hid (show r = y by rw [hr.out, if_neg hy])
          clear hr hy
          go_wp2_with fail
          go_ret
          exact ⟨ret_int (by rw [HRN.out]), hBr.out⟩
      · obtain rfl : k = t.args.length := by omega
        have HRN := hid (show r = y by rw [hr.out, List.drop_length]; split <;> simp_all [rowErr])
        clear hr hlt
        go_wp2_with fail
        go_ret
        exact ⟨ret_int (by rw [HRN.out]), hBr.out⟩
set_option maxRecDepth 100000 in
set_option maxHeartbeats 4000000 in
theorem checkR_any (t : Tm) (p : Option Addr) (cap : Nat) (w : World) (hT : TmAt w t p) (hO : OracleR vn vi vb D w) (hD : AllT D t) :
    Calls Tryz.prog 31 #[t.val p cap] w fun e w' => e = .returned (.int .i64 (checkErr vn vi vb t)) ∧ Below w.heap.size w w' := by
  obtain ⟨W0, hW0⟩ : ∃ W0, W0 = w.alloc (tobj t p cap) := ⟨_, rfl⟩
  have hB := hid (show Below w.heap.size w W0 by rw [hW0]; exact (Below.refl w.heap.size w).alloc (Nat.le_refl _) (tobj t p cap))
  have HS := hid (show W0.heap[w.heap.size]? = some (tobj t p cap) by rw [hW0]; exact heap_alloc_new w (tobj t p cap))
  have N0 := nodesR_any t p cap W0 (hT.keep hB.out)
  have TR := fun W (h : Below W0.heap.size W0 W) => allR_any vn vi vb D (nodes t) t p cap W (Nat.le_refl _) ((hT.keep hB.out).keep h) ((hO.keep hB.out).keep h) hD
  obtain ⟨x0, x1, x2, x3, x4, x5⟩ := six_of HS.out
  obtain ⟨c, hc⟩ : ∃ c, c = capped (nodes t) 4001 := ⟨_, rfl⟩
  obtain ⟨r, hr⟩ : ∃ r, r = checkErr vn vi vb t := ⟨_, rfl⟩
  rw [← hr]
  rw [← hc] at N0
  unfold checkErr at hr
  have hcr : (4000 < c ∧ r = 24) ∨ (c ≤ 4000 ∧ r = treeErr vn vi vb t) := by
    unfold capped at hc
    by_cases h : 4000 < nodes t
    · rw [if_pos h] at hr
      left
      refine ⟨?_, hr⟩
      split at hc <;> omega
    · rw [if_neg h] at hr
      right
      refine ⟨?_, hr⟩
      split at hc <;> omega
  unfold tobj at hW0
  unfold Tm.val at N0 TR ⊢
  have HN0 := hid N0
  have HTR := hid TR
  clear hc hr N0 TR HS hT hO hD
  generalize treeErr vn vi vb t = y at *
  rcases hcr with ⟨hc, rfl⟩ | ⟨hc, rfl⟩
  · go_enter Tryz.func31, Tryz.ntmps31
    go_wp2_with (go_at_call 72; rw [← hW0]; (with_reducible refine HN0.out.mono ?_); rintro e w1 ⟨rfl, hb1⟩; have BW := hid (hB.out.trans (hb1.mono hB.out.size)); clear hb1 HN0)
    go_ret
    exact ⟨rfl, BW.out⟩
  · go_enter Tryz.func31, Tryz.ntmps31
    go_wp2_with (first
      | (go_at_call 72; rw [← hW0]; (with_reducible refine HN0.out.mono ?_); rintro e w1 ⟨rfl, hb1⟩; have BW := hid (hB.out.trans (hb1.mono hB.out.size)); have B1 := hid hb1; have y0 := heap_cell_keep hb1 x0; have y1 := heap_cell_keep hb1 x1; have y2 := heap_cell_keep hb1 x2; have y3 := heap_cell_keep hb1 x3; have y4 := heap_cell_keep hb1 x4; have y5 := heap_cell_keep hb1 x5; clear hb1 HN0)
      | (go_at_call 75; (with_reducible refine (HTR.out _ B1.out).mono ?_); rintro e w2 ⟨rfl, hb2⟩; have B2 := hid (BW.out.trans (hb2.mono BW.out.size)); clear hb2))
    go_ret
    exact ⟨rfl, B2.out⟩
end
end Go.Proofs.YtkapejcbmonfkaaGreatDoor
