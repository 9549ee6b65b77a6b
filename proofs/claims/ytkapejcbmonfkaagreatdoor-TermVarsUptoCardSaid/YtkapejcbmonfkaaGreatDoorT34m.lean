/- Walks of the document's answer: one, all, Check, Checks, where contracts of UTF, canonical, floats are given for the nodes at hand. No condition but those that each theorem names. What looks at names, integers' texts and floats' bits, for any nodes, where the tables of unicode/utf8 lie as its text lays them: the program's and the document's are the same. -/
import Derived.Test.YtkapejcbmonfkaaGreatDoorT32a
import Derived.Test.YtkapejcbmonfkaaGreatDoorT32b
import Derived.Test.YtkapejcbmonfkaaGreatDoorT32c
import Derived.Test.YtkapejcbmonfkaaGreatDoorT32d
import Derived.Test.YtkapejcbmonfkaaGreatDoorT32e
import Derived.Test.YtkapejcbmonfkaaGreatDoorT29m
import Derived.Test.YtkapejcbmonfkaaGreatDoorT23m
namespace Go.Proofs.YtkapejcbmonfkaaGreatDoor
open Go.RowKit

set_option maxRecDepth 100000 in
set_option maxHeartbeats 8000000 in
theorem oneR_any (vn vi : ByteArray → Bool) (vb : Int → Bool) (D : Tm → Prop) (t : Tm) (p : Option Addr) (cap : Nat) (w : World) (hO : OracleR vn vi vb D w) (hD : D t) (hl : t.args.length ≤ maxLen) :
    Calls Tryz.prog 101 #[t.val p cap] w fun e w' => e = .returned (.int .i64 (nodeErr vn vi vb t)) ∧ Below w.heap.size w w' := by
  rcases (show (t.kind < 1 ∨ 5 < t.kind) ∨ t.kind = 1 ∨ t.kind = 2 ∨ t.kind = 3 ∨ t.kind = 4 ∨ t.kind = 5 by omega) with h | h | h | h | h | h
  · have AL := hid (fun o => (Below.refl w.heap.size w).alloc (Nat.le_refl _) o)
    unfold Tm.val
    obtain ⟨q, hq⟩ : ∃ q, q = nodeErr vn vi vb t := ⟨_, rfl⟩
    rw [← hq]
    unfold nodeErr fieldsOk at hq
    have HQ := hid hq
    clear hq hO hD
    generalize vn t.name = en at *
    generalize vi t.num = eu at *
    generalize vb t.bits = eb at *
    generalize t.kind = kd at *
    generalize t.name = nm at *
    generalize t.num = nu at *
    generalize t.bits = bi at *
    generalize t.var = va at *
    generalize t.args.length = la at *
    rcases h with h | h
    · have n1 : (kd == 1) = false := beq_eq_false_iff_ne.2 (by omega)
      have n2 : (kd == 2) = false := beq_eq_false_iff_ne.2 (by omega)
      have n3 : (kd == 3) = false := beq_eq_false_iff_ne.2 (by omega)
      have n4 : (kd == 4) = false := beq_eq_false_iff_ne.2 (by omega)
      have n5 : (kd == 5) = false := beq_eq_false_iff_ne.2 (by omega)
      go_enter Tryz.func101, Tryz.ntmps101
      go_wp2_with fail
      go_ret
      exact ⟨ret_int (by rw [HQ.out, decide_eq_false (show ¬ 1 ≤ kd by omega)]; simp), AL.out _⟩
    · have n1 : (kd == 1) = false := beq_eq_false_iff_ne.2 (by omega)
      have n2 : (kd == 2) = false := beq_eq_false_iff_ne.2 (by omega)
      have n3 : (kd == 3) = false := beq_eq_false_iff_ne.2 (by omega)
      have n4 : (kd == 4) = false := beq_eq_false_iff_ne.2 (by omega)
      have n5 : (kd == 5) = false := beq_eq_false_iff_ne.2 (by omega)
      go_enter Tryz.func101, Tryz.ntmps101
      go_wp2_with fail
      go_ret
      exact ⟨ret_int (by rw [HQ.out, decide_eq_false (show ¬ kd ≤ 5 by omega)]; simp), AL.out _⟩
  · exact oneR1 vn vi vb D t p cap w hO hD hl h
  · exact oneR2 vn vi vb D t p cap w hO hD hl h
  · exact oneR3 vn vi vb D t p cap w hO hD hl h
  · exact oneR4 vn vi vb D t p cap w hO hD hl h
  · exact oneR5 vn vi vb D t p cap w hO hD hl h
section
variable (vn vi : ByteArray → Bool) (vb : Int → Bool) (D : Tm → Prop)
set_option maxRecDepth 100000 in
set_option maxHeartbeats 4000000 in
theorem allR_any (d : Nat) : ∀ (t : Tm) (p : Option Addr) (cap : Nat) (w : World), nodes t ≤ d → TmAt w t p → OracleR vn vi vb D w → AllT D t →
    Calls Tryz.prog 75 #[t.val p cap] w fun e w' => e = .returned (.int .i64 (treeErr vn vi vb t)) ∧ Below w.heap.size w w' := by
  induction d with
  | zero => intro t p cap w h; have := nodes_pos t; omega
  | succ d ih =>
    intro t p cap w hd hT hO hD
    obtain ⟨W0, hW0⟩ : ∃ W0, W0 = w.alloc (tobj t p cap) := ⟨_, rfl⟩
    have hB := hid (show Below w.heap.size w W0 by rw [hW0]; exact (Below.refl w.heap.size w).alloc (Nat.le_refl _) (tobj t p cap))
    have HS := hid (show W0.heap[w.heap.size]? = some (tobj t p cap) by rw [hW0]; exact heap_alloc_new w (tobj t p cap))
    have N0 := oneR_any vn vi vb D t p cap W0 (hO.keep hB.out) hD.head hT.len
    have hlen := hT.len
    have HT := hid hT
    have HO := hid hO
    have HNE := hid (fun k (h : k < t.args.length) => (show nodes t.args[k] ≤ d by have := nodes_lt h; omega))
    have HDA := hid (fun k hk => hD.arg k hk)
    have HE := hid (treeErr_args vn vi vb t)
    have HRD := hid (fun k hk => rowErr_drop vn vi vb t.args k hk)
    unfold tobj at hW0
    unfold Tm.val at N0 ih ⊢
    unfold maxLen at hlen
    have IH := hid ih
    have HN0 := hid N0
    clear ih N0 hT hO hD
    generalize nodeErr vn vi vb t = z at *
    generalize treeErr vn vi vb t = r at *
    have HE2 := hid (show r = if z = 0 then rowErr vn vi vb (t.args.drop 0) else z from HE.out)
    clear HE
    go_enter Tryz.func75, Tryz.ntmps75
    go_wp2_with (go_at_call 101; rw [← hW0]; (with_reducible refine HN0.out.mono ?_); rintro e w1 ⟨rfl, hb1⟩; have S1 := hid ((hb1.block _ (lt_of_block HS.out)).trans HS.out); have BW := hid (hB.out.trans (hb1.mono hB.out.size)); clear hb1 HN0)
    go_loopw [3, 4] (fun c i wr => ∃ (k : Nat) (y : Int), k ≤ t.args.length ∧ i = .int .i64 (k : Int) ∧ c = .int .i64 y ∧ Hid (r = if y = 0 then rowErr vn vi vb (t.args.drop k) else y) ∧ Hid (Below w.heap.size w wr) ∧ Hid (wr.heap[w.heap.size]? = some (tobj t p cap))) (fun _ i _ => t.args.length - (intOf i).toNat)
    case atStart => exact ⟨0, z, by omega, rfl, rfl, HE2, BW, S1⟩
    case round =>
      clear BW HE2 S1 HS
      obtain ⟨k, y, hk, rfl, rfl, hr, hBr, hSr⟩ := hrel
      have x5 : wr.cell? ⟨w.heap.size, 5, none⟩ = some (.slice p t.args.length cap) := (six_of hSr.out).c5
      by_cases hlt : k < t.args.length
      · by_cases hy : y = 0
        · subst hy
          obtain ⟨b, o, rfl, q, cq, hs, ht⟩ := (HT.out.keep hBr.out).get k hlt
          have HOA := hid (HO.out.keep hBr.out)
          obtain ⟨y0, y1, y2, y3, y4, y5⟩ := hs
          have HNK := hid (HNE.out k hlt)
          have HDK := hid (HDA.out k hlt)
          have HRN := hid (show r = if treeErr vn vi vb t.args[k] = 0 then rowErr vn vi vb (t.args.drop (k + 1)) else treeErr vn vi vb t.args[k] by rw [hr.out, if_pos rfl, HRD.out k hlt])
          have HTK := hid ht
          clear ht hr
          generalize t.args[k] = u at *
          have HC := hid (IH.out u q cq wr HNK.out HTK.out HOA.out HDK.out)
          generalize treeErr vn vi vb u = x at *
          go_wp2_with (go_at_call 75; (with_reducible refine HC.out.mono ?_); rintro e w2 ⟨rfl, hb2⟩; have B2 := hid (hBr.out.trans (hb2.mono hBr.out.size)); have S2 := hid ((hb2.block _ (lt_of_block hSr.out)).trans hSr.out); clear hb2)
          go_roundw
          case rel => exact ⟨k + 1, x, by omega, by go_num, rfl, HRN, B2, S2⟩
          case measure => simp [intOf]; omega
        · have hq : (y == 0) = false := beq_eq_false_iff_ne.2 hy
          have HRN := hid (show r = y by rw [hr.out, if_neg hy])
          clear hr hy
          go_wp2_with fail
          go_ret
          exact ⟨ret_int (by rw [HRN.out]), hBr.out⟩
      · obtain rfl : k = t.args.length := by omega
        have HRN := hid (show r = y by rw [hr.out, List.drop_length]; split <;> simp_all [rowErr])
        clear hr hlt
        go_wp2_with fail
        go_ret
        exact ⟨ret_int (by rw [HRN.out]), hBr.out⟩
set_option maxRecDepth 100000 in
set_option maxHeartbeats 4000000 in
theorem checkR_any (t : Tm) (p : Option Addr) (cap : Nat) (w : World) (hT : TmAt w t p) (hO : OracleR vn vi vb D w) (hD : AllT D t) :
    Calls Tryz.prog 31 #[t.val p cap] w fun e w' => e = .returned (.int .i64 (checkErr vn vi vb t)) ∧ Below w.heap.size w w' := by
  obtain ⟨W0, hW0⟩ : ∃ W0, W0 = w.alloc (tobj t p cap) := ⟨_, rfl⟩
  have hB := hid (show Below w.heap.size w W0 by rw [hW0]; exact (Below.refl w.heap.size w).alloc (Nat.le_refl _) (tobj t p cap))
  have HS := hid (show W0.heap[w.heap.size]? = some (tobj t p cap) by rw [hW0]; exact heap_alloc_new w (tobj t p cap))
  have N0 := nodesR_any t p cap W0 (hT.keep hB.out)
  have TR := fun W (h : Below W0.heap.size W0 W) => allR_any vn vi vb D (nodes t) t p cap W (Nat.le_refl _) ((hT.keep hB.out).keep h) ((hO.keep hB.out).keep h) hD
  obtain ⟨x0, x1, x2, x3, x4, x5⟩ := six_of HS.out
  obtain ⟨c, hc⟩ : ∃ c, c = capped (nodes t) 4001 := ⟨_, rfl⟩
  obtain ⟨r, hr⟩ : ∃ r, r = checkErr vn vi vb t := ⟨_, rfl⟩
  rw [← hr]
  rw [← hc] at N0
  unfold checkErr at hr
  have hcr : (4000 < c ∧ r = 24) ∨ (c ≤ 4000 ∧ r = treeErr vn vi vb t) := by
    unfold capped at hc
    by_cases h : 4000 < nodes t
    · rw [if_pos h] at hr
      left
      refine ⟨?_, hr⟩
      split at hc <;> omega
    · rw [if_neg h] at hr
      right
      refine ⟨?_, hr⟩
      split at hc <;> omega
  unfold tobj at hW0
  unfold Tm.val at N0 TR ⊢
  have HN0 := hid N0
  have HTR := hid TR
  clear hc hr N0 TR HS hT hO hD
  generalize treeErr vn vi vb t = y at *
  rcases hcr with ⟨hc, rfl⟩ | ⟨hc, rfl⟩
  · go_enter Tryz.func31, Tryz.ntmps31
    go_wp2_with (go_at_call 72; rw [← hW0]; (with_reducible refine HN0.out.mono ?_); rintro e w1 ⟨rfl, hb1⟩; have BW := hid (hB.out.trans (hb1.mono hB.out.size)); clear hb1 HN0)
    go_ret
    exact ⟨rfl, BW.out⟩
  · go_enter Tryz.func31, Tryz.ntmps31
    go_wp2_with (first
      | (go_at_call 72; rw [← hW0]; (with_reducible refine HN0.out.mono ?_); rintro e w1 ⟨rfl, hb1⟩; have BW := hid (hB.out.trans (hb1.mono hB.out.size)); have B1 := hid hb1; have y0 := heap_cell_keep hb1 x0; have y1 := heap_cell_keep hb1 x1; have y2 := heap_cell_keep hb1 x2; have y3 := heap_cell_keep hb1 x3; have y4 := heap_cell_keep hb1 x4; have y5 := heap_cell_keep hb1 x5; clear hb1 HN0)
      | (go_at_call 75; (with_reducible refine (HTR.out _ B1.out).mono ?_); rintro e w2 ⟨rfl, hb2⟩; have B2 := hid (BW.out.trans (hb2.mono BW.out.size)); clear hb2))
    go_ret
    exact ⟨rfl, B2.out⟩
end
end Go.Proofs.YtkapejcbmonfkaaGreatDoor

namespace Go.Proofs.YtkapejcbmonfkaaGreatDoor
open Go.RowKit

/-- What each node of a tree in memory holds: texts that may be, bits of 64 binary digits, a number of 64. -/
structure DomA (t : Tm) : Prop where
  name : t.name.size ≤ 9223372036854775807
  num : t.num.size ≤ 9223372036854775807
  lo : 0 ≤ t.bits
  hi : t.bits < 18446744073709551616
  var : (Lit.int .i64 t.var).wf = true
  kind : (Lit.int .i64 t.kind).wf = true
theorem vrest_zero (s : ByteArray) : vrest s 0 = vName s := rfl
theorem oracleA (w : World) (hU : Utf w) : Oracle vName numOk bitsOk DomA w :=
  ⟨fun W hW t hD => Tryz.utf8_ValidString t.name W hD.name (hU.keep hW),
   fun W _ t hD _ => isNum_any t.num W (by unfold maxLen; exact hD.num),
   fun W _ t hD _ => by
    obtain ⟨n, hn⟩ : ∃ n : Nat, t.bits = (n : Int) := ⟨t.bits.toNat, by have := hD.lo; omega⟩
    have h2 := hD.hi
    rw [hn]
    exact (areBits_any n W (by omega)).mono fun e w' ⟨h1, h2⟩ => ⟨h1, by subst h2; exact Below.refl _ _⟩⟩
theorem oracleRA (w : World) : OracleR vName numOk bitsOk DomA w :=
  ⟨fun W _ t hD => by rw [← vrest_zero]; exact utf_any t.name W (by unfold maxLen; exact hD.name),
   fun W _ t hD _ => canonical_any t.num W (by unfold maxLen; exact hD.num),
   fun W _ t hD _ => by
    obtain ⟨n, hn⟩ : ∃ n : Nat, t.bits = (n : Int) := ⟨t.bits.toNat, by have := hD.lo; omega⟩
    have h2 := hD.hi
    rw [hn]
    exact floats_any n W (by omega)⟩
end Go.Proofs.YtkapejcbmonfkaaGreatDoor
