/- Walks: checkTree, Check, checkAll, where contracts of ValidString, isNum, areBits are given for the nodes at hand. No condition but those that each theorem names. -/
import Derived.Test.YtpdclfihleoigaaDoorT5
namespace Go.Proofs.YtpdclfihleoigaaDoor
open Go.RowKit

section
variable (vn vi : ByteArray → Bool) (vb : Int → Bool) (D : Tm → Prop)
set_option maxRecDepth 100000 in
set_option maxHeartbeats 4000000 in
theorem tree_any (d : Nat) : ∀ (t : Tm) (p : Option Addr) (cap : Nat) (w : World), nodes t ≤ d → TmAt w t p → Oracle vn vi vb D w → AllT D t →
    Calls Tryd.prog 23 #[t.val p cap] w fun e w' => e = .returned (.int .i64 (treeErr vn vi vb t)) ∧ Below w.heap.size w w' := by
  induction d with
  | zero => intro t p cap w h; have := nodes_pos t; omega
  | succ d ih =>
    intro t p cap w hd hT hO hD
    obtain ⟨W0, hW0⟩ : ∃ W0, W0 = w.alloc (tobj t p cap) := ⟨_, rfl⟩
    have hB := hid (show Below w.heap.size w W0 by rw [hW0]; exact (Below.refl w.heap.size w).alloc (Nat.le_refl _) (tobj t p cap))
    have HS := hid (show W0.heap[w.heap.size]? = some (tobj t p cap) by rw [hW0]; exact heap_alloc_new w (tobj t p cap))
    have N0 := node_any vn vi vb D t p cap W0 (hO.keep hB.out) hD.head hT.len
    have hlen := hT.len
    have hne : ∀ k (h : k < t.args.length), nodes t.args[k] ≤ d := fun k h => by have := nodes_lt h; omega
    have HT := hid hT
    have HO := hid hO
    have HNE := hid hne
    have HDA := hid (fun k hk => hD.arg k hk)
    have HE := hid (treeErr_args vn vi vb t)
    have HRD := hid (fun k hk => rowErr_drop vn vi vb t.args k hk)
    obtain ⟨x0, x1, x2, x3, x4, x5⟩ := six_of HS.out
    unfold tobj at hW0
    unfold Tm.val at N0 ih ⊢
    unfold maxLen at hlen
    have IH := hid ih
    have HN0 := hid N0
    clear ih N0 hT hO hD hne HS
    generalize nodeErr vn vi vb t = z at *
    generalize treeErr vn vi vb t = r at *
    by_cases hz : z = 0
    · subst hz
      have HE2 := hid (show r = rowErr vn vi vb t.args by have h := HE.out; simpa using h)
      clear HE
      go_enter Tryd.func23, Tryd.ntmps23
      go_wp2_with (go_at_call 33; rw [← hW0]; (with_reducible refine HN0.out.mono ?_); rintro e w1 ⟨rfl, hb1⟩; have B1 := hid hb1; have c5 := heap_cell_keep hb1 x5; have BW := hid (hB.out.trans (hb1.mono hB.out.size)); clear hb1 HN0)
      go_loopw [15] (fun i wr => ∃ k : Nat, k ≤ t.args.length ∧ i = .int .i64 (k : Int) ∧ Hid (r = rowErr vn vi vb (t.args.drop k)) ∧ Hid (Below w.heap.size w wr)) (fun i _ => t.args.length - (intOf i).toNat)
      case atStart => exact ⟨0, by omega, rfl, HE2, BW⟩
      case round =>
        clear BW HE2
        obtain ⟨k, hk, rfl, hr, hBr⟩ := hrel
        by_cases hlt : k < t.args.length
        · obtain ⟨b, o, rfl, q, cq, hs, ht⟩ := (HT.out.keep hBr.out).get k hlt
          have HOB := hid (rfl : wr.alloc (tobj t.args[k] q cq) = wr.alloc (tobj t.args[k] q cq))
          have hs1 := hBr.out.alloc hBr.out.size (tobj t.args[k] q cq)
          have HTA := hid (ht.keep ((Below.refl wr.heap.size wr).alloc (Nat.le_refl _) (tobj t.args[k] q cq)))
          have HOA := hid (HO.out.keep hs1)
          obtain ⟨x0, x1, x2, x3, x4, x5⟩ := hs
          have HS1 := hid hs1
          have HNK := hid (HNE.out k hlt)
          have HDK := hid (HDA.out k hlt)
          have HRK := hid (HRD.out k hlt)
          clear ht hs1 HOB
          unfold tobj at HTA HOA HS1
          generalize t.args[k] = u at *
          have HC := hid (IH.out u q cq _ HNK.out HTA.out HOA.out HDK.out)
          generalize treeErr vn vi vb u = y at *
          by_cases hy : y = 0
          · subst hy
            have HRN := hid (show r = rowErr vn vi vb (t.args.drop (k + 1)) by rw [hr.out, HRK.out, if_pos rfl])
            clear HRK hr
            go_wp2_with (go_at_call 23; (with_reducible refine HC.out.mono ?_); rintro e w2 ⟨rfl, hb2⟩; have B2 := hid (HS1.out.trans (hb2.mono HS1.out.size)); clear hb2)
            go_roundw
            case rel => exact ⟨k + 1, by omega, by go_num, HRN, B2⟩
            case measure => simp [intOf]; omega
          · have hq : (y == 0) = false := beq_eq_false_iff_ne.2 hy
            have hq2 : (y != 0) = true := by simp [hy]
            have HRN := hid (show r = y by rw [hr.out, HRK.out, if_neg hy])
            clear HRK hr hy
            go_wp2_with (go_at_call 23; (with_reducible refine HC.out.mono ?_); rintro e w2 ⟨rfl, hb2⟩; have B2 := hid (HS1.out.trans (hb2.mono HS1.out.size)); clear hb2)
            go_ret
            exact ⟨ret_int (by rw [HRN.out]), B2.out⟩
        · obtain rfl : k = t.args.length := by omega
          clear hlt
          go_wp2_with fail
          go_ret
          exact ⟨ret_int (by rw [hr.out, List.drop_length]; rfl), hBr.out⟩
    · have hq : (z == 0) = false := beq_eq_false_iff_ne.2 hz
      have hq2 : (z != 0) = true := by simp [hz]
      have HE2 := hid (show r = z by have h := HE.out; rw [h, if_neg hz])
      clear HE hz
      go_enter Tryd.func23, Tryd.ntmps23
      go_wp2_with (go_at_call 33; rw [← hW0]; (with_reducible refine HN0.out.mono ?_); rintro e w1 ⟨rfl, hb1⟩; have BW := hid (hB.out.trans (hb1.mono hB.out.size)); clear hb1 HN0)
      go_ret
      exact ⟨ret_int (by rw [HE2.out]), BW.out⟩
set_option maxRecDepth 100000 in
set_option maxHeartbeats 4000000 in
theorem check_any (t : Tm) (p : Option Addr) (cap : Nat) (w : World) (hT : TmAt w t p) (hO : Oracle vn vi vb D w) (hD : AllT D t) :
    Calls Tryd.prog 9 #[t.val p cap] w fun e w' => e = .returned (.int .i64 (checkErr vn vi vb t)) ∧ Below w.heap.size w w' := by
  obtain ⟨W0, hW0⟩ : ∃ W0, W0 = w.alloc (tobj t p cap) := ⟨_, rfl⟩
  have hB := hid (show Below w.heap.size w W0 by rw [hW0]; exact (Below.refl w.heap.size w).alloc (Nat.le_refl _) (tobj t p cap))
  have HS := hid (show W0.heap[w.heap.size]? = some (tobj t p cap) by rw [hW0]; exact heap_alloc_new w (tobj t p cap))
  have N0 := nodes_any t p cap W0 (hT.keep hB.out)
  have TR := fun W (h : Below W0.heap.size W0 W) => tree_any vn vi vb D (nodes t) t p cap W (Nat.le_refl _) ((hT.keep hB.out).keep h) ((hO.keep hB.out).keep h) hD
  obtain ⟨x0, x1, x2, x3, x4, x5⟩ := six_of HS.out
  obtain ⟨c, hc⟩ : ∃ c, c = capped (nodes t) 4001 := ⟨_, rfl⟩
  obtain ⟨r, hr⟩ : ∃ r, r = checkErr vn vi vb t := ⟨_, rfl⟩
  rw [← hr]
  rw [← hc] at N0
  unfold checkErr at hr
  have hcr : (4000 < c ∧ r = 24) ∨ (c ≤ 4000 ∧ r = treeErr vn vi vb t) := by
    unfold capped at hc
    by_cases h : 4000 < nodes t
    · rw [if_pos h] at hr
      left
      refine ⟨?_, hr⟩
      split at hc <;> omega
    · rw [if_neg h] at hr
      right
      refine ⟨?_, hr⟩
      split at hc <;> omega
  unfold tobj at hW0
  unfold Tm.val at N0 TR ⊢
  have HN0 := hid N0
  have HTR := hid TR
  clear hc hr N0 TR HS hT hO hD
  generalize treeErr vn vi vb t = y at *
  rcases hcr with ⟨hc, rfl⟩ | ⟨hc, rfl⟩
  · go_enter Tryd.func9, Tryd.ntmps9
    go_wp2_with (go_at_call 7; rw [← hW0]; (with_reducible refine HN0.out.mono ?_); rintro e w1 ⟨rfl, hb1⟩; have BW := hid (hB.out.trans (hb1.mono hB.out.size)); clear hb1 HN0)
    go_ret
    exact ⟨rfl, BW.out⟩
  · go_enter Tryd.func9, Tryd.ntmps9
    go_wp2_with (first
      | (go_at_call 7; rw [← hW0]; (with_reducible refine HN0.out.mono ?_); rintro e w1 ⟨rfl, hb1⟩; have BW := hid (hB.out.trans (hb1.mono hB.out.size)); have B1 := hid hb1; have y0 := heap_cell_keep hb1 x0; have y1 := heap_cell_keep hb1 x1; have y2 := heap_cell_keep hb1 x2; have y3 := heap_cell_keep hb1 x3; have y4 := heap_cell_keep hb1 x4; have y5 := heap_cell_keep hb1 x5; clear hb1 HN0)
      | (go_at_call 23; (with_reducible refine (HTR.out _ B1.out).mono ?_); rintro e w2 ⟨rfl, hb2⟩; have B2 := hid (BW.out.trans (hb2.mono BW.out.size)); clear hb2))
    go_ret
    exact ⟨rfl, B2.out⟩
set_option maxRecDepth 100000 in
set_option maxHeartbeats 4000000 in
/-- checkAll of a row of terms. -/
theorem checks_any (l : List Tm) (p : Option Addr) (cap : Nat) (w : World) (hlen : l.length ≤ maxLen) (hR : l = [] ∨ ∃ b o, p = some ⟨b, o, none⟩ ∧ RowT w l b o) (hO : Oracle vn vi vb D w) (hD : AllR D l) :
    Calls Tryd.prog 26 #[.slice p l.length cap] w fun e w' => e = .returned (.int .i64 (checksErr vn vi vb l)) ∧ Below w.heap.size w w' := by
  have HR := hid hR
  have HO := hid hO
  have HDA := hid (fun k hk => hD.get (l := l) k hk)
  have HRD := hid (fun k hk => checksErr_drop vn vi vb l k hk)
  have HB := hid (Below.refl w.heap.size w)
  obtain ⟨r, hr⟩ : ∃ r, r = checksErr vn vi vb l := ⟨_, rfl⟩
  rw [← hr]
  have HE := hid (show r = checksErr vn vi vb (l.drop 0) from hr)
  unfold maxLen at hlen
  clear hR hO hD hr
  go_enter Tryd.func26, Tryd.ntmps26
  go_wp2_with fail
  go_loopw [8] (fun i wr => ∃ k : Nat, k ≤ l.length ∧ i = .int .i64 (k : Int) ∧ Hid (r = checksErr vn vi vb (l.drop k)) ∧ Hid (Below w.heap.size w wr)) (fun i _ => l.length - (intOf i).toNat)
  case atStart => exact ⟨0, by omega, rfl, HE, HB⟩
  case round =>
    clear HB HE
    obtain ⟨k, hk, rfl, hr, hBr⟩ := hrel
    by_cases hlt : k < l.length
    · obtain ⟨b, o, rfl, hRT⟩ : ∃ b o, p = some ⟨b, o, none⟩ ∧ RowT w l b o := by
        rcases HR.out with rfl | h
        · simp at hlt
        · exact h
      obtain ⟨q, cq, hs, ht⟩ := (RowT.keep hBr.out hRT).get k hlt
      have hs1 := hBr.out.alloc hBr.out.size (tobj l[k] q cq)
      have HTA := hid (ht.keep ((Below.refl wr.heap.size wr).alloc (Nat.le_refl _) (tobj l[k] q cq)))
      have HOA := hid (HO.out.keep hs1)
      obtain ⟨x0, x1, x2, x3, x4, x5⟩ := hs
      have HS1 := hid hs1
      have HDK := hid (HDA.out k hlt)
      have HRK := hid (HRD.out k hlt)
      clear ht hs1 hRT
      unfold tobj at HTA HOA HS1
      generalize l[k] = u at *
      have C := check_any vn vi vb D u q cq _ HTA.out HOA.out HDK.out
      unfold Tm.val at C
      have HC := hid C
      clear C
      generalize checkErr vn vi vb u = y at *
      by_cases hy : y = 0
      · subst hy
        have HRN := hid (show r = checksErr vn vi vb (l.drop (k + 1)) by rw [hr.out, HRK.out, if_pos rfl])
        clear HRK hr
        go_wp2_with (go_at_call 9; (with_reducible refine HC.out.mono ?_); rintro e w2 ⟨rfl, hb2⟩; have B2 := hid (HS1.out.trans (hb2.mono HS1.out.size)); clear hb2)
        go_roundw
        case rel => exact ⟨k + 1, by omega, by go_num, HRN, B2⟩
        case measure => simp [intOf]; omega
      · have hq : (y == 0) = false := beq_eq_false_iff_ne.2 hy
        have hq2 : (y != 0) = true := by simp [hy]
        have HRN := hid (show r = y by rw [hr.out, HRK.out, if_neg hy])
        clear HRK hr hy
        go_wp2_with (go_at_call 9; (with_reducible refine HC.out.mono ?_); rintro e w2 ⟨rfl, hb2⟩; have B2 := hid (HS1.out.trans (hb2.mono HS1.out.size)); clear hb2)
        go_ret
        exact ⟨ret_int (by rw [HRN.out]), B2.out⟩
    · obtain rfl : k = l.length := by omega
      clear hlt
      go_wp2_with fail
      go_ret
      exact ⟨ret_int (by rw [hr.out, List.drop_length]; rfl), hBr.out⟩
end
end Go.Proofs.YtpdclfihleoigaaDoor
