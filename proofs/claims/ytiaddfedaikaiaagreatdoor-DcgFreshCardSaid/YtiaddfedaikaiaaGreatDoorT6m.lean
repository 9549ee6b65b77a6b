/- Walks: hasFieldsOfItsKind. No condition but those that each theorem names. Walks: checkNode, where contracts of ValidString, isNum, areBits are given for the node at hand. No condition but those that each theorem names. Walks: checkTree, Check, checkAll, where contracts of ValidString, isNum, areBits are given for the nodes at hand. No condition but those that each theorem names. -/
import Derived.Outline
import Derived.Test.YtiaddfedaikaiaaGreatDoorT2m
namespace Go.Proofs.YtiaddfedaikaiaaGreatDoor
open Go.RowKit

theorem la_zero (la : Nat) : ((la : Int) == 0) = decide (la = 0) := by
  rw [Bool.eq_iff_iff]
  simp
theorem ret_bool {a b : Bool} (h : a = b) : Ending.returned (.bool a) = .returned (.bool b) := by rw [h]
set_option maxRecDepth 100000 in
set_option maxHeartbeats 4000000 in
theorem fields_any (t : Tm) (p : Option Addr) (cap : Nat) (w : World) (hl : t.args.length ≤ maxLen) :
    Calls Tryz.prog 163 #[t.val p cap] w fun e w' => e = .returned (.bool (fieldsOk t)) ∧ Below w.heap.size w w' := by
  unfold maxLen at hl
  have hB := hid ((Below.refl w.heap.size w).alloc (Nat.le_refl _) (tobj t p cap))
  obtain ⟨x0, x1, x2, x3, x4, x5⟩ := six_of (heap_alloc_new w (tobj t p cap))
  unfold tobj at hB x0 x1 x2 x3 x4 x5
  unfold Tm.val
  unfold fieldsOk
  generalize t.kind = kd at *
  generalize t.name = nm at *
  generalize t.num = nu at *
  generalize t.bits = bi at *
  generalize t.var = va at *
  generalize t.args.length = la at *
  obtain ⟨q, hq⟩ : ∃ q, q = (decide (1 ≤ kd) && decide (kd ≤ 5) && (decide (kd = 2) || decide (kd = 5) || nm.toList.isEmpty) && (decide (kd = 3) || nu.toList.isEmpty) && (decide (kd = 4) || decide (bi = 0)) && (decide (kd = 1) || decide (va = 0)) && decide (0 ≤ va) && (if kd = 5 then decide (0 < la) && decide (la ≤ 64) else decide (la = 0))) := ⟨_, rfl⟩
  rw [← hq]
  have HQ := hid hq
  clear hq
  have hnm : nm.toList.isEmpty = true ∨ nm.toList.isEmpty = false := by cases nm.toList.isEmpty <;> simp
  have hnu : nu.toList.isEmpty = true ∨ nu.toList.isEmpty = false := by cases nu.toList.isEmpty <;> simp
  rcases (show kd < 1 ∨ 5 < kd ∨ kd = 1 ∨ kd = 2 ∨ kd = 3 ∨ kd = 4 ∨ kd = 5 by omega) with h | h | rfl | rfl | rfl | rfl | rfl
  · clear hnm hnu
    go_enter Tryz.func163, Tryz.ntmps163
    go_wp2
    go_ret
    exact ⟨ret_bool (by rw [HQ.out, decide_eq_false (show ¬ 1 ≤ kd by omega)]; simp), hB.out⟩
  · clear hnm hnu
    go_enter Tryz.func163, Tryz.ntmps163
    go_wp2
    go_ret
    exact ⟨ret_bool (by rw [HQ.out, decide_eq_false (show ¬ kd ≤ 5 by omega)]; simp), hB.out⟩
  · rcases hnm with hnm | hnm <;> rcases hnu with hnu | hnu
    all_goals
      go_enter Tryz.func163, Tryz.ntmps163
      go_wp2
      all_goals
        go_ret
        refine ⟨ret_bool ?_, hB.out⟩
        rw [HQ.out]
        clear hB HQ
        simp_all
        try first | omega | exact la_zero la
  · clear hnm <;> rcases hnu with hnu | hnu
    all_goals
      go_enter Tryz.func163, Tryz.ntmps163
      go_wp2
      all_goals
        go_ret
        refine ⟨ret_bool ?_, hB.out⟩
        rw [HQ.out]
        clear hB HQ
        simp_all
        try first | omega | exact la_zero la
  · rcases hnm with hnm | hnm <;> clear hnu
    all_goals
      go_enter Tryz.func163, Tryz.ntmps163
      go_wp2
      all_goals
        go_ret
        refine ⟨ret_bool ?_, hB.out⟩
        rw [HQ.out]
        clear hB HQ
        simp_all
        try first | omega | exact la_zero la
  · rcases hnm with hnm | hnm <;> rcases hnu with hnu | hnu
    all_goals
      go_enter Tryz.func163, Tryz.ntmps163
      go_wp2
      all_goals
        go_ret
        refine ⟨ret_bool ?_, hB.out⟩
        rw [HQ.out]
        clear hB HQ
        simp_all
        try first | omega | exact la_zero la
  · clear hnm <;> rcases hnu with hnu | hnu
    all_goals
      go_enter Tryz.func163, Tryz.ntmps163
      go_wp2
      all_goals
        go_ret
        refine ⟨ret_bool ?_, hB.out⟩
        rw [HQ.out]
        clear hB HQ
        simp_all
        try first | omega | exact la_zero la
end Go.Proofs.YtiaddfedaikaiaaGreatDoor

namespace Go.Proofs.YtiaddfedaikaiaaGreatDoor
open Go.RowKit

mutual
/-- A property of each node. -/
def AllT (D : Tm → Prop) : Tm → Prop
  | .mk k n u b v l => D (.mk k n u b v l) ∧ AllR D l
def AllR (D : Tm → Prop) : List Tm → Prop
  | [] => True
  | t :: l => AllT D t ∧ AllR D l
end
theorem AllT.head {D : Tm → Prop} {t : Tm} (h : AllT D t) : D t := by
  cases t; unfold AllT at h; exact h.1
theorem AllR.get {D : Tm → Prop} : ∀ {l : List Tm}, AllR D l → ∀ k (h : k < l.length), AllT D l[k]
  | [], _, k, h => by simp at h
  | t :: l, h, 0, _ => by unfold AllR at h; exact h.1
  | t :: l, h, k + 1, hk => by unfold AllR at h; simpa using AllR.get h.2 k (by simpa using hk)
theorem AllT.arg {D : Tm → Prop} {t : Tm} (h : AllT D t) (k : Nat) (hk : k < t.args.length) : AllT D t.args[k] := by
  cases t; unfold AllT at h; exact h.2.get k hk
/-- Contracts of what looks at names, texts of integers and bits, for the nodes of a kind, from a world on. -/
structure Oracle (vn vi : ByteArray → Bool) (vb : Int → Bool) (D : Tm → Prop) (w : World) : Prop where
  name : ∀ W, Below w.heap.size w W → ∀ t, D t → Calls Tryz.prog 164 #[.string t.name] W fun e w' => e = .returned (.bool (vn t.name)) ∧ Below W.heap.size W w'
  num : ∀ W, Below w.heap.size w W → ∀ t, D t → t.kind = 3 → Calls Tryz.prog 165 #[.string t.num] W fun e w' => e = .returned (.bool (vi t.num)) ∧ Below W.heap.size W w'
  bits : ∀ W, Below w.heap.size w W → ∀ t, D t → t.kind = 4 → Calls Tryz.prog 166 #[.int .u64 t.bits] W fun e w' => e = .returned (.bool (vb t.bits)) ∧ Below W.heap.size W w'
theorem Oracle.keep {vn vi : ByteArray → Bool} {vb : Int → Bool} {D : Tm → Prop} {w w1 : World} (h : Oracle vn vi vb D w) (hb : Below w.heap.size w w1) : Oracle vn vi vb D w1 :=
  ⟨fun W hW => h.name W (hb.trans (hW.mono hb.size)), fun W hW => h.num W (hb.trans (hW.mono hb.size)), fun W hW => h.bits W (hb.trans (hW.mono hb.size))⟩
theorem ret_int {a b : Int} (h : a = b) : Ending.returned (.int .i64 a) = .returned (.int .i64 b) := by rw [h]

set_option maxRecDepth 100000 in
set_option maxHeartbeats 4000000 in
theorem node_any (vn vi : ByteArray → Bool) (vb : Int → Bool) (D : Tm → Prop) (t : Tm) (p : Option Addr) (cap : Nat) (w : World) (hO : Oracle vn vi vb D w) (hD : D t) (hl : t.args.length ≤ maxLen) :
    Calls Tryz.prog 151 #[t.val p cap] w fun e w' => e = .returned (.int .i64 (nodeErr vn vi vb t)) ∧ Below w.heap.size w w' := by
  obtain ⟨W0, hW0⟩ : ∃ W0, W0 = w.alloc (tobj t p cap) := ⟨_, rfl⟩
  have hB := hid (show Below w.heap.size w W0 by rw [hW0]; exact (Below.refl w.heap.size w).alloc (Nat.le_refl _) (tobj t p cap))
  have HS := hid (show W0.heap[w.heap.size]? = some (tobj t p cap) by rw [hW0]; exact heap_alloc_new w (tobj t p cap))
  have FA := fun W => fields_any t p cap W hl
  have HO := hid (hO.keep hB.out)
  have C1 := hid (fun W h => HO.out.name W h t hD)
  have C2 := hid (fun W h => HO.out.num W h t hD)
  have C3 := hid (fun W h => HO.out.bits W h t hD)
  have HQ := hid (rfl : nodeErr vn vi vb t = nodeErr vn vi vb t)
  have HR := hid (Below.refl W0.heap.size W0)
  obtain ⟨x0, x1, x2, x3, x4, x5⟩ := six_of HS.out
  unfold tobj at hW0 HS
  unfold Tm.val at FA ⊢
  have HFA := hid FA
  have KP := hid (fun (W : World) (hW : Below W0.heap.size W0 W) (j : Nat) (v : Value) (h : W0.cell? ⟨w.heap.size, j, none⟩ = some v) => heap_cell_keep hW h)
  obtain ⟨q, hq⟩ : ∃ q, q = nodeErr vn vi vb t := ⟨_, rfl⟩
  rw [← hq]
  unfold nodeErr at hq
  have HN := hid hq
  clear HQ hq HO hO hD FA hl HS
  generalize fieldsOk t = fo at *
  generalize vn t.name = en at *
  generalize vi t.num = eu at *
  generalize vb t.bits = eb at *
  generalize t.kind = kd at *
  generalize t.name = nm at *
  generalize t.num = nu at *
  generalize t.bits = bi at *
  generalize t.var = va at *
  generalize t.args.length = la at *
  have hsz : nm.size ≤ 1000 ∨ 1000 < nm.size := by omega
  have hk : kd = 3 ∨ kd = 4 ∨ (kd ≠ 3 ∧ kd ≠ 4) := by omega
  cases fo
  · clear hsz hk
    go_enter Tryz.func151, Tryz.ntmps151
    go_wp2_with (first
      | (go_at_call 163; rw [← hW0]; (with_reducible refine (HFA.out _).mono ?_); rintro e w1 ⟨rfl, hb1⟩; have B1 := hid (HR.out.trans hb1); clear hb1; have c0 := KP.out _ B1.out _ _ x0; have c1 := KP.out _ B1.out _ _ x1; have c2 := KP.out _ B1.out _ _ x2; have c3 := KP.out _ B1.out _ _ x3))
    go_ret
    exact ⟨ret_int (by rw [HN.out]; simp), hB.out.trans (B1.out.mono hB.out.size)⟩
  · rcases hsz with hsz | hsz
    · cases en
      · clear hk
        go_enter Tryz.func151, Tryz.ntmps151
        go_wp2_with (first
          | (go_at_call 163; rw [← hW0]; (with_reducible refine (HFA.out _).mono ?_); rintro e w1 ⟨rfl, hb1⟩; have B1 := hid (HR.out.trans hb1); clear hb1; have c0 := KP.out _ B1.out _ _ x0; have c1 := KP.out _ B1.out _ _ x1; have c2 := KP.out _ B1.out _ _ x2; have c3 := KP.out _ B1.out _ _ x3)
          | (go_at_call 164; (with_reducible refine (C1.out _ B1.out).mono ?_); rintro e w2 ⟨rfl, hb2⟩; have B2 := hid (B1.out.trans (hb2.mono B1.out.size)); clear hb2))
        go_ret
        exact ⟨ret_int (by rw [HN.out]; simp), hB.out.trans (B2.out.mono hB.out.size)⟩
      · rcases hk with rfl | rfl | ⟨hk1, hk2⟩
        · cases eu
          all_goals
            go_enter Tryz.func151, Tryz.ntmps151
            go_wp2_with (first
              | (go_at_call 163; rw [← hW0]; (with_reducible refine (HFA.out _).mono ?_); rintro e w1 ⟨rfl, hb1⟩; have B1 := hid (HR.out.trans hb1); clear hb1; have c0 := KP.out _ B1.out _ _ x0; have c1 := KP.out _ B1.out _ _ x1; have c2 := KP.out _ B1.out _ _ x2; have c3 := KP.out _ B1.out _ _ x3)
              | (go_at_call 164; (with_reducible refine (C1.out _ B1.out).mono ?_); rintro e w2 ⟨rfl, hb2⟩; have B2 := hid (B1.out.trans (hb2.mono B1.out.size)); clear hb2; have d0 := KP.out _ B2.out _ _ x0; have d2 := KP.out _ B2.out _ _ x2; have d3 := KP.out _ B2.out _ _ x3)
              | (go_at_call 165; (with_reducible refine (C2.out _ B2.out (by simp)).mono ?_); rintro e w3 ⟨rfl, hb3⟩; have B3 := hid (B2.out.trans (hb3.mono B2.out.size)); clear hb3; have e0 := KP.out _ B3.out _ _ x0; have e3 := KP.out _ B3.out _ _ x3))
            go_ret
            exact ⟨ret_int (by rw [HN.out]; simp [hsz]), hB.out.trans (B3.out.mono hB.out.size)⟩
        · cases eb
          all_goals
            go_enter Tryz.func151, Tryz.ntmps151
            go_wp2_with (first
              | (go_at_call 163; rw [← hW0]; (with_reducible refine (HFA.out _).mono ?_); rintro e w1 ⟨rfl, hb1⟩; have B1 := hid (HR.out.trans hb1); clear hb1; have c0 := KP.out _ B1.out _ _ x0; have c1 := KP.out _ B1.out _ _ x1; have c2 := KP.out _ B1.out _ _ x2; have c3 := KP.out _ B1.out _ _ x3)
              | (go_at_call 164; (with_reducible refine (C1.out _ B1.out).mono ?_); rintro e w2 ⟨rfl, hb2⟩; have B2 := hid (B1.out.trans (hb2.mono B1.out.size)); clear hb2; have d0 := KP.out _ B2.out _ _ x0; have d2 := KP.out _ B2.out _ _ x2; have d3 := KP.out _ B2.out _ _ x3)
              | (go_at_call 166; (with_reducible refine (C3.out _ B2.out (by simp)).mono ?_); rintro e w3 ⟨rfl, hb3⟩; have B3 := hid (B2.out.trans (hb3.mono B2.out.size)); clear hb3; have e0 := KP.out _ B3.out _ _ x0; have e3 := KP.out _ B3.out _ _ x3))
            go_ret
            exact ⟨ret_int (by rw [HN.out]; simp [hsz]), hB.out.trans (B3.out.mono hB.out.size)⟩
        · have hq1 : (kd == 3) = false := beq_eq_false_iff_ne.2 hk1
          have hq2 : (kd == 4) = false := beq_eq_false_iff_ne.2 hk2
          have HK := hid (And.intro hk1 hk2)
          clear hk1 hk2
          go_enter Tryz.func151, Tryz.ntmps151
          go_wp2_with (first
            | (go_at_call 163; rw [← hW0]; (with_reducible refine (HFA.out _).mono ?_); rintro e w1 ⟨rfl, hb1⟩; have B1 := hid (HR.out.trans hb1); clear hb1; have c0 := KP.out _ B1.out _ _ x0; have c1 := KP.out _ B1.out _ _ x1; have c2 := KP.out _ B1.out _ _ x2; have c3 := KP.out _ B1.out _ _ x3)
            | (go_at_call 164; (with_reducible refine (C1.out _ B1.out).mono ?_); rintro e w2 ⟨rfl, hb2⟩; have B2 := hid (B1.out.trans (hb2.mono B1.out.size)); clear hb2; have d0 := KP.out _ B2.out _ _ x0; have d2 := KP.out _ B2.out _ _ x2; have d3 := KP.out _ B2.out _ _ x3))
          go_ret
          exact ⟨ret_int (by rw [HN.out]; simp [hsz, HK.out.1, HK.out.2]), hB.out.trans (B2.out.mono hB.out.size)⟩
    · clear hk
      go_enter Tryz.func151, Tryz.ntmps151
      go_wp2_with (first
        | (go_at_call 163; rw [← hW0]; (with_reducible refine (HFA.out _).mono ?_); rintro e w1 ⟨rfl, hb1⟩; have B1 := hid (HR.out.trans hb1); clear hb1; have c0 := KP.out _ B1.out _ _ x0; have c1 := KP.out _ B1.out _ _ x1; have c2 := KP.out _ B1.out _ _ x2; have c3 := KP.out _ B1.out _ _ x3))
      go_ret
      exact ⟨ret_int (by rw [HN.out, decide_eq_false (show ¬ nm.size ≤ 1000 by omega)]; simp), hB.out.trans (B1.out.mono hB.out.size)⟩
end Go.Proofs.YtiaddfedaikaiaaGreatDoor

namespace Go.Proofs.YtiaddfedaikaiaaGreatDoor
open Go.RowKit

section
variable (vn vi : ByteArray → Bool) (vb : Int → Bool) (D : Tm → Prop)
set_option maxRecDepth 100000 in
set_option maxHeartbeats 4000000 in
theorem tree_any (d : Nat) : ∀ (t : Tm) (p : Option Addr) (cap : Nat) (w : World), nodes t ≤ d → TmAt w t p → Oracle vn vi vb D w → AllT D t →
    Calls Tryz.prog 119 #[t.val p cap] w fun e w' => e = .returned (.int .i64 (treeErr vn vi vb t)) ∧ Below w.heap.size w w' := by
  induction d with
  | zero => intro t p cap w h; have := nodes_pos t; omega
  | succ d ih =>
    intro t p cap w hd hT hO hD
    obtain ⟨W0, hW0⟩ : ∃ W0, W0 = w.alloc (tobj t p cap) := ⟨_, rfl⟩
    have hB := hid (show Below w.heap.size w W0 by rw [hW0]; exact (Below.refl w.heap.size w).alloc (Nat.le_refl _) (tobj t p cap))
    have HS := hid (show W0.heap[w.heap.size]? = some (tobj t p cap) by rw [hW0]; exact heap_alloc_new w (tobj t p cap))
    have N0 := node_any vn vi vb D t p cap W0 (hO.keep hB.out) hD.head hT.len
    have hlen := hT.len
    have hne : ∀ k (h : k < t.args.length), nodes t.args[k] ≤ d := fun k h => by have := nodes_lt h; omega
    have HT := hid hT
    have HO := hid hO
    have HNE := hid hne
    have HDA := hid (fun k hk => hD.arg k hk)
    have HE := hid (treeErr_args vn vi vb t)
    have HRD := hid (fun k hk => rowErr_drop vn vi vb t.args k hk)
    obtain ⟨x0, x1, x2, x3, x4, x5⟩ := six_of HS.out
    unfold tobj at hW0
    unfold Tm.val at N0 ih ⊢
    unfold maxLen at hlen
    have IH := hid ih
    have HN0 := hid N0
    clear ih N0 hT hO hD hne HS
    generalize nodeErr vn vi vb t = z at *
    generalize treeErr vn vi vb t = r at *
    by_cases hz : z = 0
    · subst hz
      have HE2 := hid (show r = rowErr vn vi vb t.args by have h := HE.out; simpa using h)
      clear HE
      go_enter Tryz.func119, Tryz.ntmps119
      go_wp2_with (go_at_call 151; rw [← hW0]; (with_reducible refine HN0.out.mono ?_); rintro e w1 ⟨rfl, hb1⟩; have B1 := hid hb1; have c5 := heap_cell_keep hb1 x5; have BW := hid (hB.out.trans (hb1.mono hB.out.size)); clear hb1 HN0)
      go_loopw [15] (fun i wr => ∃ k : Nat, k ≤ t.args.length ∧ i = .int .i64 (k : Int) ∧ Hid (r = rowErr vn vi vb (t.args.drop k)) ∧ Hid (Below w.heap.size w wr)) (fun i _ => t.args.length - (intOf i).toNat)
      case atStart => exact ⟨0, by omega, rfl, HE2, BW⟩
      case round =>
        clear BW HE2
        obtain ⟨k, hk, rfl, hr, hBr⟩ := hrel
        by_cases hlt : k < t.args.length
        · obtain ⟨b, o, rfl, q, cq, hs, ht⟩ := (HT.out.keep hBr.out).get k hlt
          have HOB := hid (rfl : wr.alloc (tobj t.args[k] q cq) = wr.alloc (tobj t.args[k] q cq))
          have hs1 := hBr.out.alloc hBr.out.size (tobj t.args[k] q cq)
          have HTA := hid (ht.keep ((Below.refl wr.heap.size wr).alloc (Nat.le_refl _) (tobj t.args[k] q cq)))
          have HOA := hid (HO.out.keep hs1)
          obtain ⟨x0, x1, x2, x3, x4, x5⟩ := hs
          have HS1 := hid hs1
          have HNK := hid (HNE.out k hlt)
          have HDK := hid (HDA.out k hlt)
          have HRK := hid (HRD.out k hlt)
          clear ht hs1 HOB
          unfold tobj at HTA HOA HS1
          generalize t.args[k] = u at *
          have HC := hid (IH.out u q cq _ HNK.out HTA.out HOA.out HDK.out)
          generalize treeErr vn vi vb u = y at *
          by_cases hy : y = 0
          · subst hy
            have HRN := hid (show r = rowErr vn vi vb (t.args.drop (k + 1)) by rw [hr.out, HRK.out, if_pos rfl])
            clear HRK hr
            go_wp2_with (go_at_call 119; (with_reducible refine HC.out.mono ?_); rintro e w2 ⟨rfl, hb2⟩; have B2 := hid (HS1.out.trans (hb2.mono HS1.out.size)); clear hb2)
            go_roundw
            case rel => exact ⟨k + 1, by omega, by go_num, HRN, B2⟩
            case measure => simp [intOf]; omega
          · have hq : (y == 0) = false := beq_eq_false_iff_ne.2 hy
            have hq2 : (y != 0) = true := by simp [hy]
            have HRN := hid (show r = y by rw [hr.out, HRK.out, if_neg hy])
            clear HRK hr hy
            go_wp2_with (go_at_call 119; (with_reducible refine HC.out.mono ?_); rintro e w2 ⟨rfl, hb2⟩; have B2 := hid (HS1.out.trans (hb2.mono HS1.out.size)); clear hb2)
            go_ret
            exact ⟨ret_int (by rw [HRN.out]), B2.out⟩
        · obtain rfl : k = t.args.length := by omega
          clear hlt
          go_wp2_with fail
          go_ret
          exact ⟨ret_int (by rw [hr.out, List.drop_length]; rfl), hBr.out⟩
    · have hq : (z == 0) = false := beq_eq_false_iff_ne.2 hz
      have hq2 : (z != 0) = true := by simp [hz]
      have HE2 := hid (show r = z by have h := HE.out; rw [h, if_neg hz])
      clear HE hz
      go_enter Tryz.func119, Tryz.ntmps119
      go_wp2_with (go_at_call 151; rw [← hW0]; (with_reducible refine HN0.out.mono ?_); rintro e w1 ⟨rfl, hb1⟩; have BW := hid (hB.out.trans (hb1.mono hB.out.size)); clear hb1 HN0)
      go_ret
      exact ⟨ret_int (by rw [HE2.out]), BW.out⟩
set_option maxRecDepth 100000 in
set_option maxHeartbeats 4000000 in
theorem check_any (t : Tm) (p : Option Addr) (cap : Nat) (w : World) (hT : TmAt w t p) (hO : Oracle vn vi vb D w) (hD : AllT D t) :
    Calls Tryz.prog 66 #[t.val p cap] w fun e w' => e = .returned (.int .i64 (checkErr vn vi vb t)) ∧ Below w.heap.size w w' := by
  obtain ⟨W0, hW0⟩ : ∃ W0, W0 = w.alloc (tobj t p cap) := ⟨_, rfl⟩
  have hB := hid (show Below w.heap.size w W0 by rw [hW0]; exact (Below.refl w.heap.size w).alloc (Nat.le_refl _) (tobj t p cap))
  have HS := hid (show W0.heap[w.heap.size]? = some (tobj t p cap) by rw [hW0]; exact heap_alloc_new w (tobj t p cap))
  have N0 := nodes_any t p cap W0 (hT.keep hB.out)
  have TR := fun W (h : Below W0.heap.size W0 W) => tree_any vn vi vb D (nodes t) t p cap W (Nat.le_refl _) ((hT.keep hB.out).keep h) ((hO.keep hB.out).keep h) hD
  obtain ⟨x0, x1, x2, x3, x4, x5⟩ := six_of HS.out
  obtain ⟨c, hc⟩ : ∃ c, c = capped (nodes t) 4001 := ⟨_, rfl⟩
  obtain ⟨r, hr⟩ : ∃ r, r = checkErr vn vi vb t := ⟨_, rfl⟩
  rw [← hr]
  rw [← hc] at N0
  unfold checkErr at hr
  have hcr : (4000 < c ∧ r = 24) ∨ (c ≤ 4000 ∧ r = treeErr vn vi vb t) := by
    unfold capped at hc
    by_cases h : 4000 < nodes t
    · rw [if_pos h] at hr
      left
      refine ⟨?_, hr⟩
      split at hc <;> omega
    · rw [if_neg h] at hr
      right
      refine ⟨?_, hr⟩
      split at hc <;> omega
  unfold tobj at hW0
  unfold Tm.val at N0 TR ⊢
  have HN0 := hid N0
  have HTR := hid TR
  clear hc hr N0 TR HS hT hO hD
  generalize treeErr vn vi vb t = y at *
  rcases hcr with ⟨hc, rfl⟩ | ⟨hc, rfl⟩
  · go_enter Tryz.func66, Tryz.ntmps66
    go_wp2_with (go_at_call 118; rw [← hW0]; (with_reducible refine HN0.out.mono ?_); rintro e w1 ⟨rfl, hb1⟩; have BW := hid (hB.out.trans (hb1.mono hB.out.size)); clear hb1 HN0)
    go_ret
    exact ⟨rfl, BW.out⟩
  · go_enter Tryz.func66, Tryz.ntmps66
    go_wp2_with (first
      | (go_at_call 118; rw [← hW0]; (with_reducible refine HN0.out.mono ?_); rintro e w1 ⟨rfl, hb1⟩; have BW := hid (hB.out.trans (hb1.mono hB.out.size)); have B1 := hid hb1; have y0 := heap_cell_keep hb1 x0; have y1 := heap_cell_keep hb1 x1; have y2 := heap_cell_keep hb1 x2; have y3 := heap_cell_keep hb1 x3; have y4 := heap_cell_keep hb1 x4; have y5 := heap_cell_keep hb1 x5; clear hb1 HN0)
      | (go_at_call 119; (with_reducible refine (HTR.out _ B1.out).mono ?_); rintro e w2 ⟨rfl, hb2⟩; have B2 := hid (BW.out.trans (hb2.mono BW.out.size)); clear hb2))
    go_ret
    exact ⟨rfl, B2.out⟩
set_option maxRecDepth 100000 in
set_option maxHeartbeats 4000000 in
/-- checkAll of a row of terms. -/
theorem checks_any (l : List Tm) (p : Option Addr) (cap : Nat) (w : World) (hlen : l.length ≤ maxLen) (hR : l = [] ∨ ∃ b o, p = some ⟨b, o, none⟩ ∧ RowT w l b o) (hO : Oracle vn vi vb D w) (hD : AllR D l) :
    Calls Tryz.prog 98 #[.slice p l.length cap] w fun e w' => e = .returned (.int .i64 (checksErr vn vi vb l)) ∧ Below w.heap.size w w' := by
  have HR := hid hR
  have HO := hid hO
  have HDA := hid (fun k hk => hD.get (l := l) k hk)
  have HRD := hid (fun k hk => checksErr_drop vn vi vb l k hk)
  have HB := hid (Below.refl w.heap.size w)
  obtain ⟨r, hr⟩ : ∃ r, r = checksErr vn vi vb l := ⟨_, rfl⟩
  rw [← hr]
  have HE := hid (show r = checksErr vn vi vb (l.drop 0) from hr)
  unfold maxLen at hlen
  clear hR hO hD hr
  go_enter Tryz.func98, Tryz.ntmps98
  go_wp2_with fail
  go_loopw [8] (fun i wr => ∃ k : Nat, k ≤ l.length ∧ i = .int .i64 (k : Int) ∧ Hid (r = checksErr vn vi vb (l.drop k)) ∧ Hid (Below w.heap.size w wr)) (fun i _ => l.length - (intOf i).toNat)
  case atStart => exact ⟨0, by omega, rfl, HE, HB⟩
  case round =>
    clear HB HE
    obtain ⟨k, hk, rfl, hr, hBr⟩ := hrel
    by_cases hlt : k < l.length
    · obtain ⟨b, o, rfl, hRT⟩ : ∃ b o, p = some ⟨b, o, none⟩ ∧ RowT w l b o := by
        rcases HR.out with rfl | h
        · simp at hlt
        · exact h
      obtain ⟨q, cq, hs, ht⟩ := (RowT.keep hBr.out hRT).get k hlt
      have hs1 := hBr.out.alloc hBr.out.size (tobj l[k] q cq)
      have HTA := hid (ht.keep ((Below.refl wr.heap.size wr).alloc (Nat.le_refl _) (tobj l[k] q cq)))
      have HOA := hid (HO.out.keep hs1)
      obtain ⟨x0, x1, x2, x3, x4, x5⟩ := hs
      have HS1 := hid hs1
      have HDK := hid (HDA.out k hlt)
      have HRK := hid (HRD.out k hlt)
      clear ht hs1 hRT
      unfold tobj at HTA HOA HS1
      generalize l[k] = u at *
      have C := check_any vn vi vb D u q cq _ HTA.out HOA.out HDK.out
      unfold Tm.val at C
      have HC := hid C
      clear C
      generalize checkErr vn vi vb u = y at *
      by_cases hy : y = 0
      · subst hy
        have HRN := hid (show r = checksErr vn vi vb (l.drop (k + 1)) by rw [hr.out, HRK.out, if_pos rfl])
        clear HRK hr
        go_wp2_with (go_at_call 66; (with_reducible refine HC.out.mono ?_); rintro e w2 ⟨rfl, hb2⟩; have B2 := hid (HS1.out.trans (hb2.mono HS1.out.size)); clear hb2)
        go_roundw
        case rel => exact ⟨k + 1, by omega, by go_num, HRN, B2⟩
        case measure => simp [intOf]; omega
      · have hq : (y == 0) = false := beq_eq_false_iff_ne.2 hy
        have hq2 : (y != 0) = true := by simp [hy]
        have HRN := hid (show r = y by rw [hr.out, HRK.out, if_neg hy])
        clear HRK hr hy
        go_wp2_with (go_at_call 66; (with_reducible refine HC.out.mono ?_); rintro e w2 ⟨rfl, hb2⟩; have B2 := hid (HS1.out.trans (hb2.mono HS1.out.size)); clear hb2)
        go_ret
        exact ⟨ret_int (by rw [HRN.out]), B2.out⟩
    · obtain rfl : k = l.length := by omega
      clear hlt
      go_wp2_with fail
      go_ret
      exact ⟨ret_int (by rw [hr.out, List.drop_length]; rfl), hBr.out⟩
end
end Go.Proofs.YtiaddfedaikaiaaGreatDoor
