/- Walks of the document's answer: Less, add, sub. No condition but those that each theorem names. -/
import Derived.Test.YtldafoojkimdeaaDoorR1
namespace Go.Proofs.YtldafoojkimdeaaDoor
open Go.RowKit Lm

theorem app_below {B : Nat} {w wr w5 : World} {o : Obj} {v : Value} (hb : Below B w wr) (hB : B ≤ wr.heap.size) (hgrow : (wr.alloc o).grownBy w5 v.ownBlock) (hl : ∀ k, v.ownBlock = some k → B ≤ k) : Below B w w5 :=
  (hb.alloc hB _).grown hgrow (by simp; omega) hl
theorem Gri.snoc {B : Nat} {w : World} {v : Value} {L : List Nat} {z : Int} (x : Nat) (h : w.ownsRow B 3 1 v (L.length + 1) (ints L ++ [.int .i64 z])) (hz : z = (x : Int)) : Gri B w v (L ++ [x]) := by
  unfold Gri; rw [List.length_append]; rw [ints_snoc _ _ hz] at h; exact h

theorem bitR_q (ao : Option Addr) (len cap : Nat) (A : List Nat) (i : Nat) (w : World) (h : Ri w ao len cap A) :
    Calls Tryd.prog 105 #[.slice ao len cap, .int .i64 (i : Int)] w fun e w' => e = .returned (.int .i64 (dg A i : Int)) ∧ w' = w :=
  (bitR ao len cap A i w h).mono fun _ _ ⟨h1, h2⟩ => ⟨h1, h2.symm⟩

set_option maxRecDepth 100000 in
set_option maxHeartbeats 400000 in
theorem lessR (aa : Option Addr) (la ca : Nat) (A : List Nat) (ab : Option Addr) (lb cb : Nat) (B : List Nat) (w : World) (hA : Ri w aa la ca A) (hB : Ri w ab lb cb B) (bA : B1 A) (bB : B1 B) (tA : Top A) (tB : Top B) :
    Calls Tryd.prog 81 #[.slice aa la ca, .slice ab lb cb] w fun e w' => e = .returned (.bool (decide (bv A < bv B))) ∧ Below w.heap.size w w' := by
  have HA := hid hA.size
  have HB := hid hB.size
  have hm := hA.most
  have hm' := hB.most
  by_cases hl : la = lb
  · subst hl
    go_enter Tryd.func81, Tryd.ntmps81
    go_wp2
    go_loopw [5] (fun i wr => ∃ k : Nat, k ≤ la ∧ i = .int .i64 ((k : Int) - 1) ∧ Hid (∀ j, k ≤ j → j < A.length → dg A j = dg B j) ∧ Below w.heap.size w wr) (fun i _ => (intOf i + 1).toNat)
    case atStart => exact ⟨la, Nat.le_refl _, rfl, hid (fun j h1 h2 => by rw [HA.out] at h2; omega), Below.refl _ _⟩
    case round =>
      obtain ⟨k, hk, rfl, ht, hb⟩ := hrel
      cases k with
      | zero =>
        have HE : Hid (decide (bv A < bv B) = false) := hid (by
          have e := bv_above A B 0 (by rw [HA.out, HB.out]) ht.out
          rw [List.drop_zero, List.drop_zero] at e
          rw [e]; simp)
        go_wp2
        go_ret
        exact ⟨by rw [HE.out]; rfl, hb⟩
      | succ m =>
        obtain ⟨b, off, rfl, hc⟩ := (hA.keep hb).cells (by omega)
        obtain ⟨b', off', rfl, hc'⟩ := (hB.keep hb).cells (by omega)
        have hcm := hc m (by omega)
        have hcm' := hc' m (by omega)
        clear hc hc'
        have hi : ((m + 1 : Nat) : Int) - 1 = (m : Int) := by omega
        rw [hi]; clear hi
        by_cases hz : dg A m = dg B m
        · have hz' : ((dg A m : Int) == (dg B m : Int)) = true := by simp [hz]
          have HZ := hid hz; clear hz
          go_wp2
          go_quiet (fail)
          go_wp2
          go_roundw
          case rel => exact ⟨m, by omega, by go_num, hid (fun j h1 h2 => by
            rcases Nat.eq_or_lt_of_le h1 with rfl | h3
            · exact HZ.out
            · exact ht.out j h3 h2), bdrew hb _⟩
          case measure => simp [intOf]
        · have hz' : ((dg A m : Int) == (dg B m : Int)) = false := by simp; exact fun e => hz (by exact_mod_cast e)
          have HD : Hid (decide (bv A < bv B) = decide (dg A m < dg B m)) := hid (by
            rcases Nat.lt_or_gt_of_ne hz with h3 | h3
            · have := bv_less A B m bA (by rw [HA.out, HB.out]) (by rw [HA.out]; omega) ht.out h3
              simp [this, h3]
            · have := bv_less B A m bB (by rw [HA.out, HB.out]) (by rw [HB.out]; omega) (fun j h1 h2 => (ht.out j h1 (by rw [HA.out]; rw [HB.out] at h2; exact h2)).symm) h3
              have h4 : ¬ bv A < bv B := by omega
              have h5 : ¬ dg A m < dg B m := by omega
              simp [h4, h5])
          clear hz
          by_cases hlt : dg A m < dg B m
          · go_wp2
            go_quiet (fail)
            go_wp2
            go_quiet (fail)
            go_wp2
            go_ret
            exact ⟨by rw [HD.out, decide_eq_true hlt]; rfl, bdrew (bdrew hb _) _⟩
          · go_wp2
            go_quiet (fail)
            go_wp2
            go_quiet (fail)
            go_wp2
            go_ret
            exact ⟨by rw [HD.out, decide_eq_false hlt]; rfl, bdrew (bdrew hb _) _⟩
  · rcases Nat.lt_or_gt_of_ne hl with h3 | h3
    · have HD : Hid (decide (bv A < bv B) = true) := hid (decide_eq_true (bv_shorter bA tB (by rw [HA.out, HB.out]; exact h3)))
      rw [HD.out]
      go_enter Tryd.func81, Tryd.ntmps81
      go_wp2
      go_ret
      exact ⟨by first | (simp; done) | (simp; omega), Below.refl _ _⟩
    · have HD : Hid (decide (bv A < bv B) = false) := hid (decide_eq_false (by have := bv_shorter bB tA (by rw [HA.out, HB.out]; exact h3); omega))
      rw [HD.out]
      go_enter Tryd.func81, Tryd.ntmps81
      go_wp2
      go_ret
      exact ⟨by first | (simp; done) | (simp; omega), Below.refl _ _⟩

set_option maxRecDepth 100000 in
set_option maxHeartbeats 1000000 in
theorem addR (aa : Option Addr) (la ca : Nat) (A : List Nat) (ab : Option Addr) (lb cb : Nat) (B : List Nat) (w : World) (hA : Ri w aa la ca A) (hB : Ri w ab lb cb B) (bA : B1 A) (bB : B1 B) (sa : la ≤ 1073741824) (sb : lb ≤ 1073741824) :
    Calls Tryd.prog 80 #[.slice aa la ca, .slice ab lb cb] w fun e w' => ∃ ao len cap C, e = .returned (.slice ao len cap) ∧ len ≤ max la lb + 1 ∧ Ri w' ao len cap C ∧ B1 C ∧ Top C ∧ Hid (bv C = bv A + bv B) ∧ Below w.heap.size w w' := by
  obtain ⟨i0, hi, hz0, hz1, hz2⟩ := info_parts Tryd.infoI
  have HA := hid hA.size
  have HB := hid hB.size
  go_enter Tryd.func80, Tryd.ntmps80
  go_wp2
  go_loopw [5, 6, 7] (fun o c i wr => ∃ (k cv : Nat) (O : List Nat), i = .int .i64 (k : Int) ∧ c = .int .i64 (cv : Int) ∧ cv ≤ 1 ∧ k ≤ max la lb + 1 ∧ (k ≤ max la lb ∨ cv = 0) ∧ Hid (O.length = k) ∧ B1 O ∧ Gri w.heap.size wr o O ∧ Hid (bv O + 2 ^ k * cv = bv (A.take k) + bv (B.take k)) ∧ Below w.heap.size w wr)
    (fun _ c i _ => 2 * (max la lb - (intOf i).toNat) + (intOf c).toNat)
  case atStart => exact ⟨0, 0, [], rfl, rfl, by omega, by omega, .inl (by omega), hid rfl, B1.nil, Gri.nil _ _, hid rfl, Below.refl _ _⟩
  case round =>
    obtain ⟨k, cv, O, rfl, rfl, hcv, hk, hkc, hO, bO, hG, hv, hb⟩ := hrel
    have hsz := hb.size
    have hx := bA.dg k
    have hy := bB.dg k
    have hAr := hA.keep hb
    have hBr := hB.keep hb
    have hxo : Hid (¬ k < la → dg A k = 0) := hid fun h => dg_out A k (by rw [HA.out]; omega)
    have hyo : Hid (¬ k < lb → dg B k = 0) := hid fun h => dg_out B k (by rw [HB.out]; omega)
    by_cases hgo : k < la ∨ k < lb ∨ 0 < cv
    · have hk' : k ≤ max la lb := by omega
      have hkb : k ≤ 1073741824 := by omega
      clear hk
      have hgo' : (k < la) ∨ (¬ k < la ∧ k < lb) ∨ (¬ k < la ∧ ¬ k < lb ∧ 0 < cv) := by omega
      clear hgo hkc
      rcases hgo' with h1 | ⟨h1, h2⟩ | ⟨h1, h2, h3⟩
      all_goals
        have hkb' := hkb
        go_wp2_with (first
          | (go_at_call_of 105 (Value.slice aa la ca); refine (bitR aa la ca A k _ hAr).mono ?_; rintro e w' ⟨rfl, rfl⟩)
          | (go_at_call_of 105 (Value.slice ab lb cb); refine (bitR ab lb cb B k _ hBr).mono ?_; rintro e w' ⟨rfl, rfl⟩)
          | (at_builtin; refine wpList_append_own _ rfl _ _ 26 rfl w.heap.size 3 i0 (.int .i64 0) 1 8 Tryd.underlying26 hi hz0 hz1 hz2 rfl (by decide) _ _ _ rfl (hG.alloc _) ⟨wr.heap.size, 0, none⟩ 1 1 [.int .i64 (((dg A k : Int) + (dg B k : Int) + (cv : Int)) % 2)] rfl rfl ?c1 ?c2 ?c3 ?c4 ?c5 ?_))
        case c1 =>
          intro j u hj
          match j, hj with
          | 0, hj => simp at hj; subst hj; simp [Addr.add]
        case c2 => intro u hu; simp at hu; subst hu; rfl
        case c3 => rw [hO.out]; unfold maxLen; omega
        case c4 => rw [hO.out]; omega
        case c5 => simp; omega
        intro v' w5 hown' hgrow _
        have hb5 := app_below hb hsz hgrow hG.le
        clear hgrow
        go_wp2
        go_roundw
        case rel =>
          have ho1 := hxo.out
          have ho2 := hyo.out
          refine ⟨k + 1, (dg A k + dg B k + cv) / 2, O ++ [(dg A k + dg B k + cv) % 2], by go_num, congrArg (Value.int .i64) (by omega), by omega, by omega, by omega, hid (by simp [hO.out]), bO.snoc (by omega), Gri.snoc _ hown' (by omega), hid ?_, hb5⟩
          rw [bv_snoc, hO.out, Nat.pow_succ, bv_take_any, bv_take_any]
          exact bsum_step hv.out (by omega)
        case measure =>
          have ho1 := hxo.out
          have ho2 := hyo.out
          simp [intOf]; omega
    · obtain ⟨n1, n2, n3⟩ : ¬ k < la ∧ ¬ k < lb ∧ ¬ 0 < cv := by omega
      have e0 : cv = 0 := by omega
      subst e0
      obtain ⟨ao, cap, rfl, hR⟩ := hG.rd (by rw [hO.out]; omega)
      have HV : Hid (bv O = bv A + bv B) := hid (by
        have := hv.out
        rw [bv_take_ge _ _ (by rw [HA.out]; omega), bv_take_ge _ _ (by rw [HB.out]; omega)] at this
        simpa using this)
      go_wp2_with (go_at_call 98; refine (cutR _ _ _ O _ hR).mono ?_; rintro e w' ⟨rfl, rfl⟩)
      go_ret
      refine ⟨_, _, _, tl O, rfl, ?_, hR.tl, bO.tl, tl_top O, hid (by rw [tl_bv]; exact HV.out), hb⟩
      have := tl_length_le O
      rw [hO.out] at this; omega

set_option maxRecDepth 100000 in
set_option maxHeartbeats 1000000 in
theorem subR (aa : Option Addr) (la ca : Nat) (A : List Nat) (ab : Option Addr) (lb cb : Nat) (B : List Nat) (w : World) (hA : Ri w aa la ca A) (hB : Ri w ab lb cb B) (bA : B1 A) (bB : B1 B) (tB : Top B) (hle : Hid (bv B ≤ bv A)) (sa : la ≤ 1073741824) :
    Calls Tryd.prog 82 #[.slice aa la ca, .slice ab lb cb] w fun e w' => ∃ ao len cap C, e = .returned (.slice ao len cap) ∧ len ≤ la ∧ Ri w' ao len cap C ∧ B1 C ∧ Top C ∧ Hid (bv C + bv B = bv A) ∧ Below w.heap.size w w' := by
  obtain ⟨i0, hi, hz0, hz1, hz2⟩ := info_parts Tryd.infoI
  have HA := hid hA.size
  have HB := hid hB.size
  have HL : Hid (lb ≤ la) := hid (by
    rcases Nat.lt_or_ge la lb with h | h
    · have := bv_shorter bA tB (by rw [HA.out, HB.out]; exact h)
      have := hle.out; omega
    · exact h)
  go_enter Tryd.func82, Tryd.ntmps82
  go_wp2
  go_loopw [5, 6, 7] (fun o c i wr => ∃ (k cv : Nat) (O : List Nat), i = .int .i64 (k : Int) ∧ c = .int .i64 (cv : Int) ∧ cv ≤ 1 ∧ k ≤ la ∧ Hid (O.length = k) ∧ B1 O ∧ Gri w.heap.size wr o O ∧ Hid (bv O + bv (B.take k) = bv (A.take k) + 2 ^ k * cv) ∧ Below w.heap.size w wr)
    (fun _ _ i _ => la - (intOf i).toNat)
  case atStart => exact ⟨0, 0, [], rfl, rfl, by omega, by omega, hid rfl, B1.nil, Gri.nil _ _, hid rfl, Below.refl _ _⟩
  case round =>
    obtain ⟨k, cv, O, rfl, rfl, hcv, hk, hO, bO, hG, hv, hb⟩ := hrel
    have hsz := hb.size
    have hx := bA.dg k
    have hy := bB.dg k
    have hAr := hA.keep hb
    have hBr := hB.keep hb
    by_cases hgo : k < la
    · obtain ⟨b, off, rfl, hc⟩ := hAr.cells (by omega)
      have hcm := hc k hgo
      clear hc hAr
      by_cases hneg : dg A k < dg B k + cv
      · have hn1 : (dg A k : Int) - (dg B k : Int) - (cv : Int) < 0 := by omega
        go_wp2
        go_quiet ((go_at_call 105; go_must (refine Calls.quiet_of_same (bitR_q ab lb cb B k _ ?_); (repeat (first | exact hBr | apply Ri.drewN | apply Ri.drew)))))
        obtain ⟨wq, hwq⟩ : ∃ wq, wq = wr.drewN nq := ⟨_, rfl⟩
        rw [← hwq]
        have hb2 : Below w.heap.size w wq := by rw [hwq]; exact bdrew hb nq
        have hG2 := hG.keep (w' := wq) (by rw [hwq]; exact bdrew (Below.refl wr.heap.size wr) nq)
        have hsz2 := hb2.size
        clear hwq hG hb hsz hBr
        go_wp2_with (at_builtin; refine wpList_append_own _ rfl _ _ 26 rfl w.heap.size 3 i0 (.int .i64 0) 1 8 Tryd.underlying26 hi hz0 hz1 hz2 rfl (by decide) _ _ _ rfl (hG2.alloc _) ⟨wq.heap.size, 0, none⟩ 1 1 [.int .i64 ((dg A k : Int) - (dg B k : Int) - (cv : Int) + 2)] rfl rfl ?c1 ?c2 ?c3 ?c4 ?c5 ?_)
        case c1 =>
          intro j u hj
          match j, hj with
          | 0, hj => simp at hj; subst hj; simp [Addr.add]
        case c2 => intro u hu; simp at hu; subst hu; rfl
        case c3 => rw [hO.out]; unfold maxLen; omega
        case c4 => rw [hO.out]; omega
        case c5 => simp; omega
        intro v' w5 hown' hgrow _
        have hb5 := app_below hb2 hsz2 hgrow hG2.le
        clear hgrow
        go_wp2
        go_roundw
        case rel =>
          refine ⟨k + 1, 1, O ++ [dg A k + 2 - dg B k - cv], by go_num, rfl, by omega, by omega, hid (by simp [hO.out]), bO.snoc (by omega), Gri.snoc _ hown' (by omega), hid ?_, hb5⟩
          rw [bv_snoc, hO.out, Nat.pow_succ, bv_take_any, bv_take_any]
          exact bdiff_step hv.out (by omega)
        case measure => simp [intOf]; omega
      · have hn1 : ¬ (dg A k : Int) - (dg B k : Int) - (cv : Int) < 0 := by omega
        go_wp2
        go_quiet ((go_at_call 105; go_must (refine Calls.quiet_of_same (bitR_q ab lb cb B k _ ?_); (repeat (first | exact hBr | apply Ri.drewN | apply Ri.drew)))))
        obtain ⟨wq, hwq⟩ : ∃ wq, wq = wr.drewN nq := ⟨_, rfl⟩
        rw [← hwq]
        have hb2 : Below w.heap.size w wq := by rw [hwq]; exact bdrew hb nq
        have hG2 := hG.keep (w' := wq) (by rw [hwq]; exact bdrew (Below.refl wr.heap.size wr) nq)
        have hsz2 := hb2.size
        clear hwq hG hb hsz hBr
        go_wp2_with (at_builtin; refine wpList_append_own _ rfl _ _ 26 rfl w.heap.size 3 i0 (.int .i64 0) 1 8 Tryd.underlying26 hi hz0 hz1 hz2 rfl (by decide) _ _ _ rfl (hG2.alloc _) ⟨wq.heap.size, 0, none⟩ 1 1 [.int .i64 ((dg A k : Int) - (dg B k : Int) - (cv : Int))] rfl rfl ?c1 ?c2 ?c3 ?c4 ?c5 ?_)
        case c1 =>
          intro j u hj
          match j, hj with
          | 0, hj => simp at hj; subst hj; simp [Addr.add]
        case c2 => intro u hu; simp at hu; subst hu; rfl
        case c3 => rw [hO.out]; unfold maxLen; omega
        case c4 => rw [hO.out]; omega
        case c5 => simp; omega
        intro v' w5 hown' hgrow _
        have hb5 := app_below hb2 hsz2 hgrow hG2.le
        clear hgrow
        go_wp2
        go_roundw
        case rel =>
          refine ⟨k + 1, 0, O ++ [dg A k - dg B k - cv], by go_num, rfl, by omega, by omega, hid (by simp [hO.out]), bO.snoc (by omega), Gri.snoc _ hown' (by omega), hid ?_, hb5⟩
          rw [bv_snoc, hO.out, Nat.pow_succ, bv_take_any, bv_take_any]
          exact bdiff_step hv.out (by omega)
        case measure => simp [intOf]; omega
    · obtain rfl : k = la := by omega
      obtain ⟨ao, cap, rfl, hR⟩ := hG.rd (by rw [hO.out]; omega)
      have HV : Hid (bv O + bv B = bv A) := hid (by
        have h1 := hv.out
        rw [bv_take_ge A _ (by rw [HA.out]; omega), bv_take_ge B _ (by rw [HB.out]; exact HL.out)] at h1
        have h2 := bv_lt bO
        rw [hO.out] at h2
        have h3 := hle.out
        rcases (show cv = 0 ∨ cv = 1 by omega) with rfl | rfl
        · omega
        · omega)
      go_wp2_with (go_at_call 98; refine (cutR _ _ _ O _ hR).mono ?_; rintro e w' ⟨rfl, rfl⟩)
      go_ret
      refine ⟨_, _, _, tl O, rfl, ?_, hR.tl, bO.tl, tl_top O, hid (by rw [tl_bv]; exact HV.out), hb⟩
      have := tl_length_le O
      rw [hO.out] at this; omega
end Go.Proofs.YtldafoojkimdeaaDoor
