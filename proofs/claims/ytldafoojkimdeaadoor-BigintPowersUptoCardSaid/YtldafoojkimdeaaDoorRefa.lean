/- Walks of the document's answer: cut, bit, laid. No condition but those that each theorem names. Walks of the document's answer: Less, add, sub. No condition but those that each theorem names. Walks of the document's answer: Of, Small. No condition but those that each theorem names. Walks of the document's answer: Small, Minus, Sign. No condition but those that each theorem names. Walks of the document's answer: Minus, Sign, Sum, Cmp. No condition but those that each theorem names. Walks of the document's answer: Cmp, To, Same. No condition but those that each theorem names. Walks of the document's answer: To, Same. No condition but those that each theorem names. Walks of the document's answer: Same where it says yes, Int. No condition but those that each theorem names. -/
import Derived.Test.YtldafoojkimdeaaDoorImem
import Derived.Deep.RegionHeld3
import Derived.Test.YtldafoojkimdeaaDoorW9
import Derived.Test.YtldafoojkimdeaaDoorW39
namespace Go.Proofs.YtldafoojkimdeaaDoor
open Go.RowKit Lm

set_option maxRecDepth 100000 in
set_option maxHeartbeats 400000 in
theorem cutR (ao : Option Addr) (len cap : Nat) (A : List Nat) (w : World) (h : Ri w ao len cap A) :
    Calls Tryd.prog 98 #[.slice ao len cap] w fun e w' => e = .returned (.slice ao (tl A).length cap) ∧ w = w' := by
  have hl := h.size
  have hr := h.room
  have hm := h.most
  have HL := hid hl; clear hl
  go_enter Tryd.func98, Tryd.ntmps98
  go_wp2
  go_loop [3] (fun n => ∃ k : Nat, k ≤ len ∧ n = .int .i64 k ∧ Hid (tl (A.take k) = tl A)) (fun n => (intOf n).toNat)
  case atStart => exact ⟨len, Nat.le_refl _, rfl, by rw [List.take_of_length_le (Nat.le_of_eq HL.out)]; exact hid rfl⟩
  case round =>
    obtain ⟨k, hk, rfl, ht⟩ := hrel
    cases k with
    | zero =>
      have e0 : tl A = [] := by rw [← ht.out]; rfl
      have H0 := hid e0; clear e0
      go_wp2
      go_ret
      exact ⟨by rw [H0.out]; rfl, rfl⟩
    | succ m =>
      obtain ⟨b, off, rfl, hc⟩ := h.cells (by omega)
      have hcm := hc m (by omega)
      clear hc h
      by_cases hz : dg A m = 0
      · have hz' : ((dg A m : Int) == 0) = true := by simp [hz]
        have HZ := hid hz; clear hz
        go_wp2
        go_round
        case rel => exact ⟨m, by omega, by go_num, by rw [← tl_take_zero A m (by rw [HL.out]; omega) HZ.out]; exact ht⟩
        case measure => simp [intOf]
      · have hz' : ((dg A m : Int) == 0) = false := by simp [hz]
        have HT := hid (tl_take_top A m (by rw [HL.out]; omega) hz)
        clear hz
        go_wp2
        go_ret
        exact ⟨by rw [← ht.out, HT.out, List.length_take, HL.out, Nat.min_eq_left hk]; rfl, rfl⟩

set_option maxRecDepth 100000 in
set_option maxHeartbeats 400000 in
theorem bitR (ao : Option Addr) (len cap : Nat) (A : List Nat) (i : Nat) (w : World) (h : Ri w ao len cap A) :
    Calls Tryd.prog 105 #[.slice ao len cap, .int .i64 (i : Int)] w fun e w' => e = .returned (.int .i64 (dg A i : Int)) ∧ w = w' := by
  have hl := hid h.size
  by_cases hi : i < len
  · obtain ⟨b, off, rfl, hc⟩ := h.cells (by omega)
    have hcm := hc i hi
    have hr := h.room
    clear hc h
    go_enter Tryd.func105, Tryd.ntmps105
    go_wp2
    go_ret
    exact ⟨rfl, rfl⟩
  · have e0 := hid (dg_out A i (by rw [hl.out]; omega))
    rw [e0.out]
    go_enter Tryd.func105, Tryd.ntmps105
    go_wp2
    go_ret
    exact ⟨rfl, rfl⟩

set_option maxRecDepth 100000 in
set_option maxHeartbeats 400000 in
theorem bitR_neg (ao : Option Addr) (len cap : Nat) (i : Int) (w : World) (hi : i < 0) :
    Calls Tryd.prog 105 #[.slice ao len cap, .int .i64 i] w fun e w' => e = .returned (.int .i64 0) ∧ w = w' := by
  go_enter Tryd.func105, Tryd.ntmps105
  go_wp2
  go_ret
  exact ⟨rfl, rfl⟩

set_option maxRecDepth 100000 in
set_option maxHeartbeats 400000 in
theorem laidR (n : Bool) (ao : Option Addr) (len cap : Nat) (A : List Nat) (w : World) (h : Ri w ao len cap A) (hb : B1 A) :
    Calls Tryd.prog 68 #[.bool n, .slice ao len cap] w fun e w' => ∃ n' len', e = .returned (.agg #[.bool n', .slice ao len' cap]) ∧ len' ≤ len ∧ Big w' n' ao len' cap (sg n A) ∧ Below w.heap.size w w' := by
  have hB := Big.of (n := n) h hb
  have hle := hid (Nat.le_trans (tl_length_le A) (Nat.le_of_eq h.size))
  by_cases h0 : 0 < (tl A).length
  · have hd : decide (0 < (tl A).length) = true := decide_eq_true h0
    cases n with
    | true =>
      rw [hd] at hB
      go_enter Tryd.func68, Tryd.ntmps68
      go_wp2_with (go_at_call 98; refine (cutR _ _ _ A _ (h.alloc _)).mono ?_; rintro e w' ⟨rfl, rfl⟩)
      refine bodyPost_ret (v := .agg #[.bool true, .slice ao (tl A).length cap]) (by simp [results, Tryd.results68, go_sem]) rfl ⟨_, _, rfl, hle.out, ?_, ?_⟩
      · exact hB.alloc _
      · exact (Below.refl _ _).alloc (Nat.le_refl _) _
    | false =>
      go_enter Tryd.func68, Tryd.ntmps68
      go_wp2_with (go_at_call 98; refine (cutR _ _ _ A _ (h.alloc _)).mono ?_; rintro e w' ⟨rfl, rfl⟩)
      refine bodyPost_ret (v := .agg #[.bool false, .slice ao (tl A).length cap]) (by simp [results, Tryd.results68, go_sem]) rfl ⟨_, _, rfl, hle.out, ?_, ?_⟩
      · exact hB.alloc _
      · exact (Below.refl _ _).alloc (Nat.le_refl _) _
  · have hd : decide (0 < (tl A).length) = false := decide_eq_false h0
    rw [hd, Bool.and_false] at hB
    cases n with
    | true =>
      go_enter Tryd.func68, Tryd.ntmps68
      go_wp2_with (go_at_call 98; refine (cutR _ _ _ A _ (h.alloc _)).mono ?_; rintro e w' ⟨rfl, rfl⟩)
      refine bodyPost_ret (v := .agg #[.bool false, .slice ao (tl A).length cap]) (by simp [results, Tryd.results68, go_sem]) rfl ⟨_, _, rfl, hle.out, ?_, ?_⟩
      · exact hB.alloc _
      · exact (Below.refl _ _).alloc (Nat.le_refl _) _
    | false =>
      go_enter Tryd.func68, Tryd.ntmps68
      go_wp2_with (go_at_call 98; refine (cutR _ _ _ A _ (h.alloc _)).mono ?_; rintro e w' ⟨rfl, rfl⟩)
      refine bodyPost_ret (v := .agg #[.bool false, .slice ao (tl A).length cap]) (by simp [results, Tryd.results68, go_sem]) rfl ⟨_, _, rfl, hle.out, ?_, ?_⟩
      · exact hB.alloc _
      · exact (Below.refl _ _).alloc (Nat.le_refl _) _
end Go.Proofs.YtldafoojkimdeaaDoor

namespace Go.Proofs.YtldafoojkimdeaaDoor
open Go.RowKit Lm

theorem app_below {B : Nat} {w wr w5 : World} {o : Obj} {v : Value} (hb : Below B w wr) (hB : B ≤ wr.heap.size) (hgrow : (wr.alloc o).grownBy w5 v.ownBlock) (hl : ∀ k, v.ownBlock = some k → B ≤ k) : Below B w w5 :=
  (hb.alloc hB _).grown hgrow (by simp; omega) hl
theorem Gri.snoc {B : Nat} {w : World} {v : Value} {L : List Nat} {z : Int} (x : Nat) (h : w.ownsRow B 3 1 v (L.length + 1) (ints L ++ [.int .i64 z])) (hz : z = (x : Int)) : Gri B w v (L ++ [x]) := by
  unfold Gri; rw [List.length_append]; rw [ints_snoc _ _ hz] at h; exact h

theorem bitR_q (ao : Option Addr) (len cap : Nat) (A : List Nat) (i : Nat) (w : World) (h : Ri w ao len cap A) :
    Calls Tryd.prog 105 #[.slice ao len cap, .int .i64 (i : Int)] w fun e w' => e = .returned (.int .i64 (dg A i : Int)) ∧ w' = w :=
  (bitR ao len cap A i w h).mono fun _ _ ⟨h1, h2⟩ => ⟨h1, h2.symm⟩

set_option maxRecDepth 100000 in
set_option maxHeartbeats 400000 in
theorem lessR (aa : Option Addr) (la ca : Nat) (A : List Nat) (ab : Option Addr) (lb cb : Nat) (B : List Nat) (w : World) (hA : Ri w aa la ca A) (hB : Ri w ab lb cb B) (bA : B1 A) (bB : B1 B) (tA : Top A) (tB : Top B) :
    Calls Tryd.prog 81 #[.slice aa la ca, .slice ab lb cb] w fun e w' => e = .returned (.bool (decide (bv A < bv B))) ∧ Below w.heap.size w w' := by
  have HA := hid hA.size
  have HB := hid hB.size
  have hm := hA.most
  have hm' := hB.most
  by_cases hl : la = lb
  · subst hl
    go_enter Tryd.func81, Tryd.ntmps81
    go_wp2
    go_loopw [5] (fun i wr => ∃ k : Nat, k ≤ la ∧ i = .int .i64 ((k : Int) - 1) ∧ Hid (∀ j, k ≤ j → j < A.length → dg A j = dg B j) ∧ Below w.heap.size w wr) (fun i _ => (intOf i + 1).toNat)
    case atStart => exact ⟨la, Nat.le_refl _, rfl, hid (fun j h1 h2 => by rw [HA.out] at h2; omega), Below.refl _ _⟩
    case round =>
      obtain ⟨k, hk, rfl, ht, hb⟩ := hrel
      cases k with
      | zero =>
        have HE : Hid (decide (bv A < bv B) = false) := hid (by
          have e := bv_above A B 0 (by rw [HA.out, HB.out]) ht.out
          rw [List.drop_zero, List.drop_zero] at e
          rw [e]; simp)
        go_wp2
        go_ret
        exact ⟨by rw [HE.out]; rfl, hb⟩
      | succ m =>
        obtain ⟨b, off, rfl, hc⟩ := (hA.keep hb).cells (by omega)
        obtain ⟨b', off', rfl, hc'⟩ := (hB.keep hb).cells (by omega)
        have hcm := hc m (by omega)
        have hcm' := hc' m (by omega)
        clear hc hc'
        have hi : ((m + 1 : Nat) : Int) - 1 = (m : Int) := by omega
        rw [hi]; clear hi
        by_cases hz : dg A m = dg B m
        · have hz' : ((dg A m : Int) == (dg B m : Int)) = true := by simp [hz]
          have HZ := hid hz; clear hz
          go_wp2
          go_quiet (fail)
          go_wp2
          go_roundw
          case rel => exact ⟨m, by omega, by go_num, hid (fun j h1 h2 => by
            rcases Nat.eq_or_lt_of_le h1 with rfl | h3
            · exact HZ.out
            · exact ht.out j h3 h2), bdrew hb _⟩
          case measure => simp [intOf]
        · have hz' : ((dg A m : Int) == (dg B m : Int)) = false := by simp; exact fun e => hz (by exact_mod_cast e)
          have HD : Hid (decide (bv A < bv B) = decide (dg A m < dg B m)) := hid (by
            rcases Nat.lt_or_gt_of_ne hz with h3 | h3
            · have := bv_less A B m bA (by rw [HA.out, HB.out]) (by rw [HA.out]; omega) ht.out h3
              simp [this, h3]
            · have := bv_less B A m bB (by rw [HA.out, HB.out]) (by rw [HB.out]; omega) (fun j h1 h2 => (ht.out j h1 (by rw [HA.out]; rw [HB.out] at h2; exact h2)).symm) h3
              have h4 : ¬ bv A < bv B := by omega
              have h5 : ¬ dg A m < dg B m := by omega
              simp [h4, h5])
          clear hz
          by_cases hlt : dg A m < dg B m
          · go_wp2
            go_quiet (fail)
            go_wp2
            go_quiet (fail)
            go_wp2
            go_ret
            exact ⟨by rw [HD.out, decide_eq_true hlt]; rfl, bdrew (bdrew hb _) _⟩
          · go_wp2
            go_quiet (fail)
            go_wp2
            go_quiet (fail)
            go_wp2
            go_ret
            exact ⟨by rw [HD.out, decide_eq_false hlt]; rfl, bdrew (bdrew hb _) _⟩
  · rcases Nat.lt_or_gt_of_ne hl with h3 | h3
    · have HD : Hid (decide (bv A < bv B) = true) := hid (decide_eq_true (bv_shorter bA tB (by rw [HA.out, HB.out]; exact h3)))
      rw [HD.out]
      go_enter Tryd.func81, Tryd.ntmps81
      go_wp2
      go_ret
      exact ⟨by first | (simp; done) | (simp; omega), Below.refl _ _⟩
    · have HD : Hid (decide (bv A < bv B) = false) := hid (decide_eq_false (by have := bv_shorter bB tA (by rw [HA.out, HB.out]; exact h3); omega))
      rw [HD.out]
      go_enter Tryd.func81, Tryd.ntmps81
      go_wp2
      go_ret
      exact ⟨by first | (simp; done) | (simp; omega), Below.refl _ _⟩

set_option maxRecDepth 100000 in
set_option maxHeartbeats 1000000 in
theorem addR (aa : Option Addr) (la ca : Nat) (A : List Nat) (ab : Option Addr) (lb cb : Nat) (B : List Nat) (w : World) (hA : Ri w aa la ca A) (hB : Ri w ab lb cb B) (bA : B1 A) (bB : B1 B) (sa : la ≤ 1073741824) (sb : lb ≤ 1073741824) :
    Calls Tryd.prog 80 #[.slice aa la ca, .slice ab lb cb] w fun e w' => ∃ ao len cap C, e = .returned (.slice ao len cap) ∧ len ≤ max la lb + 1 ∧ Ri w' ao len cap C ∧ B1 C ∧ Top C ∧ Hid (bv C = bv A + bv B) ∧ Below w.heap.size w w' := by
  obtain ⟨i0, hi, hz0, hz1, hz2⟩ := info_parts Tryd.infoI
  have HA := hid hA.size
  have HB := hid hB.size
  go_enter Tryd.func80, Tryd.ntmps80
  go_wp2
  go_loopw [5, 6, 7] (fun o c i wr => ∃ (k cv : Nat) (O : List Nat), i = .int .i64 (k : Int) ∧ c = .int .i64 (cv : Int) ∧ cv ≤ 1 ∧ k ≤ max la lb + 1 ∧ (k ≤ max la lb ∨ cv = 0) ∧ Hid (O.length = k) ∧ B1 O ∧ Gri w.heap.size wr o O ∧ Hid (bv O + 2 ^ k * cv = bv (A.take k) + bv (B.take k)) ∧ Below w.heap.size w wr)
    (fun _ c i _ => 2 * (max la lb - (intOf i).toNat) + (intOf c).toNat)
  case atStart => exact ⟨0, 0, [], rfl, rfl, by omega, by omega, .inl (by omega), hid rfl, B1.nil, Gri.nil _ _, hid rfl, Below.refl _ _⟩
  case round =>
    obtain ⟨k, cv, O, rfl, rfl, hcv, hk, hkc, hO, bO, hG, hv, hb⟩ := hrel
    have hsz := hb.size
    have hx := bA.dg k
    have hy := bB.dg k
    have hAr := hA.keep hb
    have hBr := hB.keep hb
    have hxo : Hid (¬ k < la → dg A k = 0) := hid fun h => dg_out A k (by rw [HA.out]; omega)
    have hyo : Hid (¬ k < lb → dg B k = 0) := hid fun h => dg_out B k (by rw [HB.out]; omega)
    by_cases hgo : k < la ∨ k < lb ∨ 0 < cv
    · have hk' : k ≤ max la lb := by omega
      have hkb : k ≤ 1073741824 := by omega
      clear hk
      have hgo' : (k < la) ∨ (¬ k < la ∧ k < lb) ∨ (¬ k < la ∧ ¬ k < lb ∧ 0 < cv) := by omega
      clear hgo hkc
      rcases hgo' with h1 | ⟨h1, h2⟩ | ⟨h1, h2, h3⟩
      all_goals
        have hkb' := hkb
        go_wp2_with (first
          | (go_at_call_of 105 (Value.slice aa la ca); refine (bitR aa la ca A k _ hAr).mono ?_; rintro e w' ⟨rfl, rfl⟩)
          | (go_at_call_of 105 (Value.slice ab lb cb); refine (bitR ab lb cb B k _ hBr).mono ?_; rintro e w' ⟨rfl, rfl⟩)
          | (at_builtin; refine wpList_append_own _ rfl _ _ 26 rfl w.heap.size 3 i0 (.int .i64 0) 1 8 Tryd.underlying26 hi hz0 hz1 hz2 rfl (by decide) _ _ _ rfl (hG.alloc _) ⟨wr.heap.size, 0, none⟩ 1 1 [.int .i64 (((dg A k : Int) + (dg B k : Int) + (cv : Int)) % 2)] rfl rfl ?c1 ?c2 ?c3 ?c4 ?c5 ?_))
        case c1 =>
          intro j u hj
          match j, hj with
          | 0, hj => simp at hj; subst hj; simp [Addr.add]
        case c2 => intro u hu; simp at hu; subst hu; rfl
        case c3 => rw [hO.out]; unfold maxLen; omega
        case c4 => rw [hO.out]; omega
        case c5 => simp; omega
        intro v' w5 hown' hgrow _
        have hb5 := app_below hb hsz hgrow hG.le
        clear hgrow
        go_wp2
        go_roundw
        case rel =>
          have ho1 := hxo.out
          have ho2 := hyo.out
          refine ⟨k + 1, (dg A k + dg B k + cv) / 2, O ++ [(dg A k + dg B k + cv) % 2], by go_num, congrArg (Value.int .i64) (by omega), by omega, by omega, by omega, hid (by simp [hO.out]), bO.snoc (by omega), Gri.snoc _ hown' (by omega), hid ?_, hb5⟩
          rw [bv_snoc, hO.out, Nat.pow_succ, bv_take_any, bv_take_any]
          exact bsum_step hv.out (by omega)
        case measure =>
          have ho1 := hxo.out
          have ho2 := hyo.out
          simp [intOf]; omega
    · obtain ⟨n1, n2, n3⟩ : ¬ k < la ∧ ¬ k < lb ∧ ¬ 0 < cv := by omega
      have e0 : cv = 0 := by omega
      subst e0
      obtain ⟨ao, cap, rfl, hR⟩ := hG.rd (by rw [hO.out]; omega)
      have HV : Hid (bv O = bv A + bv B) := hid (by
        have := hv.out
        rw [bv_take_ge _ _ (by rw [HA.out]; omega), bv_take_ge _ _ (by rw [HB.out]; omega)] at this
        simpa using this)
      go_wp2_with (go_at_call 98; refine (cutR _ _ _ O _ hR).mono ?_; rintro e w' ⟨rfl, rfl⟩)
      go_ret
      refine ⟨_, _, _, tl O, rfl, ?_, hR.tl, bO.tl, tl_top O, hid (by rw [tl_bv]; exact HV.out), hb⟩
      have := tl_length_le O
      rw [hO.out] at this; omega

set_option maxRecDepth 100000 in
set_option maxHeartbeats 1000000 in
theorem subR (aa : Option Addr) (la ca : Nat) (A : List Nat) (ab : Option Addr) (lb cb : Nat) (B : List Nat) (w : World) (hA : Ri w aa la ca A) (hB : Ri w ab lb cb B) (bA : B1 A) (bB : B1 B) (tB : Top B) (hle : Hid (bv B ≤ bv A)) (sa : la ≤ 1073741824) :
    Calls Tryd.prog 82 #[.slice aa la ca, .slice ab lb cb] w fun e w' => ∃ ao len cap C, e = .returned (.slice ao len cap) ∧ len ≤ la ∧ Ri w' ao len cap C ∧ B1 C ∧ Top C ∧ Hid (bv C + bv B = bv A) ∧ Below w.heap.size w w' := by
  obtain ⟨i0, hi, hz0, hz1, hz2⟩ := info_parts Tryd.infoI
  have HA := hid hA.size
  have HB := hid hB.size
  have HL : Hid (lb ≤ la) := hid (by
    rcases Nat.lt_or_ge la lb with h | h
    · have := bv_shorter bA tB (by rw [HA.out, HB.out]; exact h)
      have := hle.out; omega
    · exact h)
  go_enter Tryd.func82, Tryd.ntmps82
  go_wp2
  go_loopw [5, 6, 7] (fun o c i wr => ∃ (k cv : Nat) (O : List Nat), i = .int .i64 (k : Int) ∧ c = .int .i64 (cv : Int) ∧ cv ≤ 1 ∧ k ≤ la ∧ Hid (O.length = k) ∧ B1 O ∧ Gri w.heap.size wr o O ∧ Hid (bv O + bv (B.take k) = bv (A.take k) + 2 ^ k * cv) ∧ Below w.heap.size w wr)
    (fun _ _ i _ => la - (intOf i).toNat)
  case atStart => exact ⟨0, 0, [], rfl, rfl, by omega, by omega, hid rfl, B1.nil, Gri.nil _ _, hid rfl, Below.refl _ _⟩
  case round =>
    obtain ⟨k, cv, O, rfl, rfl, hcv, hk, hO, bO, hG, hv, hb⟩ := hrel
    have hsz := hb.size
    have hx := bA.dg k
    have hy := bB.dg k
    have hAr := hA.keep hb
    have hBr := hB.keep hb
    by_cases hgo : k < la
    · obtain ⟨b, off, rfl, hc⟩ := hAr.cells (by omega)
      have hcm := hc k hgo
      clear hc hAr
      by_cases hneg : dg A k < dg B k + cv
      · have hn1 : (dg A k : Int) - (dg B k : Int) - (cv : Int) < 0 := by omega
        go_wp2
        go_quiet ((go_at_call 105; go_must (refine Calls.quiet_of_same (bitR_q ab lb cb B k _ ?_); (repeat (first | exact hBr | apply Ri.drewN | apply Ri.drew)))))
        obtain ⟨wq, hwq⟩ : ∃ wq, wq = wr.drewN nq := ⟨_, rfl⟩
        rw [← hwq]
        have hb2 : Below w.heap.size w wq := by rw [hwq]; exact bdrew hb nq
        have hG2 := hG.keep (w' := wq) (by rw [hwq]; exact bdrew (Below.refl wr.heap.size wr) nq)
        have hsz2 := hb2.size
        clear hwq hG hb hsz hBr
        go_wp2_with (at_builtin; refine wpList_append_own _ rfl _ _ 26 rfl w.heap.size 3 i0 (.int .i64 0) 1 8 Tryd.underlying26 hi hz0 hz1 hz2 rfl (by decide) _ _ _ rfl (hG2.alloc _) ⟨wq.heap.size, 0, none⟩ 1 1 [.int .i64 ((dg A k : Int) - (dg B k : Int) - (cv : Int) + 2)] rfl rfl ?c1 ?c2 ?c3 ?c4 ?c5 ?_)
        case c1 =>
          intro j u hj
          match j, hj with
          | 0, hj => simp at hj; subst hj; simp [Addr.add]
        case c2 => intro u hu; simp at hu; subst hu; rfl
        case c3 => rw [hO.out]; unfold maxLen; omega
        case c4 => rw [hO.out]; omega
        case c5 => simp; omega
        intro v' w5 hown' hgrow _
        have hb5 := app_below hb2 hsz2 hgrow hG2.le
        clear hgrow
        go_wp2
        go_roundw
        case rel =>
          refine ⟨k + 1, 1, O ++ [dg A k + 2 - dg B k - cv], by go_num, rfl, by omega, by omega, hid (by simp [hO.out]), bO.snoc (by omega), Gri.snoc _ hown' (by omega), hid ?_, hb5⟩
          rw [bv_snoc, hO.out, Nat.pow_succ, bv_take_any, bv_take_any]
          exact bdiff_step hv.out (by omega)
        case measure => simp [intOf]; omega
      · have hn1 : ¬ (dg A k : Int) - (dg B k : Int) - (cv : Int) < 0 := by omega
        go_wp2
        go_quiet ((go_at_call 105; go_must (refine Calls.quiet_of_same (bitR_q ab lb cb B k _ ?_); (repeat (first | exact hBr | apply Ri.drewN | apply Ri.drew)))))
        obtain ⟨wq, hwq⟩ : ∃ wq, wq = wr.drewN nq := ⟨_, rfl⟩
        rw [← hwq]
        have hb2 : Below w.heap.size w wq := by rw [hwq]; exact bdrew hb nq
        have hG2 := hG.keep (w' := wq) (by rw [hwq]; exact bdrew (Below.refl wr.heap.size wr) nq)
        have hsz2 := hb2.size
        clear hwq hG hb hsz hBr
        go_wp2_with (at_builtin; refine wpList_append_own _ rfl _ _ 26 rfl w.heap.size 3 i0 (.int .i64 0) 1 8 Tryd.underlying26 hi hz0 hz1 hz2 rfl (by decide) _ _ _ rfl (hG2.alloc _) ⟨wq.heap.size, 0, none⟩ 1 1 [.int .i64 ((dg A k : Int) - (dg B k : Int) - (cv : Int))] rfl rfl ?c1 ?c2 ?c3 ?c4 ?c5 ?_)
        case c1 =>
          intro j u hj
          match j, hj with
          | 0, hj => simp at hj; subst hj; simp [Addr.add]
        case c2 => intro u hu; simp at hu; subst hu; rfl
        case c3 => rw [hO.out]; unfold maxLen; omega
        case c4 => rw [hO.out]; omega
        case c5 => simp; omega
        intro v' w5 hown' hgrow _
        have hb5 := app_below hb2 hsz2 hgrow hG2.le
        clear hgrow
        go_wp2
        go_roundw
        case rel =>
          refine ⟨k + 1, 0, O ++ [dg A k - dg B k - cv], by go_num, rfl, by omega, by omega, hid (by simp [hO.out]), bO.snoc (by omega), Gri.snoc _ hown' (by omega), hid ?_, hb5⟩
          rw [bv_snoc, hO.out, Nat.pow_succ, bv_take_any, bv_take_any]
          exact bdiff_step hv.out (by omega)
        case measure => simp [intOf]; omega
    · obtain rfl : k = la := by omega
      obtain ⟨ao, cap, rfl, hR⟩ := hG.rd (by rw [hO.out]; omega)
      have HV : Hid (bv O + bv B = bv A) := hid (by
        have h1 := hv.out
        rw [bv_take_ge A _ (by rw [HA.out]; omega), bv_take_ge B _ (by rw [HB.out]; exact HL.out)] at h1
        have h2 := bv_lt bO
        rw [hO.out] at h2
        have h3 := hle.out
        rcases (show cv = 0 ∨ cv = 1 by omega) with rfl | rfl
        · omega
        · omega)
      go_wp2_with (go_at_call 98; refine (cutR _ _ _ O _ hR).mono ?_; rintro e w' ⟨rfl, rfl⟩)
      go_ret
      refine ⟨_, _, _, tl O, rfl, ?_, hR.tl, bO.tl, tl_top O, hid (by rw [tl_bv]; exact HV.out), hb⟩
      have := tl_length_le O
      rw [hO.out] at this; omega
end Go.Proofs.YtldafoojkimdeaaDoor

namespace Go.Proofs.YtldafoojkimdeaaDoor
open Go.RowKit Lm

theorem num_sg {n : Bool} {A L : List Nat} (h : bv L = val A) : sg n L = num n A := by unfold sg num; rw [h]
theorem Big.cast {w : World} {n : Bool} {ao : Option Addr} {len cap : Nat} {v u : Int} (h : Big w n ao len cap v) (e : v = u) : Big w n ao len cap u := by subst e; exact h

/-- A store into a block older than the bits does not touch them. -/
theorem Ri.other {w : World} {ao : Option Addr} {len cap : Nat} {A : List Nat} (h : Ri w ao len cap A) {b : Nat} {x y : Value} {t : TypeId} (hp : w.heap[b]? = some (.cells #[x, y] t (0, 0))) (hx : ∀ z, x ≠ .int .i64 z) (hy : ∀ z, y ≠ .int .i64 z) (x' y' : Value) :
    Ri ((w.setCell ⟨b, 0, none⟩ x').setCell ⟨b, 1, none⟩ y') ao len cap A :=
  ⟨h.size, h.room, h.most, fun h0 => by
    obtain ⟨g, off, e, hc⟩ := h.cells h0
    refine ⟨g, off, e, fun i hi => ?_⟩
    have hgb : g ≠ b := by
      rintro rfl
      have := hc i hi
      simp [World.cell?, hp] at this
      rcases Nat.lt_or_ge (off + i) 2 with h2 | h2
      · rcases (show off + i = 0 ∨ off + i = 1 by omega) with h3 | h3
        · rw [h3] at this; simp at this; exact hx _ this
        · rw [h3] at this; simp at this; exact hy _ this
      · rw [List.getElem?_eq_none (by simp; omega)] at this; cases this
    rw [World.cell?_setCell_other _ _ _ _ (fun e => hgb (congrArg Addr.block e).symm), World.cell?_setCell_other _ _ _ _ (fun e => hgb (congrArg Addr.block e).symm)]
    exact hc i hi⟩
theorem Big.other {w : World} {n : Bool} {ao : Option Addr} {len cap : Nat} {v : Int} (h : Big w n ao len cap v) {b : Nat} {x y : Value} {t : TypeId} (hp : w.heap[b]? = some (.cells #[x, y] t (0, 0))) (hx : ∀ z, x ≠ .int .i64 z) (hy : ∀ z, y ≠ .int .i64 z) (x' y' : Value) :
    Big ((w.setCell ⟨b, 0, none⟩ x').setCell ⟨b, 1, none⟩ y') n ao len cap v := by
  obtain ⟨L, h1, h2⟩ := h
  exact ⟨L, h1.other hp hx hy _ _, h2⟩

set_option maxRecDepth 100000 in
set_option maxHeartbeats 2000000 in
theorem ofR (na : Bool) (aa : Option Addr) (la ca : Nat) (A : List Nat) (w : World) (hA : Rd w aa la ca A) (sa : la ≤ 16777216) :
    Calls Tryd.prog 17 #[.agg #[.bool na, .slice aa la ca]] w fun e w' => ∃ n' ao len cap, e = .returned (.agg #[.bool n', .slice ao len cap]) ∧ len ≤ 32 * la ∧ Big w' n' ao len cap (num na A) ∧ Below w.heap.size w w' := by
  obtain ⟨i0, hi, hz0, hz1, hz2⟩ := info_parts Tryd.infoI
  have HA := hid hA.size
  go_enter Tryd.func17, Tryd.ntmps17
  go_wp2_with fail
  obtain ⟨wz, hz⟩ : ∃ wz, wz = (w.alloc (.cells #[.bool na, .slice aa la ca] 24)).alloc (.cells #[.bool false, .slice none 0 0] 28) := ⟨_, rfl⟩
  have hzb : Below w.heap.size w wz := by rw [hz]; exact ((Below.refl _ _).alloc (Nat.le_refl _) _).alloc (by simp) _
  have hzl : w.heap.size + 2 ≤ wz.heap.size := by rw [hz]; simp
  have hblk : Hid (wz.heap[w.heap.size]? = some (.cells #[.bool na, .slice aa la ca] 24 (0, 0))) := hid (by rw [hz]; exact hpS _ (heap_alloc_new w _))
  have hblr : Hid (wz.heap[w.heap.size + 1]? = some (.cells #[.bool false, .slice none 0 0] 28 (0, 0))) := hid (by rw [hz]; have := heap_alloc_new (w.alloc (.cells #[.bool na, .slice aa la ca] 24)) (.cells #[.bool false, .slice none 0 0] 28); simpa using this)
  have hAz := hA.keep hzb
  rw [← hz]
  clear hz
  go_loopw [3, 4, 5, 6] (fun o i _ _ wr => ∃ (k : Nat) (O : List Nat), i = .int .i64 (k : Int) ∧ k ≤ la ∧ Hid (O.length = 32 * k) ∧ B1 O ∧ Gri wz.heap.size wr o O ∧ Hid (bv O = val (A.take k)) ∧ Below wz.heap.size wz wr)
    (fun _ i _ _ _ => la - (intOf i).toNat)
  case atStart => exact ⟨0, [], rfl, by omega, hid rfl, B1.nil, Gri.nil _ _, hid rfl, Below.refl _ _⟩
  case round =>
    obtain ⟨k, O, rfl, hk, hO, bO, hG, hv, hb⟩ := hrel
    have hsz := hb.size
    obtain ⟨c0, c1, f0, f1⟩ := two_cells ((hb.block _ (by omega)).trans hblk.out)
    by_cases hgo : k < la
    · obtain ⟨b, off, rfl, hc⟩ := (hAz.keep hb).cells (by omega)
      have hcm := hc k hgo
      have hx := hA.ok.dg k
      clear hc
      go_wp2
      go_loopw [3, 5, 6] (fun o x j ws => ∃ (m xv : Nat) (M : List Nat), j = .int .i64 (m : Int) ∧ x = .int .u32 (xv : Int) ∧ m ≤ 32 ∧ xv ≤ 4294967295 ∧ Hid (xv < 2 ^ (32 - m)) ∧ Hid (M.length = 32 * k + m) ∧ B1 M ∧ Gri wz.heap.size ws o M ∧ Hid (bv M + 2 ^ (32 * k + m) * xv = val (A.take (k + 1))) ∧ Below wz.heap.size wz ws)
        (fun _ _ j _ => 32 - (intOf j).toNat)
      case atStart => exact ⟨0, dg A k, O, rfl, rfl, by omega, by omega, hid (by simpa using hx), hid (by rw [hO.out]; rfl), bO, hG, hid (by rw [val_take_dg A k (by rw [HA.out]; omega), hv.out, P_two]; rfl), hb⟩
      case round =>
        obtain ⟨m, xv, M, rfl, rfl, hm, hxv, hxs, hM, bM, hG2, hv2, hb2⟩ := hrel
        have hsz2 := hb2.size
        by_cases hm2 : m < 32
        · go_wp2_with (at_builtin; refine wpList_append_own _ rfl _ _ 26 rfl wz.heap.size 3 i0 (.int .i64 0) 1 8 Tryd.underlying26 hi hz0 hz1 hz2 rfl (by decide) _ _ _ rfl (hG2.alloc _) ⟨_, 0, none⟩ 1 1 [.int .i64 ((xv : Int) % 2)] rfl rfl ?c1 ?c2 ?c3 ?c4 ?c5 ?_)
          case c1 =>
            intro j u hj
            match j, hj with
            | 0, hj => simp at hj; subst hj; simp [Addr.add]
          case c2 => intro u hu; simp at hu; subst hu; rfl
          case c3 => rw [hM.out]; unfold maxLen; omega
          case c4 => rw [hM.out]; omega
          case c5 => simp; omega
          intro v' w5 hown' hgrow _
          have hb5 := app_below hb2 hsz2 hgrow hG2.le
          clear hgrow
          go_wp2
          go_roundw
          case rel =>
            refine ⟨m + 1, xv / 2, M ++ [xv % 2], by go_num, by go_num, by omega, by omega, hid ?_, hid (by simp [hM.out]; omega), bM.snoc (by omega), Gri.snoc _ hown' (by omega), hid ?_, hb5⟩
            · have h1 := hxs.out
              rw [show 32 - m = (32 - (m + 1)) + 1 by omega, Nat.pow_succ] at h1
              omega
            · rw [bv_snoc, hM.out, show 32 * k + (m + 1) = (32 * k + m) + 1 by omega, Nat.pow_succ]
              exact limb_bit hv2.out
          case measure => simp [intOf]; omega
        · obtain rfl : m = 32 := by omega
          go_wp2
          go_roundw
          case rel =>
            refine ⟨k + 1, M, by go_num, by omega, hid (by rw [hM.out]; omega), bM, hG2, hid ?_, hb2⟩
            have h1 := hxs.out
            have h2 := hv2.out
            have h3 : xv = 0 := by simpa using h1
            rw [h3] at h2; simpa using h2
          case measure => simp [intOf]; omega
    · obtain rfl : k = la := by omega
      obtain ⟨ao, cap, rfl, hR⟩ := hG.rd (by rw [hO.out]; omega)
      go_wp2_with (go_at_call 68; refine (laidR na _ _ _ O _ hR bO).mono ?_; rintro e w2 ⟨n', len', rfl, hle, hbig, hb2⟩; obtain ⟨y0, y1, g0, g1⟩ := two_cells ((hb2.block _ (by omega)).trans ((hb.block _ (by omega)).trans hblr.out)))
      refine bodyPost_ret (v := .agg #[.bool n', .slice ao len' cap]) (by simp [results, Tryd.results17, go_sem, y0, y1]) rfl ⟨_, _, _, _, rfl, ?_, ?_, ?_⟩
      · rw [hO.out] at hle; exact hle
      · refine (hbig.other ((hb2.block _ (by omega)).trans ((hb.block _ (by omega)).trans hblr.out)) (by simp) (by simp) _ _).cast (num_sg ?_)
        rw [hv.out, val_take_ge _ _ (by rw [HA.out]; omega)]
      · have h2 := Below.mono hb2 (show wz.heap.size ≤ wr.heap.size from hsz)
        exact (((hzb.trans (Below.mono hb (by omega))).trans (Below.mono h2 (by omega))).setCell (by simp) _).setCell (by simp) _
end Go.Proofs.YtldafoojkimdeaaDoor

namespace Go.Proofs.YtldafoojkimdeaaDoor
open Go.RowKit Lm

theorem wq_neg {m n : Nat} (hm : m ≤ n) (h : n ≤ 9223372036854775808) : wrap64 (-((m : Int) / 2)) = -((m : Int) / 2) := by unfold wrap64; omega
theorem wq_pos {m n : Nat} (hm : m ≤ n) (h : n ≤ 9223372036854775807) : wrap64 ((m : Int) / 2) = (m : Int) / 2 := by unfold wrap64; omega
theorem meas_pos {m n : Nat} (hm : m ≤ n) (h : n ≤ 9223372036854775807) (h0 : m ≠ 0) : (intOf (.int .i64 (wrap64 ((m : Int) / 2)))).natAbs < (intOf (.int .i64 (m : Int))).natAbs := by
  rw [wq_pos hm h]; show ((m : Int) / 2).natAbs < (m : Int).natAbs; omega
theorem small_len2 {n m : Nat} {O : List Nat} (h : bv O + 2 ^ O.length * m = n) (h0 : 0 < m) (hn : n ≤ 9223372036854775808) : O.length ≤ 63 := by
  have h1 : 2 ^ O.length ≤ 2 ^ O.length * m := Nat.le_mul_of_pos_right _ h0
  have h2 : 2 ^ O.length ≤ 2 ^ 63 := by omega
  exact (Nat.pow_le_pow_iff_right (by decide)).1 h2

theorem small_len3 {n m : Nat} {O : List Nat} (h : bv O + 2 ^ O.length * m = n) (h0 : 0 < m) (hn : n ≤ 9223372036854775807) : O.length ≤ 63 := small_len2 h h0 (by omega)
set_option maxRecDepth 100000 in
set_option maxHeartbeats 2000000 in
theorem smallR_neg (n0 : Nat) (w : World) (h0 : 0 < n0) (h1 : Hid (n0 ≤ 9223372036854775808)) :
    Calls Tryd.prog 25 #[.int .i64 (-(n0 : Int))] w fun e w' => ∃ n' ao len cap, e = .returned (.agg #[.bool n', .slice ao len cap]) ∧ len ≤ 65 ∧ Big w' n' ao len cap (-(n0 : Int)) ∧ Below w.heap.size w w' := by
  obtain ⟨i0, hi, hz0, hz1, hz2⟩ := info_parts Tryd.infoI
  go_enter Tryd.func25, Tryd.ntmps25
  go_wp2_with fail
  obtain ⟨wz, hz⟩ : ∃ wz, wz = w.alloc (.cells #[.bool false, .slice none 0 0] 28) := ⟨_, rfl⟩
  have hzb : Below w.heap.size w wz := by rw [hz]; exact (Below.refl _ _).alloc (Nat.le_refl _) _
  have hzl : w.heap.size + 1 ≤ wz.heap.size := by rw [hz]; simp
  have hblr : Hid (wz.heap[w.heap.size]? = some (.cells #[.bool false, .slice none 0 0] 28 (0, 0))) := hid (by rw [hz]; exact heap_alloc_new _ _)
  rw [← hz]
  clear hz
  go_loopw [0, 4, 5] (fun z o _ wr => ∃ (m : Nat) (O : List Nat), z = .int .i64 (-(m : Int)) ∧ m ≤ n0 ∧ B1 O ∧ Gri wz.heap.size wr o O ∧ Hid (bv O + 2 ^ O.length * m = n0) ∧ Hid (O.length ≤ 64) ∧ Below wz.heap.size wz wr)
    (fun z _ _ _ => (intOf z).natAbs)
  case atStart => exact ⟨n0, [], rfl, Nat.le_refl _, B1.nil, Gri.nil _ _, hid (by simp [bv]), hid (by simp), Below.refl _ _⟩
  case round =>
    obtain ⟨m, O, rfl, hm, bO, hG, hv, hl, hb⟩ := hrel
    have hsz := hb.size
    by_cases hgo : m = 0
    · subst hgo
      obtain ⟨ao, cap, rfl, hR⟩ := hG.rd (by have := hl.out; omega)
      go_wp2_with (go_at_call 68; refine (laidR true _ _ _ O _ hR bO).mono ?_; rintro e w2 ⟨n', len', rfl, hle, hbig, hb2⟩; obtain ⟨y0, y1, g0, g1⟩ := two_cells ((hb2.block _ (by omega)).trans ((hb.block _ (by omega)).trans hblr.out)))
      refine bodyPost_ret (v := .agg #[.bool n', .slice ao len' cap]) (by simp [results, Tryd.results25, go_sem, y0, y1]) rfl ⟨_, _, _, _, rfl, ?_, ?_, ?_⟩
      · have := hl.out; omega
      · refine (hbig.other ((hb2.block _ (by omega)).trans ((hb.block _ (by omega)).trans hblr.out)) (by simp) (by simp) _ _).cast ?_
        have := hv.out; unfold sg; simp at this ⊢; omega
      · have h2 := Below.mono hb2 (show wz.heap.size ≤ wr.heap.size from hsz)
        exact (((hzb.trans (Below.mono hb (by omega))).trans (Below.mono h2 (by omega))).setCell (by simp) _).setCell (by simp) _
    · have hne : ((-(m : Int)) != 0) = true := by simp; omega
      have HQ : Hid (wrap64 (-((m : Int) / 2)) = -((m : Int) / 2)) := hid (by have := h1.out; unfold wrap64; omega)
      by_cases hodd : 0 < m % 2
      · have hod : (0 : Int) < (m : Int) % 2 := by omega
        go_wp2_with (at_builtin; refine wpList_append_own _ rfl _ _ 26 rfl wz.heap.size 3 i0 (.int .i64 0) 1 8 Tryd.underlying26 hi hz0 hz1 hz2 rfl (by decide) _ _ _ rfl (hG.alloc _) ⟨_, 0, none⟩ 1 1 [.int .i64 ((m : Int) % 2)] rfl rfl ?c1 ?c2 ?c3 ?c4 ?c5 ?_)
        try case c1 =>
          intro j u hj
          match j, hj with
          | 0, hj => simp at hj; subst hj; simp [Addr.add]
        case c2 => first | rfl | (intro u hu; simp at hu; subst hu; rfl)
        case c3 => have := hl.out; unfold maxLen; omega
        case c4 => have := hl.out; omega
        case c5 => first | omega | (simp; omega)
        intro v' w5 hown' hgrow _
        have hb5 := app_below hb hsz hgrow hG.le
        clear hgrow
        go_wp2
        go_roundw
        case rel =>
          refine ⟨m / 2, O ++ [m % 2], congrArg (Value.int .i64) (by rw [HQ.out]; omega), by omega, bO.snoc (by omega), Gri.snoc _ hown' (by omega), hid ?_, hid ?_, hb5⟩
          · rw [bv_snoc, List.length_append, List.length_singleton, Nat.pow_succ]; exact limb_bit hv.out
          · have := small_len2 hv.out (by omega) h1.out; simp; omega
        case measure => simp [intOf, HQ.out]; omega
      · have hod : ¬ (0 : Int) < (m : Int) % 2 := by omega
        go_wp2_with (at_builtin; refine wpList_append_own _ rfl _ _ 26 rfl wz.heap.size 3 i0 (.int .i64 0) 1 8 Tryd.underlying26 hi hz0 hz1 hz2 rfl (by decide) _ _ _ rfl (hG.alloc _) ⟨_, 0, none⟩ 1 1 [.int .i64 (-((m : Int) % 2))] rfl rfl ?c1 ?c2 ?c3 ?c4 ?c5 ?_)
        try case c1 =>
          intro j u hj
          match j, hj with
          | 0, hj => simp at hj; subst hj; simp [Addr.add]
        case c2 => first | rfl | (intro u hu; simp at hu; subst hu; rfl)
        case c3 => have := hl.out; unfold maxLen; omega
        case c4 => have := hl.out; omega
        case c5 => first | omega | (simp; omega)
        intro v' w5 hown' hgrow _
        have hb5 := app_below hb hsz hgrow hG.le
        clear hgrow
        go_wp2
        go_roundw
        case rel =>
          refine ⟨m / 2, O ++ [m % 2], congrArg (Value.int .i64) (by rw [HQ.out]; omega), by omega, bO.snoc (by omega), Gri.snoc _ hown' (by omega), hid ?_, hid ?_, hb5⟩
          · rw [bv_snoc, List.length_append, List.length_singleton, Nat.pow_succ]; exact limb_bit hv.out
          · have := small_len2 hv.out (by omega) h1.out; simp; omega
        case measure => simp [intOf, HQ.out]; omega

set_option maxRecDepth 100000 in
set_option maxHeartbeats 2000000 in
theorem smallR_pos (n0 : Nat) (w : World) (h1 : Hid (n0 ≤ 9223372036854775807)) :
    Calls Tryd.prog 25 #[.int .i64 (n0 : Int)] w fun e w' => ∃ n' ao len cap, e = .returned (.agg #[.bool n', .slice ao len cap]) ∧ len ≤ 65 ∧ Big w' n' ao len cap (n0 : Int) ∧ Below w.heap.size w w' := by
  obtain ⟨i0, hi, hz0, hz1, hz2⟩ := info_parts Tryd.infoI
  have hp : ¬ ((n0 : Int) < 0) := by omega
  go_enter Tryd.func25, Tryd.ntmps25
  go_wp2_with fail
  obtain ⟨wz, hz⟩ : ∃ wz, wz = w.alloc (.cells #[.bool false, .slice none 0 0] 28) := ⟨_, rfl⟩
  have hzb : Below w.heap.size w wz := by rw [hz]; exact (Below.refl _ _).alloc (Nat.le_refl _) _
  have hzl : w.heap.size + 1 ≤ wz.heap.size := by rw [hz]; simp
  have hblr : Hid (wz.heap[w.heap.size]? = some (.cells #[.bool false, .slice none 0 0] 28 (0, 0))) := hid (by rw [hz]; exact heap_alloc_new _ _)
  rw [← hz]
  clear hz
  go_loopw [0, 4, 5] (fun z o _ wr => ∃ (m : Nat) (O : List Nat), z = .int .i64 (m : Int) ∧ m ≤ n0 ∧ B1 O ∧ Gri wz.heap.size wr o O ∧ Hid (bv O + 2 ^ O.length * m = n0) ∧ Hid (O.length ≤ 64) ∧ Below wz.heap.size wz wr)
    (fun z _ _ _ => (intOf z).natAbs)
  case atStart => exact ⟨n0, [], rfl, Nat.le_refl _, B1.nil, Gri.nil _ _, hid (by simp [bv]), hid (by simp), Below.refl _ _⟩
  case round =>
    obtain ⟨m, O, rfl, hm, bO, hG, hv, hl, hb⟩ := hrel
    have hsz := hb.size
    by_cases hgo : m = 0
    · subst hgo
      obtain ⟨ao, cap, rfl, hR⟩ := hG.rd (by have := hl.out; omega)
      go_wp2_with (go_at_call 68; refine (laidR false _ _ _ O _ hR bO).mono ?_; rintro e w2 ⟨n', len', rfl, hle, hbig, hb2⟩; obtain ⟨y0, y1, g0, g1⟩ := two_cells ((hb2.block _ (by omega)).trans ((hb.block _ (by omega)).trans hblr.out)))
      refine bodyPost_ret (v := .agg #[.bool n', .slice ao len' cap]) (by simp [results, Tryd.results25, go_sem, y0, y1]) rfl ⟨_, _, _, _, rfl, ?_, ?_, ?_⟩
      · have := hl.out; omega
      · refine (hbig.other ((hb2.block _ (by omega)).trans ((hb.block _ (by omega)).trans hblr.out)) (by simp) (by simp) _ _).cast ?_
        have := hv.out; unfold sg; simp at this ⊢; omega
      · have h2 := Below.mono hb2 (show wz.heap.size ≤ wr.heap.size from hsz)
        exact (((hzb.trans (Below.mono hb (by omega))).trans (Below.mono h2 (by omega))).setCell (by simp) _).setCell (by simp) _
    · have hne : ((m : Int) != 0) = true := by simp; omega
      have HQ : Hid (wrap64 ((m : Int) / 2) = (m : Int) / 2) := hid (by have := h1.out; unfold wrap64; omega)
      have hod : ¬ ((m : Int) % 2 < 0) := by omega
      ·
        go_wp2_with (at_builtin; refine wpList_append_own _ rfl _ _ 26 rfl wz.heap.size 3 i0 (.int .i64 0) 1 8 Tryd.underlying26 hi hz0 hz1 hz2 rfl (by decide) _ _ _ rfl (hG.alloc _) ⟨_, 0, none⟩ 1 1 [.int .i64 ((m : Int) % 2)] rfl rfl ?c1 ?c2 ?c3 ?c4 ?c5 ?_)
        try case c1 =>
          intro j u hj
          match j, hj with
          | 0, hj => simp at hj; subst hj; simp [Addr.add]
        case c2 => first | rfl | (intro u hu; simp at hu; subst hu; rfl)
        case c3 => have := hl.out; unfold maxLen; omega
        case c4 => have := hl.out; omega
        case c5 => first | omega | (simp; omega)
        intro v' w5 hown' hgrow _
        have hb5 := app_below hb hsz hgrow hG.le
        clear hgrow
        go_wp2
        go_roundw
        case rel =>
          refine ⟨m / 2, O ++ [m % 2], congrArg (Value.int .i64) (by rw [HQ.out]; omega), by omega, bO.snoc (by omega), Gri.snoc _ hown' (by omega), hid ?_, hid ?_, hb5⟩
          · rw [bv_snoc, List.length_append, List.length_singleton, Nat.pow_succ]; exact limb_bit hv.out
          · have := small_len3 hv.out (by omega) h1.out; simp; omega
        case measure => exact meas_pos hm h1.out hgo

theorem smallR (n : Int) (w : World) (h1 : -9223372036854775808 ≤ n) (h2 : n ≤ 9223372036854775807) :
    Calls Tryd.prog 25 #[.int .i64 n] w fun e w' => ∃ n' ao len cap, e = .returned (.agg #[.bool n', .slice ao len cap]) ∧ len ≤ 65 ∧ Big w' n' ao len cap n ∧ Below w.heap.size w w' := by
  rcases Int.lt_or_le n 0 with h | h
  · have e : n = -(n.natAbs : Int) := by omega
    rw [e]
    exact smallR_neg n.natAbs w (by omega) (hid (by omega))
  · have e : n = (n.natAbs : Int) := by omega
    rw [e]
    exact smallR_pos n.natAbs w (hid (by omega))
end Go.Proofs.YtldafoojkimdeaaDoor

namespace Go.Proofs.YtldafoojkimdeaaDoor
open Go.RowKit Lm

set_option maxRecDepth 100000 in
set_option maxHeartbeats 1000000 in
theorem minusR (n : Bool) (ao : Option Addr) (len cap : Nat) (v : Int) (w : World) (h : Big w n ao len cap v) :
    Calls Tryd.prog 23 #[.agg #[.bool n, .slice ao len cap]] w fun e w' => ∃ n' len', e = .returned (.agg #[.bool n', .slice ao len' cap]) ∧ len' ≤ len ∧ Big w' n' ao len' cap (-v) ∧ Below w.heap.size w w' := by
  obtain ⟨L, hR, bL, tL, hn, hv⟩ := h
  have HV : Hid (sg n L = v) := hid hv
  clear hv hn
  go_enter Tryd.func23, Tryd.ntmps23
  go_wp2_with (go_at_call 68; refine (laidR (!n) _ _ _ L _ ((hR.alloc _).alloc _) bL).mono ?_; rintro e w2 ⟨n', len', rfl, hle, hbig, hb2⟩; have k0 := blk_keep2 hb2; obtain ⟨y0, y1, g0, g1⟩ := two_cells k0)
  refine bodyPost_ret (v := .agg #[.bool n', .slice ao len' cap]) (by simp [results, Tryd.results23, go_sem, y0, y1]) rfl ⟨_, _, rfl, hle, ?_, ?_⟩
  · exact (hbig.other k0 (by simp) (by simp) _ _).cast (by rw [sg_not, HV.out])
  · exact ((balloc2 hb2).setCell (by simp) _).setCell (by simp) _

set_option maxRecDepth 100000 in
set_option maxHeartbeats 1000000 in
theorem signR (n : Bool) (ao : Option Addr) (len cap : Nat) (v : Int) (w : World) (h : Big w n ao len cap v) :
    Calls Tryd.prog 29 #[.agg #[.bool n, .slice ao len cap]] w fun e w' => e = .returned (.int .i64 v.sign) ∧ Below w.heap.size w w' := by
  obtain ⟨L, hR, bL, tL, hn, hv⟩ := h
  have HL := hid hR.size
  by_cases h0 : len = 0
  · have e : L = [] := List.eq_nil_of_length_eq_zero (by rw [HL.out, h0])
    have HS : Hid (v.sign = 0) := hid (by rw [← hv, e, sg_nil]; rfl)
    subst h0
    clear hv hn e
    go_enter Tryd.func29, Tryd.ntmps29
    go_wp2
    go_ret
    exact ⟨by rw [HS.out]; rfl, (Below.refl _ _).alloc (Nat.le_refl _) _⟩
  · have hl : L ≠ [] := fun e => h0 (by rw [← HL.out, e]; rfl)
    have hp : 0 < bv L := Nat.lt_of_lt_of_le (Nat.pow_pos (by decide)) (btop_ge tL hl)
    have hz' : ((len : Int) == 0) = false := by simp [h0]
    cases n with
    | true =>
      have HS : Hid (v.sign = -1) := hid (by rw [← hv]; show (-(bv L : Int)).sign = -1; rw [Int.sign_neg, Int.sign_eq_one_of_pos (by omega)])
      clear hv hn hp hl
      go_enter Tryd.func29, Tryd.ntmps29
      go_wp2
      go_ret
      exact ⟨by rw [HS.out]; rfl, (Below.refl _ _).alloc (Nat.le_refl _) _⟩
    | false =>
      have HS : Hid (v.sign = 1) := hid (by rw [← hv]; show ((bv L : Int)).sign = 1; rw [Int.sign_eq_one_of_pos (by omega)])
      clear hv hn hp hl
      go_enter Tryd.func29, Tryd.ntmps29
      go_wp2
      go_ret
      exact ⟨by rw [HS.out]; rfl, (Below.refl _ _).alloc (Nat.le_refl _) _⟩

theorem sg_add (n : Bool) {A B C : List Nat} (h : bv C = bv A + bv B) : sg n C = sg n A + sg n B := by unfold sg; rw [h]; cases n <;> simp <;> omega
theorem sg_sub (n : Bool) {A B C : List Nat} (h : bv C + bv B = bv A) : sg n C = sg n A + sg (!n) B := by unfold sg; rw [← h]; cases n <;> simp <;> omega
theorem new3 {w wz : World} {o1 o2 o3 : Obj} (hz : wz = ((w.alloc o1).alloc o2).alloc o3) : wz.heap[w.heap.size]? = some o1 ∧ wz.heap[w.heap.size + 1]? = some o2 ∧ wz.heap[w.heap.size + 2]? = some o3 ∧ Below w.heap.size w wz ∧ w.heap.size + 3 ≤ wz.heap.size := by
  subst hz
  refine ⟨hpS _ (hpS _ (heap_alloc_new w o1)), ?_, ?_, (((Below.refl _ _).alloc (Nat.le_refl _) _).alloc (by simp) _).alloc (by simp; omega) _, by simp⟩
  · have := heap_alloc_new (w.alloc o1) o2
    exact hpS _ (by simpa using this)
  · have := heap_alloc_new ((w.alloc o1).alloc o2) o3
    simpa using this

set_option maxRecDepth 100000 in
set_option maxHeartbeats 2000000 in
theorem sumR (nx : Bool) (xo : Option Addr) (xl xc : Nat) (vx : Int) (ny : Bool) (yo : Option Addr) (yl yc : Nat) (vy : Int) (w : World) (hX : Big w nx xo xl xc vx) (hY : Big w ny yo yl yc vy) (sx : xl ≤ 1073741824) (sy : yl ≤ 1073741824) :
    Calls Tryd.prog 39 #[.agg #[.bool nx, .slice xo xl xc], .agg #[.bool ny, .slice yo yl yc]] w fun e w' => ∃ n' ao len cap, e = .returned (.agg #[.bool n', .slice ao len cap]) ∧ len ≤ max xl yl + 1 ∧ Big w' n' ao len cap (vx + vy) ∧ Below w.heap.size w w' := by
  obtain ⟨A, rA, bA, tA, _, ex⟩ := hX
  obtain ⟨B, rB, bB, tB, _, ey⟩ := hY
  have HX := hid ex
  have HY := hid ey
  clear ex ey
  by_cases hs : nx = ny
  · subst hs
    go_enter Tryd.func39, Tryd.ntmps39
    go_wp2_with fail
    obtain ⟨wz, hz⟩ : ∃ wz, wz = ((w.alloc (.cells #[.bool nx, .slice xo xl xc] 28)).alloc (.cells #[.bool nx, .slice yo yl yc] 28)).alloc (.cells #[.bool false, .slice none 0 0] 28) := ⟨_, rfl⟩
    obtain ⟨hpx, hpy, hpr, hzb, hzl⟩ := new3 hz
    rw [← hz]
    clear hz
    have HPr := hid hpr
    obtain ⟨x0, x1, _, _⟩ := two_cells hpx
    obtain ⟨y0, y1, _, _⟩ := two_cells hpy
    have zA := rA.keep hzb
    have zB := rB.keep hzb
    clear hpx hpy hpr rA rB
    ·
      have hn1 : (nx == nx) = true := by simp
      go_wp2_with fail
      go_region_held3 (fun w' => w'.cell? ⟨w.heap.size, 0, none⟩ = some (.bool nx) ∧ w'.cell? ⟨w.heap.size, 1, none⟩ = some (.slice xo xl xc) ∧ w'.cell? ⟨w.heap.size + 1, 1, none⟩ = some (.slice yo yl yc)) (refine ⟨?_, ?_, ?_⟩ <;> first | assumption | (simp [go_sem]; assumption))
        (first
          | (go_at_call 80; refine (addR _ _ _ A _ _ _ B _ ?_ ?_ bA bB sx sy).mono ?_; (first | exact zA | exact zA.drew); (first | exact zB | exact zB.drew); rintro e w2 ⟨ao2, len2, cap2, C, rfl, hl2, hR2, bC, tC, HVC, hb2⟩; have q02 := cell_keep x0 (undrew hb2); have q12 := cell_keep x1 (undrew hb2); have q22 := cell_keep y1 (undrew hb2); have hP2 := hid (heap_keep HPr.out (undrew hb2)))
          | (go_at_call 68; refine (laidR nx _ _ _ C _ hR2 bC).mono ?_; rintro e w3 ⟨n', len', rfl, hle, hbig, hb3⟩; have q03 := cell_keep q02 hb3; have q13 := cell_keep q12 hb3; have q23 := cell_keep q22 hb3; have k0 := heap_keep hP2.out hb3; obtain ⟨c0, c1, f0, f1⟩ := two_cells k0))
      have hs2 := (undrew hb2).size
      have hs3 := hb3.size
      go_wp2
      refine bodyPost_ret (v := .agg #[.bool n', .slice ao2 len' cap2]) (by simp [results, Tryd.results39, go_sem, c0, c1]) rfl ⟨_, _, _, _, rfl, ?_, ?_, ?_⟩
      · omega
      · exact (hbig.other k0 (by simp) (by simp) _ _).cast (by rw [sg_add nx HVC.out, HX.out, HY.out])
      · exact (((hzb.trans (Below.mono (undrew hb2) (by simp; omega))).trans (Below.mono hb3 (by omega))).setCell (by simp; omega) _).setCell (by simp; omega) _
  · have hny : ny = !nx := by cases nx <;> cases ny <;> simp_all
    subst hny
    go_enter Tryd.func39, Tryd.ntmps39
    go_wp2_with fail
    obtain ⟨wz, hz⟩ : ∃ wz, wz = ((w.alloc (.cells #[.bool nx, .slice xo xl xc] 28)).alloc (.cells #[.bool !nx, .slice yo yl yc] 28)).alloc (.cells #[.bool false, .slice none 0 0] 28) := ⟨_, rfl⟩
    obtain ⟨hpx, hpy, hpr, hzb, hzl⟩ := new3 hz
    rw [← hz]
    clear hz
    have HPr := hid hpr
    obtain ⟨x0, x1, _, _⟩ := two_cells hpx
    obtain ⟨y0, y1, _, _⟩ := two_cells hpy
    have zA := rA.keep hzb
    have zB := rB.keep hzb
    clear hpx hpy hpr rA rB
    have hn1 : (nx == !nx) = false := by cases nx <;> rfl
    by_cases hlt : bv A < bv B
    · have HLE : Hid (bv A ≤ bv B) := hid (by omega)
      have hd : decide (bv A < bv B) = true := decide_eq_true hlt
      have HD := hid hd
      clear hd hlt
      go_wp2_with (go_at_call 81; refine (lessR _ _ _ A _ _ _ B _ zA zB bA bB tA tB).mono ?_; rintro e w1 ⟨rfl, hb1⟩; rw [HD.out])
      have zA1 := zA.keep hb1
      have zB1 := zB.keep hb1
      have x01 := cell_keep x0 hb1
      have x11 := cell_keep x1 hb1
      have y01 := cell_keep y0 hb1
      have y11 := cell_keep y1 hb1
      have HPr1 := hid (heap_keep HPr.out hb1)
      have hs1 := hb1.size
      go_region_held3 (fun w' => w'.cell? ⟨w.heap.size + 1, 0, none⟩ = some (.bool (!nx)) ∧ w'.cell? ⟨w.heap.size, 1, none⟩ = some (.slice xo xl xc) ∧ w'.cell? ⟨w.heap.size + 1, 1, none⟩ = some (.slice yo yl yc)) (refine ⟨?_, ?_, ?_⟩ <;> first | assumption | (simp [go_sem]; assumption))
        (first
          | (go_at_call 82; refine (subR _ _ _ B _ _ _ A _ ?_ ?_ bB bA tA HLE sy).mono ?_; (first | exact zB1 | exact zB1.drew); (first | exact zA1 | exact zA1.drew); rintro e w2 ⟨ao2, len2, cap2, C, rfl, hl2, hR2, bC, tC, HVC, hb2⟩; have q02 := cell_keep y01 (undrew hb2); have q12 := cell_keep x11 (undrew hb2); have q22 := cell_keep y11 (undrew hb2); have hP2 := hid (heap_keep HPr1.out (undrew hb2)))
          | (go_at_call 68; refine (laidR (!nx) _ _ _ C _ hR2 bC).mono ?_; rintro e w3 ⟨n', len', rfl, hle, hbig, hb3⟩; have q03 := cell_keep q02 hb3; have q13 := cell_keep q12 hb3; have q23 := cell_keep q22 hb3; have k0 := heap_keep hP2.out hb3; obtain ⟨c0, c1, f0, f1⟩ := two_cells k0))
      have hs2 := (undrew hb2).size
      have hs3 := hb3.size
      go_wp2
      refine bodyPost_ret (v := .agg #[.bool n', .slice ao2 len' cap2]) (by simp [results, Tryd.results39, go_sem, c0, c1]) rfl ⟨_, _, _, _, rfl, ?_, ?_, ?_⟩
      · omega
      · exact (hbig.other k0 (by simp) (by simp) _ _).cast (by rw [sg_sub (!nx) HVC.out, Bool.not_not, HX.out, HY.out, Int.add_comm])
      · exact ((((hzb.trans (Below.mono hb1 (by omega))).trans (Below.mono (undrew hb2) (by simp; omega))).trans (Below.mono hb3 (by omega))).setCell (by simp; omega) _).setCell (by simp; omega) _
    · have HLE : Hid (bv B ≤ bv A) := hid (by omega)
      have hd : decide (bv A < bv B) = false := decide_eq_false hlt
      have HD := hid hd
      clear hd hlt
      go_wp2_with (go_at_call 81; refine (lessR _ _ _ A _ _ _ B _ zA zB bA bB tA tB).mono ?_; rintro e w1 ⟨rfl, hb1⟩; rw [HD.out])
      have zA1 := zA.keep hb1
      have zB1 := zB.keep hb1
      have x01 := cell_keep x0 hb1
      have x11 := cell_keep x1 hb1
      have y01 := cell_keep y0 hb1
      have y11 := cell_keep y1 hb1
      have HPr1 := hid (heap_keep HPr.out hb1)
      have hs1 := hb1.size
      go_region_held3 (fun w' => w'.cell? ⟨w.heap.size, 0, none⟩ = some (.bool nx) ∧ w'.cell? ⟨w.heap.size, 1, none⟩ = some (.slice xo xl xc) ∧ w'.cell? ⟨w.heap.size + 1, 1, none⟩ = some (.slice yo yl yc)) (refine ⟨?_, ?_, ?_⟩ <;> first | assumption | (simp [go_sem]; assumption))
        (first
          | (go_at_call 82; refine (subR _ _ _ A _ _ _ B _ ?_ ?_ bA bB tB HLE sx).mono ?_; (first | exact zA1 | exact zA1.drew); (first | exact zB1 | exact zB1.drew); rintro e w2 ⟨ao2, len2, cap2, C, rfl, hl2, hR2, bC, tC, HVC, hb2⟩; have q02 := cell_keep x01 (undrew hb2); have q12 := cell_keep x11 (undrew hb2); have q22 := cell_keep y11 (undrew hb2); have hP2 := hid (heap_keep HPr1.out (undrew hb2)))
          | (go_at_call 68; refine (laidR nx _ _ _ C _ hR2 bC).mono ?_; rintro e w3 ⟨n', len', rfl, hle, hbig, hb3⟩; have q03 := cell_keep q02 hb3; have q13 := cell_keep q12 hb3; have q23 := cell_keep q22 hb3; have k0 := heap_keep hP2.out hb3; obtain ⟨c0, c1, f0, f1⟩ := two_cells k0))
      have hs2 := (undrew hb2).size
      have hs3 := hb3.size
      go_wp2
      refine bodyPost_ret (v := .agg #[.bool n', .slice ao2 len' cap2]) (by simp [results, Tryd.results39, go_sem, c0, c1]) rfl ⟨_, _, _, _, rfl, ?_, ?_, ?_⟩
      · omega
      · exact (hbig.other k0 (by simp) (by simp) _ _).cast (by rw [sg_sub nx HVC.out, HX.out, HY.out])
      · exact ((((hzb.trans (Below.mono hb1 (by omega))).trans (Below.mono (undrew hb2) (by simp; omega))).trans (Below.mono hb3 (by omega))).setCell (by simp; omega) _).setCell (by simp; omega) _

end Go.Proofs.YtldafoojkimdeaaDoor

namespace Go.Proofs.YtldafoojkimdeaaDoor
open Go.RowKit Lm

theorem new2 {w wz : World} {o1 o2 : Obj} (hz : wz = (w.alloc o1).alloc o2) : wz.heap[w.heap.size]? = some o1 ∧ wz.heap[w.heap.size + 1]? = some o2 ∧ Below w.heap.size w wz ∧ w.heap.size + 2 ≤ wz.heap.size := by
  subst hz
  refine ⟨hpS _ (heap_alloc_new w o1), ?_, ((Below.refl _ _).alloc (Nat.le_refl _) _).alloc (by simp) _, by simp⟩
  have := heap_alloc_new (w.alloc o1) o2
  simpa using this

set_option maxRecDepth 100000 in
set_option maxHeartbeats 2000000 in
theorem cmpR (nx : Bool) (xo : Option Addr) (xl xc : Nat) (vx : Int) (ny : Bool) (yo : Option Addr) (yl yc : Nat) (vy : Int) (w : World) (hX : Big w nx xo xl xc vx) (hY : Big w ny yo yl yc vy) (sx : xl ≤ 1073741824) (sy : yl ≤ 1073741824) :
    Calls Tryd.prog 31 #[.agg #[.bool nx, .slice xo xl xc], .agg #[.bool ny, .slice yo yl yc]] w fun e w' => e = .returned (.int .i64 (vx - vy).sign) ∧ Below w.heap.size w w' := by
  go_enter Tryd.func31, Tryd.ntmps31
  go_wp2_with fail
  obtain ⟨wz, hz⟩ : ∃ wz, wz = (w.alloc (.cells #[.bool nx, .slice xo xl xc] 28)).alloc (.cells #[.bool ny, .slice yo yl yc] 28) := ⟨_, rfl⟩
  obtain ⟨hpx, hpy, hzb, hzl⟩ := new2 hz
  rw [← hz]
  clear hz
  obtain ⟨x0, x1, _, _⟩ := two_cells hpx
  obtain ⟨y0, y1, _, _⟩ := two_cells hpy
  have zX := hX.keep hzb
  have zY := hY.keep hzb
  clear hpx hpy hX hY
  go_region_held3 (fun w' => w'.cell? ⟨w.heap.size, 0, none⟩ = some (.bool nx) ∧ w'.cell? ⟨w.heap.size, 1, none⟩ = some (.slice xo xl xc) ∧ w'.cell? ⟨w.heap.size + 1, 0, none⟩ = some (.bool ny) ∧ w'.cell? ⟨w.heap.size + 1, 1, none⟩ = some (.slice yo yl yc)) (first | go_keep | (refine ⟨?_, ?_, ?_, ?_⟩ <;> first | assumption | (simp [go_sem]; assumption)))
    (first
      | (go_at_call 23; (with_reducible refine (minusR _ _ _ _ vy wz.drew zY.drew).mono ?_); rintro e w2 ⟨nm, lm, rfl, hlm, zM, hb2⟩; have hb2' := undrew hb2; have x02 := cell_keep x0 hb2'; have x12 := cell_keep x1 hb2'; have y02 := cell_keep y0 hb2'; have y12 := cell_keep y1 hb2'; have zX2 := zX.keep hb2'; have n0 := World.new_ne w2 _ x02; have n1 := World.new_ne w2 _ x12; have n2 := World.new_ne w2 _ y02; have n3 := World.new_ne w2 _ y12)
      | (go_at_call 23; (with_reducible refine (minusR _ _ _ _ vy ((wz.alloc _).drew) (zY.alloc _).drew).mono ?_); rintro e w2 ⟨nm, lm, rfl, hlm, zM, hb2⟩; have hb2' := balloc (undrew hb2); have x02 := cell_keep x0 hb2'; have x12 := cell_keep x1 hb2'; have y02 := cell_keep y0 hb2'; have y12 := cell_keep y1 hb2'; have zX2 := zX.keep hb2'; have n0 := World.new_ne w2 _ x02; have n1 := World.new_ne w2 _ x12; have n2 := World.new_ne w2 _ y02; have n3 := World.new_ne w2 _ y12; have hkc := blk_keep (undrew hb2))
      | (go_at_call 39; (with_reducible refine (sumR _ _ _ _ vx _ _ _ _ (-vy) w2 zX2 zM sx (by omega)).mono ?_); rintro e w3 ⟨nd, od, ld, cd, rfl, hld, zD, hb3⟩; have hk := heap_keep hkc hb3; obtain ⟨d0, d1, g0, g1⟩ := two_cells hk; have hb4 := hb3; have x03 := cell_keep x02 hb4; have x13 := cell_keep x12 hb4; have y03 := cell_keep y02 hb4; have y13 := cell_keep y12 hb4; have m0 := World.new_ne w3 _ x03; have m1 := World.new_ne w3 _ x13; have m2 := World.new_ne w3 _ y03; have m3 := World.new_ne w3 _ y13)
      | (go_at_call 39; (with_reducible refine (sumR _ _ _ _ vx _ _ _ _ (-vy) w2 zX2 zM sx (by omega)).mono ?_); rintro e w3 ⟨nd, od, ld, cd, rfl, hld, zD, hb3⟩; have hb4 := hb3; have x03 := cell_keep x02 hb4; have x13 := cell_keep x12 hb4; have y03 := cell_keep y02 hb4; have y13 := cell_keep y12 hb4; have m0 := World.new_ne w3 _ x03; have m1 := World.new_ne w3 _ x13; have m2 := World.new_ne w3 _ y03; have m3 := World.new_ne w3 _ y13)
      | (go_at_call 39; (with_reducible refine (sumR _ _ _ _ vx _ _ _ _ (-vy) (w2.alloc _) (zX2.alloc _) (zM.alloc _) sx (by omega)).mono ?_); rintro e w3 ⟨nd, od, ld, cd, rfl, hld, zD, hb3⟩; have hb4 := balloc hb3; have x03 := cell_keep x02 hb4; have x13 := cell_keep x12 hb4; have y03 := cell_keep y02 hb4; have y13 := cell_keep y12 hb4; have m0 := World.new_ne w3 _ x03; have m1 := World.new_ne w3 _ x13; have m2 := World.new_ne w3 _ y03; have m3 := World.new_ne w3 _ y13; have hk := blk_keep hb3; obtain ⟨d0, d1, g0, g1⟩ := two_cells hk))
  all_goals
    have hs2 := hb2'.size
    have hs3 := hb4.size
    have hbz := (hzb.trans (Below.mono hb2' (by first | omega | (simp; omega)))).trans (Below.mono hb4 (by omega))
    clear m0 m1 m2 m3 n0 n1 n2 n3 x03 x13 y03 y13 x02 x12 y02 y12 x0 x1 y0 y1
    have HE : Hid ((vx + -vy).sign = (vx - vy).sign) := hid rfl
    go_wp2_with (go_at_call 29; refine (signR _ _ _ _ (vx + -vy) _ ?_).mono ?_; (first | exact zD.alloc _ | exact zD.other hk (by simp) (by simp) _ _); rintro e w4 ⟨rfl, hb5⟩; rw [HE.out])
    go_ret
    first
      | exact ⟨rfl, hbz.trans (Below.mono (balloc hb5) (by omega))⟩
      | exact ⟨rfl, ((hbz.setCell (by simp; omega) _).setCell (by simp; omega) _).trans (Below.mono hb5 (by simp; omega))⟩
end Go.Proofs.YtldafoojkimdeaaDoor

namespace Go.Proofs.YtldafoojkimdeaaDoor
open Go.RowKit Lm

theorem wrap_dbl_sub {z s : Int} (b : Int) (h : z = wrap64 s) : wrap64 (wrap64 (2 * z) - b) = wrap64 (2 * s - b) := by subst h; unfold wrap64; omega
theorem wrap_dbl_add {z s : Int} (b : Int) (h : z = wrap64 s) : wrap64 (wrap64 (2 * z) + b) = wrap64 (2 * s + b) := by subst h; unfold wrap64; omega
theorem wrap_lo (s : Int) : -9223372036854775808 ≤ wrap64 s := by unfold wrap64; omega
theorem wrap_hi (s : Int) : wrap64 s ≤ 9223372036854775807 := by unfold wrap64; omega
theorem wrap_fits {s : Int} (h : fits64 s = true) : wrap64 s = s := by unfold fits64 at h; simp at h; unfold wrap64; omega
theorem wrap_unfit {s : Int} (h : fits64 s = false) : wrap64 s - s ≠ 0 := by
  have h1 := wrap_lo s
  have h2 := wrap_hi s
  intro e
  have : fits64 s = true := by unfold fits64; simp; omega
  rw [h] at this; cases this
theorem sg_drop_neg (L : List Nat) (m : Nat) : sg true (L.drop m) = 2 * sg true (L.drop (m + 1)) - (dg L m : Int) := by
  unfold sg; simp; rw [bv_drop_dg]; omega
theorem sg_drop_pos (L : List Nat) (m : Nat) : sg false (L.drop m) = 2 * sg false (L.drop (m + 1)) + (dg L m : Int) := by
  unfold sg; simp; rw [bv_drop_dg]; omega
theorem fits_not {n : Bool} {L : List Nat} (tL : Top L) (h : 64 < L.length) : fits64 (sg n L) = false := by
  have h1 := btop_ge tL (by intro e; rw [e] at h; simp at h)
  have h2 : 2 ^ 64 ≤ 2 ^ (L.length - 1) := Nat.pow_le_pow_right (by decide) (by omega)
  have h3 : (2 : Nat) ^ 64 = 18446744073709551616 := by decide
  unfold fits64 sg
  cases n <;> simp <;> omega
theorem new1 {w wz : World} {o1 : Obj} (hz : wz = w.alloc o1) : wz.heap[w.heap.size]? = some o1 ∧ Below w.heap.size w wz ∧ w.heap.size + 1 ≤ wz.heap.size := by
  subst hz
  exact ⟨heap_alloc_new w o1, (Below.refl _ _).alloc (Nat.le_refl _) _, by simp⟩

set_option maxRecDepth 100000 in
set_option maxHeartbeats 2000000 in
theorem toR (n : Bool) (xo : Option Addr) (xl xc : Nat) (v : Int) (w : World) (h : Big w n xo xl xc v) :
    Calls Tryd.prog 27 #[.agg #[.bool n, .slice xo xl xc]] w fun e w' => e = .returned (.tuple #[.int .i64 (as64 v), .bool (fits64 v)]) ∧ Below w.heap.size w w' := by
  have hB := h
  obtain ⟨L, rL, bL, tL, _, ev⟩ := h
  have HL := hid rL.size
  by_cases h64 : 64 < xl
  · have hf : fits64 v = false := by rw [← ev]; exact fits_not tL (by rw [HL.out]; exact h64)
    rw [as64_out _ hf, hf]
    clear hf ev hB rL
    go_enter Tryd.func27, Tryd.ntmps27
    go_wp2
    go_ret2
    exact ⟨rfl, (Below.refl _ _).alloc (Nat.le_refl _) _⟩
  · have HV := hid ev
    clear ev
    go_enter Tryd.func27, Tryd.ntmps27
    go_wp2_with fail
    obtain ⟨wz, hz⟩ : ∃ wz, wz = w.alloc (.cells #[.bool n, .slice xo xl xc] 28) := ⟨_, rfl⟩
    obtain ⟨hpx, hzb, hzl⟩ := new1 hz
    rw [← hz]
    clear hz
    obtain ⟨x0, x1, _, _⟩ := two_cells hpx
    have zL := rL.keep hzb
    have zB := hB.keep hzb
    clear rL hB
    have HP := hid hpx
    clear hpx
    go_loop [4, 5] (fun c i => ∃ (k : Nat) (z : Int), k ≤ xl ∧ i = .int .i64 ((k : Int) - 1) ∧ c = .int .i64 z ∧ Hid (z = wrap64 (sg n (L.drop k)))) (fun _ i => (intOf i + 1).toNat)
    case atStart => exact ⟨xl, 0, Nat.le_refl _, rfl, rfl, hid (by rw [List.drop_eq_nil_of_le (by rw [HL.out]; exact Nat.le_refl _), sg_nil]; unfold wrap64; omega)⟩
    case round =>
      obtain ⟨k, z, hk, rfl, rfl, hz⟩ := hrel
      cases k with
      | zero =>
        have HZ : Hid (z = wrap64 v) := hid (by rw [hz.out, List.drop_zero, HV.out])
        have z1 : -9223372036854775808 ≤ z := by rw [HZ.out]; exact wrap_lo v
        have z2 : z ≤ 9223372036854775807 := by rw [HZ.out]; exact wrap_hi v
        have Z1 := hid z1
        have Z2 := hid z2
        clear z1 z2
        cases hf : fits64 v with
        | true =>
          have HE : Hid (z = as64 v) := hid (by rw [HZ.out, as64_in _ hf, wrap_fits hf])
          have HS : Hid ((z - v).sign = 0) := hid (by rw [HZ.out, wrap_fits hf, Int.sub_self]; rfl)
          have HF := hid hf
          clear hf
          go_wp2_with (first
            | (go_at_call 25; refine (smallR z _ Z1.out Z2.out).mono ?_; rintro e w2 ⟨nb, ob, lb, cb, rfl, hlb, bB, hb2⟩; obtain ⟨u0, u1, _, _⟩ := two_cells (heap_keep HP.out hb2); have h2s := hb2.size; have v0 : ∀ o, (w2.alloc o).cell? ⟨w.heap.size, 0, none⟩ = some (.bool n) := (fun o => by rw [World.cell?_alloc_past _ _ _ (by omega)]; exact u0); have v1 : ∀ o, (w2.alloc o).cell? ⟨w.heap.size, 1, none⟩ = some (.slice xo xl xc) := (fun o => by rw [World.cell?_alloc_past _ _ _ (by omega)]; exact u1))
            | (go_at_call 31; refine (cmpR _ _ _ _ z _ _ _ _ v _ (bB.alloc _) ((zB.keep hb2).alloc _) (by omega) (by omega)).mono ?_; rintro e w3 ⟨rfl, hb3⟩; rw [HS.out]))
          go_ret2
          refine ⟨by rw [HE.out, HF.out]; rfl, (hzb.trans (Below.mono hb2 (by omega))).trans (Below.mono (balloc hb3) (by omega))⟩
        | false =>
          have HS : Hid ((z - v).sign ≠ 0) := hid (by rw [HZ.out]; exact fun e => wrap_unfit hf (Int.sign_eq_zero_iff_zero.1 e))
          have hs : ((z - v).sign != 0) = true := by simpa using HS.out
          have HF := hid hf
          have HA := hid (as64_out _ hf)
          clear hf
          go_wp2_with (first
            | (go_at_call 25; refine (smallR z _ Z1.out Z2.out).mono ?_; rintro e w2 ⟨nb, ob, lb, cb, rfl, hlb, bB, hb2⟩; obtain ⟨u0, u1, _, _⟩ := two_cells (heap_keep HP.out hb2); have h2s := hb2.size; have v0 : ∀ o, (w2.alloc o).cell? ⟨w.heap.size, 0, none⟩ = some (.bool n) := (fun o => by rw [World.cell?_alloc_past _ _ _ (by omega)]; exact u0); have v1 : ∀ o, (w2.alloc o).cell? ⟨w.heap.size, 1, none⟩ = some (.slice xo xl xc) := (fun o => by rw [World.cell?_alloc_past _ _ _ (by omega)]; exact u1))
            | (go_at_call 31; refine (cmpR _ _ _ _ z _ _ _ _ v _ (bB.alloc _) ((zB.keep hb2).alloc _) (by omega) (by omega)).mono ?_; rintro e w3 ⟨rfl, hb3⟩))
          go_ret2
          refine ⟨by rw [HA.out, HF.out]; rfl, (hzb.trans (Below.mono hb2 (by omega))).trans (Below.mono (balloc hb3) (by omega))⟩
      | succ m =>
        obtain ⟨b, off, rfl, hc⟩ := zL.cells (by omega)
        have hcm := hc m (by omega)
        clear hc
        have hi : ((m + 1 : Nat) : Int) - 1 = (m : Int) := by omega
        rw [hi]; clear hi
        cases n with
        | true =>
          have HN : Hid (wrap64 (wrap64 (2 * z) - (dg L m : Int)) = wrap64 (sg true (L.drop m))) := hid (by rw [sg_drop_neg]; exact wrap_dbl_sub _ hz.out)
          go_wp2
          go_round
          case rel => exact ⟨m, _, by omega, rfl, rfl, HN⟩
          case measure => simp [intOf]
        | false =>
          have HN : Hid (wrap64 (wrap64 (2 * z) + (dg L m : Int)) = wrap64 (sg false (L.drop m))) := hid (by rw [sg_drop_pos]; exact wrap_dbl_add _ hz.out)
          go_wp2
          go_round
          case rel => exact ⟨m, _, by omega, rfl, rfl, HN⟩
          case measure => simp [intOf]
end Go.Proofs.YtldafoojkimdeaaDoor

namespace Go.Proofs.YtldafoojkimdeaaDoor
open Go.RowKit Lm

set_option maxRecDepth 100000 in
set_option maxHeartbeats 1000000 in
theorem sameR (n : Bool) (aa : Option Addr) (la ca : Nat) (A : List Nat) (ab : Option Addr) (cb : Nat) (w : World) (hA : Rd w aa la ca A) (hB : Rd w ab la cb A) :
    Calls Tryd.prog 19 #[.agg #[.bool n, .slice aa la ca], .agg #[.bool n, .slice ab la cb]] w fun e w' => e = .returned (.bool true) ∧ Below w.heap.size w w' := by
  have hn : (n != n) = false := by simp
  have hm := hA.most
  go_enter Tryd.func19, Tryd.ntmps19
  go_wp2_with fail
  obtain ⟨wz, hz⟩ : ∃ wz, wz = (w.alloc (.cells #[.bool n, .slice aa la ca] 24)).alloc (.cells #[.bool n, .slice ab la cb] 24) := ⟨_, rfl⟩
  obtain ⟨hpx, hpy, hzb, hzl⟩ := new2 hz
  rw [← hz]
  clear hz
  have zA := hA.keep hzb
  have zB := hB.keep hzb
  have HX := hid hpx
  have HY := hid hpy
  clear hpx hpy hA hB
  go_loopw [5] (fun i wr => ∃ k : Nat, k ≤ la ∧ i = .int .i64 (k : Int) ∧ Below wz.heap.size wz wr) (fun i _ => la - (intOf i).toNat)
  case atStart => exact ⟨0, by omega, rfl, Below.refl _ _⟩
  case round =>
    obtain ⟨k, hk, rfl, hb⟩ := hrel
    obtain ⟨x0, x1, _, _⟩ := two_cells (heap_keep HX.out hb)
    obtain ⟨y0, y1, _, _⟩ := two_cells (heap_keep HY.out hb)
    by_cases hgo : k < la
    · obtain ⟨b, off, rfl, hc⟩ := (zA.keep hb).cells (by omega)
      obtain ⟨b', off', rfl, hc'⟩ := (zB.keep hb).cells (by omega)
      have hcm := hc k hgo
      have hcm' := hc' k hgo
      clear hc hc'
      have he : ((dg A k : Int) == (dg A k : Int)) = true := by simp
      go_wp2
      go_quiet (fail)
      go_wp2
      go_roundw
      case rel => exact ⟨k + 1, by omega, by go_num, bdrew hb _⟩
      case measure => simp [intOf]; omega
    · obtain rfl : k = la := by omega
      go_wp2
      go_ret
      exact ⟨rfl, hzb.trans (Below.mono hb (by omega))⟩

/-- The limb that a row of bits makes, one bit more at the low end. -/
theorem limb_lt {B : List Nat} (h : B1 B) (J j : Nat) (hj : j < 32) : 2 * bv ((B.drop (J + 1)).take (31 - j)) + dg B J ≤ 4294967295 := by
  have h1 := chunk_lt h J (32 - j)
  rw [show 32 - j = (31 - j) + 1 by omega, chunk_step] at h1
  have h2 : 2 ^ ((31 - j) + 1) ≤ 2 ^ 32 := Nat.pow_le_pow_right (by decide) (by omega)
  omega
theorem limb_next (B : List Nat) (J j : Nat) (hj : j < 32) : bv ((B.drop J).take (32 - j)) = 2 * bv ((B.drop (J + 1)).take (31 - j)) + dg B J := by
  rw [show 32 - j = (31 - j) + 1 by omega, chunk_step]; omega

set_option maxRecDepth 100000 in
set_option maxHeartbeats 2000000 in
theorem intR (n : Bool) (xo : Option Addr) (xl xc : Nat) (v : Int) (w : World) (h : Big w n xo xl xc v) (sx : xl ≤ 1073741824) :
    Calls Tryd.prog 21 #[.agg #[.bool n, .slice xo xl xc]] w fun e w' => ∃ n' ao len cap M, e = .returned (.agg #[.bool n', .slice ao len cap]) ∧ Rd w' ao len cap M ∧ Top M ∧ num n' M = v ∧ (M = [] → n' = false) ∧ Below w.heap.size w w' := by
  obtain ⟨B, rB, bB, tB, hn, ev⟩ := h
  have HL := hid rB.size
  have HV := hid ev
  have HN := hid hn
  clear ev hn
  obtain ⟨i0, hi, hz0, hz1, hz2⟩ := info_parts Tryd.info43
  go_enter Tryd.func21, Tryd.ntmps21
  go_wp2_with fail
  obtain ⟨wz, hz⟩ : ∃ wz, wz = ((w.alloc (.cells #[.bool n, .slice xo xl xc] 28)).alloc (.cells #[.bool false, .slice none 0 0] 24)).alloc (.cells #[.bool n, .slice none 0 0] 24) := ⟨_, rfl⟩
  obtain ⟨hpx, hpy, hpr, hzb, hzl⟩ := new3 hz
  rw [← hz]
  clear hz
  have HX := hid hpx
  have HY := hid hpy
  have HR := hid hpr
  clear hpx hpy hpr
  go_loopw [4, 5, 6] (fun i _ _ wr => ∃ (k : Nat) (M : List Nat) (u : Value), i = .int .i64 ((32 * k : Nat) : Int) ∧ 32 * k ≤ xl + 31 ∧ Hid (M.length = k) ∧ Ok M ∧ Grow (w.heap.size + 3) wr u M ∧ Hid (val M = bv (B.take (32 * k))) ∧ Hid (wr.heap[w.heap.size + 2]? = some (.cells #[.bool n, u] 24 (0, 0))) ∧ Below (w.heap.size + 2) wz wr)
    (fun i _ _ _ => xl + 32 - (intOf i).toNat)
  case atStart => exact ⟨0, [], _, rfl, by omega, hid rfl, Ok.nil, World.ownsRow_nil _ _ _ _, hid rfl, HR, Below.refl _ _⟩
  case round =>
    obtain ⟨k, M, u, rfl, hk, hM, oM, hG, hv, hpu, hb⟩ := hrel
    have hsz := hb.size
    have hlt3 : w.heap.size + 3 ≤ wr.heap.size := by omega
    obtain ⟨x0, x1, _, _⟩ := two_cells ((hb.block _ (by omega)).trans HX.out)
    obtain ⟨r0, r1, q0, q1⟩ := two_cells hpu.out
    have hbw := hzb.trans (Below.mono hb (show w.heap.size ≤ w.heap.size + 2 by omega))
    have hBr := rB.keep hbw
    by_cases hgo : 32 * k < xl
    · go_wp2_with fail
      go_loop [5, 6] (fun x j => ∃ (m l : Nat), m ≤ 32 ∧ j = .int .i64 ((m : Int) - 1) ∧ x = .int .u32 (l : Int) ∧ l ≤ 4294967295 ∧ Hid (l = bv ((B.drop (32 * k + m)).take (32 - m)))) (fun _ j => (intOf j + 1).toNat)
      case atStart => exact ⟨32, 0, by omega, rfl, rfl, by omega, hid rfl⟩
      case round =>
        obtain ⟨m, l, hm, rfl, rfl, hl, hlv⟩ := hrel
        cases m with
        | zero =>
          have hn1 : ¬ ((0 : Int) ≤ ((0 : Nat) : Int) - 1) := by omega
          have HLV : Hid (l = bv ((B.drop (32 * k)).take 32)) := hid (by simpa using hlv.out)
          go_wp2_with (at_builtin; refine wpList_append_own _ rfl _ _ 22 rfl (w.heap.size + 3) 43 i0 (.int .u32 0) 1 4 Tryd.underlying22 hi hz0 hz1 hz2 rfl (by decide) _ _ _ rfl (hG.alloc _) ⟨wr.heap.size, 0, none⟩ 1 1 [.int .u32 (l : Int)] rfl rfl ?c1 ?c2 ?c3 ?c4 ?c5 ?_)
          try case c1 =>
            intro j u hj
            match j, hj with
            | 0, hj => simp at hj; subst hj; simp [Addr.add]
          case c2 => first | rfl | (intro u hu; simp at hu; subst hu; rfl)
          case c3 => rw [hM.out]; unfold maxLen; omega
          case c4 => rw [hM.out]; omega
          case c5 => first | omega | (simp; omega)
          intro v' w5 hown' hgrow _
          have hb5 := app_below (Below.refl _ _) hlt3 hgrow hG.le
          have hpu5 := (hb5.block _ (by omega)).trans hpu.out
          have hG5 : Grow (w.heap.size + 3) w5 v' (M ++ [l]) := by
            unfold Grow; rw [List.length_append, ← lims_snoc M l rfl]; exact hown'
          obtain ⟨ao5, cap5, rfl, _⟩ := hG5.rd (oM.snoc (by omega)) (by rw [List.length_append, hM.out, List.length_singleton]; omega)
          rw [show (M ++ [l]).length = M.length + 1 by simp] at hG5
          clear hgrow hown' r0 r1 q0 q1
          obtain ⟨t0, t1, e0, e1⟩ := two_cells hpu5
          have HP5 := hid hpu5
          clear hpu5
          go_wp2
          go_roundw
          case rel =>
            refine ⟨k + 1, M ++ [l], .slice ao5 (M.length + 1) cap5, congrArg (Value.int .i64) (by omega), by omega, hid (by simp [hM.out]), oM.snoc (by omega), ?_, hid ?_, hid ?_, ?_⟩
            · exact hG5.set (fun e => by have := hG5.le _ e; simp only at this; omega) _
            · rw [val_snoc, hM.out, hv.out, HLV.out, P_two, show 32 * (k + 1) = 32 * k + 32 by omega, chunk_take]
            · rw [heap_setCell_same w5 _ 1 _ _ _ HP5.out]; simp
            · exact (hb.trans (Below.mono hb5 (by omega))).setCell (by simp) _
          case measure => simp [intOf]; omega
        | succ j =>
          have hi1 : ((j + 1 : Nat) : Int) - 1 = (j : Int) := by omega
          rw [hi1]; clear hi1
          have hnx : l * 2 + dg B (32 * k + j) ≤ 4294967295 := by
            rw [hlv.out, Nat.mul_comm]; have := limb_lt bB (32 * k + j) j (by omega); rw [show 32 - (j + 1) = 31 - j by omega]; exact this
          have HNX : Hid (l * 2 + dg B (32 * k + j) = bv ((B.drop (32 * k + j)).take (32 - j))) := hid (by
            rw [limb_next B _ j (by omega), hlv.out, show 32 - (j + 1) = 31 - j by omega, Nat.mul_comm]; rfl)
          have hbj := bB.dg (32 * k + j)
          by_cases hin : 32 * k + j < xl
          · obtain ⟨b, off, rfl, hc⟩ := hBr.cells (by omega)
            have hcm := hc (32 * k + j) hin
            clear hc
            go_wp2
            go_round
            case rel => exact ⟨j, l * 2 + dg B (32 * k + j), by omega, by go_num, congrArg (Value.int .u32) (by omega), by omega, HNX⟩
            case measure => simp [intOf]
          · have HZ : Hid (dg B (32 * k + j) = 0) := hid (dg_out B _ (by rw [HL.out]; omega))
            go_wp2
            go_round
            case rel => exact ⟨j, l * 2, by omega, by go_num, congrArg (Value.int .u32) (by omega), by omega, hid (by have := HNX.out; rw [HZ.out] at this; simpa using this)⟩
            case measure => simp [intOf]
    · have hvB : Hid (val M = bv B) := hid (by rw [hv.out, bv_take_ge B _ (by rw [HL.out]; omega)])
      obtain ⟨ao, cap, rfl, hR⟩ := hG.rd oM (by rw [hM.out]; omega)
      have tM : Hid (Top M) := hid (top_chunks oM tB hvB.out (by rw [HL.out, hM.out]; omega))
      obtain ⟨s0, s1, p0, p1⟩ := two_cells ((hb.block _ (by omega)).trans HY.out)
      go_wp2
      refine bodyPost_ret (v := .agg #[.bool n, .slice ao M.length cap]) (by simp [results, Tryd.results21, go_sem, s0, s1, r0, r1]) rfl ⟨_, _, _, _, M, rfl, ?_, tM.out, ?_, ?_, ?_⟩
      · exact hR.pair24 ((hb.block _ (by omega)).trans HY.out) (by simp) (by simp) _ _
      · rw [← HV.out]; unfold num sg; rw [hvB.out]
      · intro e
        refine HN.out (btop_zero tB ?_)
        rw [← hvB.out, e]; rfl
      · exact (hbw.setCell (by simp) _).setCell (by simp) _
end Go.Proofs.YtldafoojkimdeaaDoor
