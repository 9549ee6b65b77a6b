/- Walks of the document's answer: twos, back, Bitwise. No condition but those that each theorem names. And, Or, Xor, Not of any two integers, as the law of bits takes them. No condition but those that each theorem names. -/
import Derived.Test.YtldafoojkimdeaaDoorRefdm
import Derived.Test.YtldafoojkimdeaaDoorBitt
import Derived.Deep.AppendLies
import Derived.Test.YtldafoojkimdeaaDoorW46
namespace Go.Proofs.YtldafoojkimdeaaDoor
open Go.RowKit Lm

set_option maxRecDepth 100000 in
set_option maxHeartbeats 2000000 in
theorem twosR_pos (xo : Option Addr) (xl xc : Nat) (v : Int) (n : Nat) (w : World) (hX : Big w false xo xl xc v) (hn : xl < n) (hs : n ≤ 67108865) :
    Calls Tryd.prog 92 #[.agg #[.bool false, .slice xo xl xc], .int .i64 (n : Int)] w fun e w' => ∃ ao cap T, e = .returned (.slice ao n cap) ∧ Ri w' ao n cap T ∧ TC n T v ∧ Below w.heap.size w w' := by
  obtain ⟨i0, hi, hz0, hz1, hz2⟩ := info_parts Tryd.infoI
  obtain ⟨L, rL, bL, tL, _, ev⟩ := hX
  have HV : Hid (v = (bv L : Int)) := hid (by rw [← ev]; rfl)
  clear ev
  have HL := hid rL.size
  have HP0 := hid (heap_alloc_new w (.cells #[.bool false, .slice xo xl xc] 28))
  go_enter Tryd.func92, Tryd.ntmps92
  go_wp2
  go_loopw [8, 9] (fun o i wr => ∃ (k : Nat) (O : List Nat), i = .int .i64 (k : Int) ∧ k ≤ n ∧ Hid (O.length = k) ∧ Gri (w.heap.size + 1) wr o O ∧ Hid (∀ j, j < k → dg O j = dg L j) ∧ Below (w.heap.size + 1) (w.alloc (.cells #[.bool false, .slice xo xl xc] 28)) wr)
    (fun _ i _ => n - (intOf i).toNat)
  case atStart => exact ⟨0, [], rfl, by omega, hid rfl, Gri.nil _ _, hid (fun j h => by omega), Below.refl _ _⟩
  case round =>
    obtain ⟨k, O, rfl, hk, hO, hG, hd, hb⟩ := hrel
    have hsz := hb.size
    simp only [World.size_alloc] at hsz
    have hb' : Below w.heap.size w wr := ((Below.refl _ _).alloc (Nat.le_refl _) _).trans (hb.mono (by simp))
    have hLr := rL.keep hb'
    obtain ⟨x0, x1, _, _⟩ := two_cells ((hb.block w.heap.size (by omega)).trans HP0.out)
    by_cases hgo : k < n
    · go_wp2_with (first
        | (go_at_call 105; refine (bitR xo xl xc L k _ hLr).mono ?_; rintro e w' ⟨rfl, rfl⟩)
        | (at_builtin; refine wpList_append_own _ rfl _ _ 26 rfl (w.heap.size + 1) 3 i0 (.int .i64 0) 1 8 Tryd.underlying26 hi hz0 hz1 hz2 rfl (by decide) _ _ _ rfl (hG.alloc _) ⟨wr.heap.size, 0, none⟩ 1 1 [.int .i64 (dg L k : Int)] rfl rfl ?c1 ?c2 ?c3 ?c4 ?c5 ?_))
      case c1 =>
        intro j u hj
        match j, hj with
        | 0, hj => simp at hj; subst hj; simp [Addr.add]
      case c2 => intro u hu; simp at hu; subst hu; rfl
      case c3 => rw [hO.out]; unfold maxLen; omega
      case c4 => rw [hO.out]; omega
      case c5 => simp; omega
      intro v' w5 hown' hgrow _
      have hb5 := app_below hb (by omega) hgrow hG.le
      clear hgrow
      go_wp2
      go_roundw
      case rel =>
        refine ⟨k + 1, O ++ [dg L k], by go_num, by omega, hid (by simp [hO.out]), Gri.snoc _ hown' rfl, hid (fun j hj => ?_), hb5⟩
        by_cases h : j < k
        · rw [dg_append_left _ _ _ (by rw [hO.out]; exact h)]; exact hd.out j h
        · obtain rfl : j = k := by omega
          rw [dg_append_right _ _ _ (by rw [hO.out]; omega), hO.out, Nat.sub_self]; rfl
      case measure => simp [intOf]; omega
    · obtain rfl : k = n := by omega
      obtain ⟨ao, cap, rfl, hR⟩ := hG.rd (by rw [hO.out]; omega)
      have HT : Hid (TC k O v) := hid (by rw [HV.out]; exact TC.pos hO.out bL (by rw [HL.out]; exact hn) hd.out)
      rw [hO.out] at hR
      have HE := hid hO.out
      go_wp2
      go_ret
      exact ⟨ao, cap, O, (by show Ending.returned (Value.slice ao O.length cap) = _; rw [HE.out]), hR, HT.out, hb'⟩

set_option maxRecDepth 100000 in
set_option maxHeartbeats 2000000 in
theorem twosR_neg (xo : Option Addr) (xl xc : Nat) (v : Int) (n : Nat) (w : World) (hX : Big w true xo xl xc v) (hn : xl < n) (hs : n ≤ 67108865) :
    Calls Tryd.prog 92 #[.agg #[.bool true, .slice xo xl xc], .int .i64 (n : Int)] w fun e w' => ∃ ao cap T, e = .returned (.slice ao n cap) ∧ Ri w' ao n cap T ∧ TC n T v ∧ Below w.heap.size w w' := by
  obtain ⟨i0, hi, hz0, hz1, hz2⟩ := info_parts Tryd.infoI
  have hsg := hX.sign
  have hv0 : v < 0 := by simpa using hsg.symm
  have HLX := hid hX.len
  clear hsg
  go_enter Tryd.func92, Tryd.ntmps92
  go_upto_region 4 with (first
    | (go_at_call 23; refine (minusR _ _ _ _ v _ (hX.alloc _)).mono ?_; rintro e w1 ⟨n1, l1, rfl, hl1, hM, hb1⟩)
    | (go_at_call 25; refine (smallR (-1) _ (by omega) (by omega)).mono ?_; rintro e w2 ⟨n2, o2, l2, k2, rfl, hl2, hS, hb2⟩; have hM2 := hM.keep hb2)
    | (go_at_call 39; refine (sumR _ _ _ _ (-v) _ _ _ _ (-1) _ hM2 hS (by omega) (by omega)).mono ?_; rintro e w3 ⟨ny, yo, yl, yc, rfl, hl3, hY, hb3⟩))
  have hb123 : Below w.heap.size w w3 := (balloc hb1).trans ((hb2.mono (balloc hb1).size).trans (hb3.mono ((balloc hb1).trans (hb2.mono (balloc hb1).size)).size))
  obtain ⟨wz, hz⟩ : ∃ wz, wz = w3.alloc (.cells #[.bool ny, .slice yo yl yc] 28) := ⟨_, rfl⟩
  obtain ⟨hpy, hzb, hzl⟩ := new1 hz
  rw [← hz]
  clear hz
  have HPY := hid hpy
  have hYz := hY.keep hzb
  have hlY := hYz.len
  obtain ⟨L, rL, bL, tL, _, ev⟩ := hYz
  have hny : ny = false := by
    have := hY.sign
    rw [this]; simp; omega
  subst hny
  have HV : Hid (v = -(bv L : Int) - 1) := hid (by
    have : (bv L : Int) = -v + -1 := ev
    omega)
  have HL := hid rL.size
  have HLT : Hid (yl < n) := hid (by
    rw [hlY]
    have h1 := HLX.out
    have h2 := bl_mono (show (-v + -1).natAbs ≤ v.natAbs by omega)
    omega)
  have hb0 := hb123.trans (hzb.mono hb123.size)
  have h3s := hb123.size
  clear ev hlY hY hM hM2 hS hb1 hb2 hb3 hb123 hpy
  go_wp2
  go_loopw [6, 7] (fun o i wr => ∃ (k : Nat) (O : List Nat), i = .int .i64 (k : Int) ∧ k ≤ n ∧ Hid (O.length = k) ∧ Gri wz.heap.size wr o O ∧ Hid (∀ j, j < k → dg O j = 1 - dg L j) ∧ Below wz.heap.size wz wr)
    (fun _ i _ => n - (intOf i).toNat)
  case atStart => exact ⟨0, [], rfl, by omega, hid rfl, Gri.nil _ _, hid (fun j h => by omega), Below.refl _ _⟩
  case round =>
    obtain ⟨k, O, rfl, hk, hO, hG, hd, hb⟩ := hrel
    have hsz := hb.size
    have hLr := rL.keep hb
    have hxb := bL.dg k
    obtain ⟨x0, x1, _, _⟩ := two_cells ((hb.block _ (by omega)).trans HPY.out)
    by_cases hgo : k < n
    · go_wp2_with (first
        | (go_at_call 105; refine (bitR yo yl yc L k _ hLr).mono ?_; rintro e w' ⟨rfl, rfl⟩)
        | (at_builtin; refine wpList_append_own _ rfl _ _ 26 rfl wz.heap.size 3 i0 (.int .i64 0) 1 8 Tryd.underlying26 hi hz0 hz1 hz2 rfl (by decide) _ _ _ rfl (hG.alloc _) ⟨wr.heap.size, 0, none⟩ 1 1 [.int .i64 (1 - (dg L k : Int))] rfl rfl ?c1 ?c2 ?c3 ?c4 ?c5 ?_))
      case c1 =>
        intro j u hj
        match j, hj with
        | 0, hj => simp at hj; subst hj; simp [Addr.add]
      case c2 => intro u hu; simp at hu; subst hu; rfl
      case c3 => rw [hO.out]; unfold maxLen; omega
      case c4 => rw [hO.out]; omega
      case c5 => simp; omega
      intro v' w5 hown' hgrow _
      have hb5 := app_below hb hsz hgrow hG.le
      clear hgrow
      go_wp2
      go_roundw
      case rel =>
        refine ⟨k + 1, O ++ [1 - dg L k], by go_num, by omega, hid (by simp [hO.out]), Gri.snoc _ hown' (by omega), hid (fun j hj => ?_), hb5⟩
        by_cases h : j < k
        · rw [dg_append_left _ _ _ (by rw [hO.out]; exact h)]; exact hd.out j h
        · obtain rfl : j = k := by omega
          rw [dg_append_right _ _ _ (by rw [hO.out]; omega), hO.out, Nat.sub_self]; rfl
      case measure => simp [intOf]; omega
    · obtain rfl : k = n := by omega
      obtain ⟨ao, cap, rfl, hR⟩ := hG.rd (by rw [hO.out]; omega)
      have HT : Hid (TC k O v) := hid (by rw [HV.out]; exact TC.neg hO.out bL (by rw [HL.out]; exact HLT.out) hd.out)
      rw [hO.out] at hR
      have HE := hid hO.out
      have hbe := hb0.trans (hb.mono hb0.size)
      go_wp2
      go_ret
      exact ⟨ao, cap, O, (by show Ending.returned (Value.slice ao O.length cap) = _; rw [HE.out]), hR, HT.out, hbe⟩

theorem twosR (nx : Bool) (xo : Option Addr) (xl xc : Nat) (v : Int) (n : Nat) (w : World) (hX : Big w nx xo xl xc v) (hn : xl < n) (hs : n ≤ 67108865) :
    Calls Tryd.prog 92 #[.agg #[.bool nx, .slice xo xl xc], .int .i64 (n : Int)] w fun e w' => ∃ ao cap T, e = .returned (.slice ao n cap) ∧ Ri w' ao n cap T ∧ TC n T v ∧ Below w.heap.size w w' := by
  cases nx
  · exact twosR_pos xo xl xc v n w hX hn hs
  · exact twosR_neg xo xl xc v n w hX hn hs

set_option maxRecDepth 100000 in
set_option maxHeartbeats 2000000 in
theorem backR (ao : Option Addr) (n cap : Nat) (Z : List Nat) (w : World) (hZ : Ri w ao n cap Z) (bZ : B1 Z) (h0 : 0 < n) (hs : n ≤ 67108865) :
    Calls Tryd.prog 93 #[.slice ao n cap] w fun e w' => ∃ n' o l c, e = .returned (.agg #[.bool n', .slice o l c]) ∧ Big w' n' o l c (backb n Z) ∧ Below w.heap.size w w' := by
  obtain ⟨i0, hi, hz0, hz1, hz2⟩ := info_parts Tryd.infoI
  have HL := hid hZ.size
  obtain ⟨b, off, rfl, hc⟩ := hZ.cells h0
  have hck := cell_keep (hc (n - 1) (by omega)) ((Below.refl w.heap.size w).alloc (Nat.le_refl _) (.cells #[.bool false, .slice none 0 0] 28))
  have s1 : ((n : Int) - 1).toNat = n - 1 := by omega
  have hx := bZ.dg (n - 1)
  have HP0 := hid (heap_alloc_new w (.cells #[.bool false, .slice none 0 0] 28))
  clear hc
  by_cases ht : dg Z (n - 1) = 0
  · have ht1 : ((dg Z (n - 1) : Int) == 0) = true := by simp; exact ht
    have HB : Hid (backb n Z = sg false Z) := hid (by unfold backb sg; rw [if_pos ht]; simp)
    clear ht
    go_enter Tryd.func93, Tryd.ntmps93
    go_wp2_with (go_at_call 68; refine (laidR false _ _ _ Z _ (hZ.alloc _) bZ).mono ?_; rintro e w3 ⟨n', len', rfl, hle, hbig, hb3⟩; have k0 := heap_keep HP0.out hb3; obtain ⟨c0, c1, f0, f1⟩ := two_cells k0)
    have hs3 := hb3.size
    simp only [World.size_alloc] at hs3
    refine bodyPost_ret (v := .agg #[.bool n', .slice (some ⟨b, off, none⟩) len' cap]) (by simp [results, Tryd.results93, go_sem, c0, c1]) rfl ⟨_, _, _, _, rfl, ?_, ?_⟩
    · exact (hbig.other k0 (by simp) (by simp) _ _).cast HB.out.symm
    · exact ((balloc hb3).setCell (by simp) _).setCell (by simp) _
  · have ht1 : ((dg Z (n - 1) : Int) == 0) = false := by simp; exact ht
    have HB : Hid (backb n Z = (bv Z : Int) - ((2 ^ n : Nat) : Int)) := hid (by unfold backb; rw [if_neg ht])
    clear ht
    go_enter Tryd.func93, Tryd.ntmps93
    go_wp2
    go_loopw [3, 4] (fun o i wr => ∃ (k : Nat) (O : List Nat), i = .int .i64 (k : Int) ∧ k ≤ n ∧ Hid (O.length = k) ∧ Gri (w.heap.size + 1) wr o O ∧ Hid (∀ j, j < k → dg O j = 1 - dg Z j) ∧ Below (w.heap.size + 1) (w.alloc (.cells #[.bool false, .slice none 0 0] 28)) wr)
      (fun _ i _ => n - (intOf i).toNat)
    case atStart => exact ⟨0, [], rfl, by omega, hid rfl, Gri.nil _ _, hid (fun j h => by omega), Below.refl _ _⟩
    case round =>
      obtain ⟨k, O, rfl, hk, hO, hG, hd, hb⟩ := hrel
      have hsz := hb.size
      simp only [World.size_alloc] at hsz
      have hb' : Below w.heap.size w wr := ((Below.refl _ _).alloc (Nat.le_refl _) _).trans (hb.mono (by simp))
      have hxb := bZ.dg k
      by_cases hgo : k < n
      · obtain ⟨b', off', e1, hc⟩ := (hZ.keep hb').cells h0
        cases e1
        have hck' := hc k hgo
        clear hc
        go_wp2_with (at_builtin; refine wpList_append_own _ rfl _ _ 26 rfl (w.heap.size + 1) 3 i0 (.int .i64 0) 1 8 Tryd.underlying26 hi hz0 hz1 hz2 rfl (by decide) _ _ _ rfl (hG.alloc _) ⟨wr.heap.size, 0, none⟩ 1 1 [.int .i64 (1 - (dg Z k : Int))] rfl rfl ?c1 ?c2 ?c3 ?c4 ?c5 ?_)
        case c1 =>
          intro j u hj
          match j, hj with
          | 0, hj => simp at hj; subst hj; simp [Addr.add]
        case c2 => intro u hu; simp at hu; subst hu; rfl
        case c3 => rw [hO.out]; unfold maxLen; omega
        case c4 => rw [hO.out]; omega
        case c5 => simp; omega
        intro v' w5 hown' hgrow _
        have hb5 := app_below hb (by omega) hgrow hG.le
        clear hgrow
        go_wp2
        go_roundw
        case rel =>
          refine ⟨k + 1, O ++ [1 - dg Z k], by go_num, by omega, hid (by simp [hO.out]), Gri.snoc _ hown' (by omega), hid (fun j hj => ?_), hb5⟩
          by_cases h : j < k
          · rw [dg_append_left _ _ _ (by rw [hO.out]; exact h)]; exact hd.out j h
          · obtain rfl : j = k := by omega
            rw [dg_append_right _ _ _ (by rw [hO.out]; omega), hO.out, Nat.sub_self]; rfl
        case measure => simp [intOf]; omega
      · obtain rfl : k = n := by omega
        obtain ⟨ao, cp, rfl, hR⟩ := hG.rd (by rw [hO.out]; omega)
        have bO : B1 O := B1_of_dg fun j hj => by rw [hd.out j (by rw [hO.out] at hj; exact hj)]; omega
        have HF : Hid (bv O + bv Z + 1 = 2 ^ k) := hid (by
          have := bv_flip k O Z hO.out bZ hd.out
          rwa [bv_take_ge Z k (by rw [HL.out]; omega)] at this)
        have hol : O.length ≤ 67108865 := by rw [hO.out]; exact hs
        have p0 := hid ((hb.block w.heap.size (by omega)).trans HP0.out)
        go_wp2_with (first
          | (go_at_call 68; refine (laidR false _ _ _ O _ hR bO).mono ?_; rintro e w1 ⟨n1, l1, rfl, hle1, hbig1, hb1⟩; have p1 := hid (heap_keep p0.out hb1))
          | (go_at_call 25; refine (smallR 1 _ (by omega) (by omega)).mono ?_; rintro e w2 ⟨n2, o2, l2, k2, rfl, hl2, hS, hb2⟩; have hbig2 := hbig1.keep hb2; have p2 := hid (heap_keep p1.out hb2))
          | (go_at_call 39; refine (sumR _ _ _ _ (sg false O) _ _ _ _ 1 _ hbig2 hS (by omega) (by omega)).mono ?_; rintro e w3 ⟨n3, o3, l3, k3, rfl, hl3, hS3, hb3⟩; have p3 := hid (heap_keep p2.out hb3))
          | (go_at_call 23; refine (minusR _ _ _ _ (sg false O + 1) _ hS3).mono ?_; rintro e w4 ⟨n4, l4, rfl, hl4, hS4, hb4⟩; have p4 := heap_keep p3.out hb4; obtain ⟨c0, c1, f0, f1⟩ := two_cells p4))
        have s1' := hb1.size
        have s2' := hb2.size
        have s3' := hb3.size
        have s4' := hb4.size
        have hball := (((hb'.trans (hb1.mono (by omega))).trans (hb2.mono (by omega))).trans (hb3.mono (by omega))).trans (hb4.mono (by omega))
        refine bodyPost_ret (v := .agg #[.bool n4, .slice o3 l4 k3]) (by simp [results, Tryd.results93, go_sem, c0, c1]) rfl ⟨_, _, _, _, rfl, ?_, ?_⟩
        · refine (hS4.other p4 (by simp) (by simp) _ _).cast ?_
          have h1 := HF.out
          have h2 := HB.out
          rw [h2, show sg false O = (bv O : Int) from rfl]
          omega
        · exact (hball.setCell (by simp) _).setCell (by simp) _

set_option maxRecDepth 100000 in
set_option maxHeartbeats 2000000 in
theorem bitwiseR (nx : Bool) (xo : Option Addr) (xl xc : Nat) (vx : Int) (ny : Bool) (yo : Option Addr) (yl yc : Nat) (vy : Int) (f : Nat → Nat → Nat) (hf : Even f) (t0 t1 t2 t3 : Nat) (ht : Tabled f [t0, t1, t2, t3]) (htb : B1 [t0, t1, t2, t3]) (w : World) (hX : Big w nx xo xl xc vx) (hY : Big w ny yo yl yc vy) (sx : xl ≤ 33554432) (sy : yl ≤ 33554432) :
    Calls Tryd.prog 50 #[.agg #[.bool nx, .slice xo xl xc], .agg #[.bool ny, .slice yo yl yc], .agg #[.int .i64 (t0 : Int), .int .i64 (t1 : Int), .int .i64 (t2 : Int), .int .i64 (t3 : Int)]] w fun e w' => ∃ n' o l c v', e = .returned (.agg #[.bool n', .slice o l c]) ∧ Big w' n' o l c v' ∧ Hid (xl ≤ 10000 → yl ≤ 10000 → v' = bop f vx vy) ∧ Below w.heap.size w w' := by
  obtain ⟨i0, hi, hz0, hz1, hz2⟩ := info_parts Tryd.infoI
  go_enter Tryd.func50, Tryd.ntmps50
  go_upto_region 1 with fail
  obtain ⟨wz, hz⟩ : ∃ wz, wz = (((w.alloc (.cells #[.bool nx, .slice xo xl xc] 28)).alloc (.cells #[.bool ny, .slice yo yl yc] 28)).alloc (.cells #[.int .i64 (t0 : Int), .int .i64 (t1 : Int), .int .i64 (t2 : Int), .int .i64 (t3 : Int)] 57)).alloc (.cells #[.bool false, .slice none 0 0] 28) := ⟨_, rfl⟩
  obtain ⟨p0, p1, p2, p3, hzb, hzl⟩ := new4 hz
  rw [← hz]
  clear hz
  have P0 := hid p0
  have P1 := hid p1
  have P2 := hid p2
  have P3 := hid p3
  have hXz := hX.keep hzb
  have hYz := hY.keep hzb
  obtain ⟨x0, x1, _, _⟩ := two_cells p0
  obtain ⟨y0, y1, _, _⟩ := two_cells p1
  clear p0 p1 p2 p3 hX hY
  go_upto_region 2 with fail
  obtain ⟨n, hn⟩ : ∃ n : Nat, n = max xl yl + 1 := ⟨_, rfl⟩
  have hmax : max (xl : Int) (yl : Int) + 1 = (n : Int) := by omega
  rw [hmax]
  have hnx : xl < n := by omega
  have hny : yl < n := by omega
  have hns : n ≤ 33554433 := by omega
  have HN := hid hn
  clear hn hmax
  go_upto_region 4 with (first
    | (go_at_call 92; (with_reducible refine (twosR nx xo xl xc vx n _ hXz hnx (by omega)).mono ?_); rintro e w1 ⟨ao, ca, TA, rfl, rA, tA, hb1⟩; have hY1 := hYz.keep hb1; obtain ⟨y0, y1, _, _⟩ := two_cells (heap_keep P1.out hb1))
    | (go_at_call 92; (with_reducible refine (twosR ny yo yl yc vy n _ hY1 hny (by omega)).mono ?_); rintro e w2 ⟨bo, cb, TB, rfl, rB, tB, hb2⟩))
  have rA2 := rA.keep hb2
  have hb02 := (hzb.trans (hb1.mono hzb.size)).trans (hb2.mono (hzb.trans (hb1.mono hzb.size)).size)
  have Q2 := hid (heap_keep (heap_keep P2.out hb1) hb2)
  have Q3 := hid (heap_keep (heap_keep P3.out hb1) hb2)
  have hs2 : w.heap.size + 4 ≤ w2.heap.size := by have := hb1.size; have := hb2.size; omega
  have TA' := hid tA
  have TB' := hid tB
  have bA := tA.bits
  have bB := tB.bits
  clear hXz hYz hY1 rA hb1 hb2 P0 P1 P2 P3 tA tB x0 x1 y0 y1 hzb hzl
  go_wp2
  go_loopw [10, 11] (fun o i wr => ∃ (k : Nat) (O : List Nat), i = .int .i64 (k : Int) ∧ k ≤ n ∧ Hid (O.length = k) ∧ Gri w2.heap.size wr o O ∧ Hid (∀ j, j < k → dg O j = dg [t0, t1, t2, t3] (2 * dg TA j + dg TB j)) ∧ Below w2.heap.size w2 wr)
    (fun _ i _ => n - (intOf i).toNat)
  case atStart => exact ⟨0, [], rfl, by omega, hid rfl, Gri.nil _ _, hid (fun j h => by omega), Below.refl _ _⟩
  case round =>
    obtain ⟨k, O, rfl, hk, hO, hG, hd, hb⟩ := hrel
    have hsz := hb.size
    by_cases hgo : k < n
    · obtain ⟨b, off, rfl, hc⟩ := rA2.cells (by omega)
      obtain ⟨b', off', rfl, hc'⟩ := rB.cells (by omega)
      have hca2 := hid (hc k hgo)
      have hcb2 := hid (hc' k hgo)
      have hca := cell_keep hca2.out hb
      have hcb := cell_keep hcb2.out hb
      have hxa := bA.dg k
      have hxb := bB.dg k
      have hq2 := Q2.out
      have hct2 : Hid (w2.cell? ⟨w.heap.size + 1 + 1, 2 * dg TA k + dg TB k, none⟩ = some (.int .i64 (dg [t0, t1, t2, t3] (2 * dg TA k + dg TB k) : Int))) := hid (by
        simp only [World.cell?, show w.heap.size + 1 + 1 = w.heap.size + 2 from rfl, hq2]
        rcases (show dg TA k = 0 ∨ dg TA k = 1 by omega) with e | e <;> rcases (show dg TB k = 0 ∨ dg TB k = 1 by omega) with e' | e' <;> rw [e, e'] <;> rfl)
      have hct := cell_keep hct2.out hb
      have htbl := htb.dg (2 * dg TA k + dg TB k)
      have s1 : IntKind.i64.wrap (2 * (dg TA k : Int)) = 2 * (dg TA k : Int) := IntWalk.i64_in _ (by omega)
      have s2 : IntKind.i64.wrap (2 * (dg TA k : Int) + (dg TB k : Int)) = 2 * (dg TA k : Int) + (dg TB k : Int) := IntWalk.i64_in _ (by omega)
      have s3 : (2 * (dg TA k : Int) + (dg TB k : Int)).toNat = 2 * dg TA k + dg TB k := by omega
      have s4 : 0 ≤ 2 * (dg TA k : Int) + (dg TB k : Int) := by omega
      have s5 : 2 * (dg TA k : Int) + (dg TB k : Int) < 4 := by omega
      clear hc hc' hq2
      have HO := hid (show O.length + 1 ≤ maxLen by rw [hO.out]; unfold maxLen; omega)
      have HO2 := hid (show (O.length + 1) * 8 ≤ 140737488355328 by rw [hO.out]; omega)
      go_wp2_with fail
      go_region_held3 (fun w' => w'.cell? ⟨b, off + k, none⟩ = some (.int .i64 (dg TA k : Int)) ∧ w'.cell? ⟨b', off' + k, none⟩ = some (.int .i64 (dg TB k : Int)) ∧ w'.cell? ⟨w.heap.size + 1 + 1, 2 * dg TA k + dg TB k, none⟩ = some (.int .i64 (dg [t0, t1, t2, t3] (2 * dg TA k + dg TB k) : Int)))
        (first
          | go_keep
          | (with_reducible exact ⟨hca, hcb, hct⟩)
          | (with_reducible exact ⟨hca5, hcb5, hct5⟩))
        ((refine step_append_lies _ (by rfl) _ _ _ (by rfl) w2.heap.size 3 i0 _ 1 8 Tryd.underlying26 hi hz0 hz1 hz2 rfl (by omega) _ O.length (ints O) (by rfl) ((hG.alloc _).keep (Below.refl _ _).drew) ⟨wr.heap.size, 0, none⟩ 1 1 [.int .i64 (dg [t0, t1, t2, t3] (2 * dg TA k + dg TB k) : Int)] (by rfl) (by rfl) (World.news_of_block (cs := #[.int .i64 (dg [t0, t1, t2, t3] (2 * dg TA k + dg TB k) : Int)]) (t := 3) (fr := (0, 0)) (heap_alloc_new wr _)) (by simp [Value.oneCell']) (by omega) HO.out HO2.out (by simp; omega) (wr.heap.size + 1) (by simp) ?_; intro gg cap w5 hown' hgrow hat hlt; have hb5 : Below w2.heap.size w2 w5 := ((hb.alloc hsz _).drew).grown hgrow (by simp; omega) hG.le; have hca5 := cell_keep hca2.out hb5; have hcb5 := cell_keep hcb2.out hb5; have hct5 := cell_keep hct2.out hb5))
      all_goals
        clear hgrow hat hca5 hcb5 hct5 hca hcb hct s1 s2 s3 s4 s5
        go_wp2
        go_roundw
        case rel =>
          refine ⟨k + 1, O ++ [dg [t0, t1, t2, t3] (2 * dg TA k + dg TB k)], by go_num, by omega, hid (by simp [hO.out]), Gri.snoc _ hown' rfl, hid (fun j hj => ?_), hb5⟩
          by_cases h : j < k
          · rw [dg_append_left _ _ _ (by rw [hO.out]; exact h)]; exact hd.out j h
          · obtain rfl : j = k := by omega
            rw [dg_append_right _ _ _ (by rw [hO.out]; omega), hO.out, Nat.sub_self]; rfl
        case measure => simp [intOf]; omega
    · obtain rfl : k = n := by omega
      obtain ⟨co, cc, rfl, hR⟩ := hG.rd (by rw [hO.out]; omega)
      have bO : B1 O := B1_of_dg fun j hj => by rw [hd.out j (by rw [hO.out] at hj; exact hj)]; exact htb.dg _
      have HF : Hid (xl ≤ 10000 → yl ≤ 10000 → backb O.length O = bop f vx vy) := hid (fun h1 h2 => by
        rw [hO.out]
        exact (bop_bits hf ht htb (n := k) (by omega) (by have := HN.out; omega) TA'.out TB'.out hO.out hd.out).2)
      have hol : O.length ≤ 67108865 := by rw [hO.out]; omega
      have hop : 0 < O.length := by rw [hO.out]; omega
      have q3 := hid ((hb.block _ (by omega)).trans Q3.out)
      have hbr := hb02.trans (hb.mono hb02.size)
      clear hG
      go_wp2_with (go_at_call 93; refine (backR _ _ _ O _ hR bO hop hol).mono ?_; rintro e w4 ⟨n4, o4, l4, c4, rfl, hbig, hb4⟩; have p4 := heap_keep q3.out hb4; obtain ⟨z0, z1, f0, f1⟩ := two_cells p4)
      have hball := hbr.trans (hb4.mono hbr.size)
      refine bodyPost_ret (v := .agg #[.bool n4, .slice o4 l4 c4]) (by simp [results, Tryd.results50, go_sem, z0, z1]) rfl ⟨_, _, _, _, backb O.length O, rfl, ?_, HF, ?_⟩
      · exact hbig.other p4 (by simp) (by simp) _ _
      · exact (hball.setCell (by simp; omega) _).setCell (by simp; omega) _
end Go.Proofs.YtldafoojkimdeaaDoor

namespace Go.Proofs.YtldafoojkimdeaaDoor
open Go.RowKit Lm

theorem not_same (a b c : Int) : bop lnotf a b = bop lnotf a c := by
  unfold bop
  rw [zipw_ext (f := lnotf) (g := lnotf) (X := tcl 400 a) (Y := tcl 400 b) (X' := tcl 400 a) (Y' := tcl 400 c) (fun _ _ => rfl)]

set_option maxRecDepth 100000 in
set_option maxHeartbeats 2000000 in
theorem and_bad (na : Bool) (aa : Option Addr) (la ca : Nat) (A : List Nat) (nb : Bool) (ab : Option Addr) (lb cb : Nat) (B : List Nat) (w : World) (hA : Rd w aa la ca A) (hB : Rd w ab lb cb B) (hbad : (tooLong A || tooLong B) = true) :
    Calls Tryd.prog 46 #[.agg #[.bool na, .slice aa la ca], .agg #[.bool nb, .slice ab lb cb]] w fun e w' => e = .returned (.tuple #[.agg #[.bool false, .slice none 0 0], .int .i64 10]) ∧ Below w.heap.size w w' := by
  go_enter Tryd.func46, Tryd.ntmps46
  go_wp2_with (go_at_call 87; refine (bitwise_bad _ na aa la ca A nb ab lb cb B _ (((hA.alloc _).alloc _).alloc _) (((hB.alloc _).alloc _).alloc _) hbad).mono ?_; rintro e w1 ⟨rfl, hb1⟩; obtain ⟨_, _, p3, hbw⟩ := hp3 _ _ _ _ hb1; obtain ⟨c0, c1, f0, f1⟩ := two_cells p3)
  refine bodyPost_ret (v := .tuple #[.agg #[.bool false, .slice none 0 0], .int .i64 10]) (by simp [results, Tryd.results46, go_sem, c0, c1]) rfl ⟨rfl, ?_⟩
  exact (hbw.setCell (by simp; omega) _).setCell (by simp; omega) _
theorem andE {B0 : Nat} {na : Bool} {aa : Option Addr} {la ca : Nat} {A : List Nat} {nb : Bool} {ab : Option Addr} {lb cb : Nat} {B : List Nat} {va vb e : Int} {w : World} (hA : Rd w aa la ca A) (hB : Rd w ab lb cb B) (ea : num na A = va) (eb : num nb B = vb) (he : e = if tooLong A || tooLong B then 10 else 0) (h0 : B0 ≤ w.heap.size) :
    Calls Tryd.prog 46 #[.agg #[.bool na, .slice aa la ca], .agg #[.bool nb, .slice ab lb cb]] w fun r w' => ∃ n ao len c, r = .returned (.tuple #[.agg #[.bool n, .slice ao len len], .int .i64 c]) ∧ AnsO B0 w w' n ao len c e (bop landf va vb) ∧ Below w.heap.size w w' := by
  cases hbad : (tooLong A || tooLong B) with
  | true =>
    refine (and_bad na aa la ca A nb ab lb cb B w hA hB hbad).mono ?_
    rintro r w' ⟨rfl, hb⟩
    exact ⟨_, _, _, _, rfl, AnsO.of_ans (.inl ⟨rfl, rfl, rfl, rfl, rfl⟩) (by rw [he, hbad]) h0, hb⟩
  | false =>
    refine (and_good na aa la ca A nb ab lb cb B w hA hB hbad).mono ?_
    rintro r w' ⟨n, ao, len, c, rfl, hf, hb⟩
    rw [ea, eb] at hf
    exact ⟨_, _, _, _, rfl, AnsO.of_ans (.inr ⟨rfl, hf⟩) (by rw [he, hbad]) h0, hb⟩

set_option maxRecDepth 100000 in
set_option maxHeartbeats 2000000 in
theorem or_bad (na : Bool) (aa : Option Addr) (la ca : Nat) (A : List Nat) (nb : Bool) (ab : Option Addr) (lb cb : Nat) (B : List Nat) (w : World) (hA : Rd w aa la ca A) (hB : Rd w ab lb cb B) (hbad : (tooLong A || tooLong B) = true) :
    Calls Tryd.prog 47 #[.agg #[.bool na, .slice aa la ca], .agg #[.bool nb, .slice ab lb cb]] w fun e w' => e = .returned (.tuple #[.agg #[.bool false, .slice none 0 0], .int .i64 10]) ∧ Below w.heap.size w w' := by
  go_enter Tryd.func47, Tryd.ntmps47
  go_wp2_with (go_at_call 87; refine (bitwise_bad _ na aa la ca A nb ab lb cb B _ (((hA.alloc _).alloc _).alloc _) (((hB.alloc _).alloc _).alloc _) hbad).mono ?_; rintro e w1 ⟨rfl, hb1⟩; obtain ⟨_, _, p3, hbw⟩ := hp3 _ _ _ _ hb1; obtain ⟨c0, c1, f0, f1⟩ := two_cells p3)
  refine bodyPost_ret (v := .tuple #[.agg #[.bool false, .slice none 0 0], .int .i64 10]) (by simp [results, Tryd.results47, go_sem, c0, c1]) rfl ⟨rfl, ?_⟩
  exact (hbw.setCell (by simp; omega) _).setCell (by simp; omega) _
theorem orE {B0 : Nat} {na : Bool} {aa : Option Addr} {la ca : Nat} {A : List Nat} {nb : Bool} {ab : Option Addr} {lb cb : Nat} {B : List Nat} {va vb e : Int} {w : World} (hA : Rd w aa la ca A) (hB : Rd w ab lb cb B) (ea : num na A = va) (eb : num nb B = vb) (he : e = if tooLong A || tooLong B then 10 else 0) (h0 : B0 ≤ w.heap.size) :
    Calls Tryd.prog 47 #[.agg #[.bool na, .slice aa la ca], .agg #[.bool nb, .slice ab lb cb]] w fun r w' => ∃ n ao len c, r = .returned (.tuple #[.agg #[.bool n, .slice ao len len], .int .i64 c]) ∧ AnsO B0 w w' n ao len c e (bop lorf va vb) ∧ Below w.heap.size w w' := by
  cases hbad : (tooLong A || tooLong B) with
  | true =>
    refine (or_bad na aa la ca A nb ab lb cb B w hA hB hbad).mono ?_
    rintro r w' ⟨rfl, hb⟩
    exact ⟨_, _, _, _, rfl, AnsO.of_ans (.inl ⟨rfl, rfl, rfl, rfl, rfl⟩) (by rw [he, hbad]) h0, hb⟩
  | false =>
    refine (or_good na aa la ca A nb ab lb cb B w hA hB hbad).mono ?_
    rintro r w' ⟨n, ao, len, c, rfl, hf, hb⟩
    rw [ea, eb] at hf
    exact ⟨_, _, _, _, rfl, AnsO.of_ans (.inr ⟨rfl, hf⟩) (by rw [he, hbad]) h0, hb⟩

set_option maxRecDepth 100000 in
set_option maxHeartbeats 2000000 in
theorem xor_bad (na : Bool) (aa : Option Addr) (la ca : Nat) (A : List Nat) (nb : Bool) (ab : Option Addr) (lb cb : Nat) (B : List Nat) (w : World) (hA : Rd w aa la ca A) (hB : Rd w ab lb cb B) (hbad : (tooLong A || tooLong B) = true) :
    Calls Tryd.prog 48 #[.agg #[.bool na, .slice aa la ca], .agg #[.bool nb, .slice ab lb cb]] w fun e w' => e = .returned (.tuple #[.agg #[.bool false, .slice none 0 0], .int .i64 10]) ∧ Below w.heap.size w w' := by
  go_enter Tryd.func48, Tryd.ntmps48
  go_wp2_with (go_at_call 87; refine (bitwise_bad _ na aa la ca A nb ab lb cb B _ (((hA.alloc _).alloc _).alloc _) (((hB.alloc _).alloc _).alloc _) hbad).mono ?_; rintro e w1 ⟨rfl, hb1⟩; obtain ⟨_, _, p3, hbw⟩ := hp3 _ _ _ _ hb1; obtain ⟨c0, c1, f0, f1⟩ := two_cells p3)
  refine bodyPost_ret (v := .tuple #[.agg #[.bool false, .slice none 0 0], .int .i64 10]) (by simp [results, Tryd.results48, go_sem, c0, c1]) rfl ⟨rfl, ?_⟩
  exact (hbw.setCell (by simp; omega) _).setCell (by simp; omega) _
theorem xorE {B0 : Nat} {na : Bool} {aa : Option Addr} {la ca : Nat} {A : List Nat} {nb : Bool} {ab : Option Addr} {lb cb : Nat} {B : List Nat} {va vb e : Int} {w : World} (hA : Rd w aa la ca A) (hB : Rd w ab lb cb B) (ea : num na A = va) (eb : num nb B = vb) (he : e = if tooLong A || tooLong B then 10 else 0) (h0 : B0 ≤ w.heap.size) :
    Calls Tryd.prog 48 #[.agg #[.bool na, .slice aa la ca], .agg #[.bool nb, .slice ab lb cb]] w fun r w' => ∃ n ao len c, r = .returned (.tuple #[.agg #[.bool n, .slice ao len len], .int .i64 c]) ∧ AnsO B0 w w' n ao len c e (bop lxorf va vb) ∧ Below w.heap.size w w' := by
  cases hbad : (tooLong A || tooLong B) with
  | true =>
    refine (xor_bad na aa la ca A nb ab lb cb B w hA hB hbad).mono ?_
    rintro r w' ⟨rfl, hb⟩
    exact ⟨_, _, _, _, rfl, AnsO.of_ans (.inl ⟨rfl, rfl, rfl, rfl, rfl⟩) (by rw [he, hbad]) h0, hb⟩
  | false =>
    refine (xor_good na aa la ca A nb ab lb cb B w hA hB hbad).mono ?_
    rintro r w' ⟨n, ao, len, c, rfl, hf, hb⟩
    rw [ea, eb] at hf
    exact ⟨_, _, _, _, rfl, AnsO.of_ans (.inr ⟨rfl, hf⟩) (by rw [he, hbad]) h0, hb⟩

set_option maxRecDepth 100000 in
set_option maxHeartbeats 2000000 in
theorem not_bad (na : Bool) (aa : Option Addr) (la ca : Nat) (A : List Nat) (w : World) (hA : Rd w aa la ca A) (hbad : tooLong A = true) :
    Calls Tryd.prog 49 #[.agg #[.bool na, .slice aa la ca]] w fun e w' => e = .returned (.tuple #[.agg #[.bool false, .slice none 0 0], .int .i64 10]) ∧ Below w.heap.size w w' := by
  have hbad2 : (tooLong A || tooLong []) = true := by rw [hbad]; rfl
  go_enter Tryd.func49, Tryd.ntmps49
  go_wp2_with (go_at_call 87; refine (bitwise_bad _ na aa la ca A false none 0 0 [] _ ((hA.alloc _).alloc _) (rd_nothing _) hbad2).mono ?_; rintro e w1 ⟨rfl, hb1⟩; have p3 := (show w1.heap[w.heap.size + 1]? = some (.cells #[.bool false, .slice none 0 0] 24 (0, 0)) by simpa using blk_keep hb1); have hbw := balloc2 hb1; obtain ⟨c0, c1, f0, f1⟩ := two_cells p3)
  refine bodyPost_ret (v := .tuple #[.agg #[.bool false, .slice none 0 0], .int .i64 10]) (by simp [results, Tryd.results49, go_sem, c0, c1]) rfl ⟨rfl, ?_⟩
  exact (hbw.setCell (by simp) _).setCell (by simp) _
theorem notE {B0 : Nat} {na : Bool} {aa : Option Addr} {la ca : Nat} {A : List Nat} {va e : Int} {w : World} (hA : Rd w aa la ca A) (ea : num na A = va) (he : e = if tooLong A || tooLong A then 10 else 0) (h0 : B0 ≤ w.heap.size) :
    Calls Tryd.prog 49 #[.agg #[.bool na, .slice aa la ca]] w fun r w' => ∃ n ao len c, r = .returned (.tuple #[.agg #[.bool n, .slice ao len len], .int .i64 c]) ∧ AnsO B0 w w' n ao len c e (bop lnotf va va) ∧ Below w.heap.size w w' := by
  cases hbad : tooLong A with
  | true =>
    refine (not_bad na aa la ca A w hA hbad).mono ?_
    rintro r w' ⟨rfl, hb⟩
    exact ⟨_, _, _, _, rfl, AnsO.of_ans (.inl ⟨rfl, rfl, rfl, rfl, rfl⟩) (by rw [he, hbad]; rfl) h0, hb⟩
  | false =>
    refine (not_good na aa la ca A w hA hbad).mono ?_
    rintro r w' ⟨n, ao, len, c, rfl, hf, hb⟩
    rw [ea, not_same va 0 va] at hf
    exact ⟨_, _, _, _, rfl, AnsO.of_ans (.inr ⟨rfl, hf⟩) (by rw [he, hbad]; rfl) h0, hb⟩
theorem tab4 : B1 [0, 0, 0, 1] ∧ B1 [0, 1, 1, 1] ∧ B1 [0, 1, 1, 0] ∧ B1 [1, 1, 0, 0] := by
  refine ⟨?_, ?_, ?_, ?_⟩ <;> (intro x hx; simp at hx; omega)
theorem bw_and (nx : Bool) (xo : Option Addr) (xl xc : Nat) (vx : Int) (ny : Bool) (yo : Option Addr) (yl yc : Nat) (vy : Int) (w : World) (hX : Big w nx xo xl xc vx) (hY : Big w ny yo yl yc vy) (sx : xl ≤ 33554432) (sy : yl ≤ 33554432) :
    Calls Tryd.prog 50 #[.agg #[.bool nx, .slice xo xl xc], .agg #[.bool ny, .slice yo yl yc], .agg #[.int .i64 0, .int .i64 0, .int .i64 0, .int .i64 1]] w fun e w' => ∃ n' o l c v', e = .returned (.agg #[.bool n', .slice o l c]) ∧ Big w' n' o l c v' ∧ Hid (xl ≤ 10000 → yl ≤ 10000 → v' = bop landf vx vy) ∧ Below w.heap.size w w' :=
  bitwiseR nx xo xl xc vx ny yo yl yc vy landf landf_even 0 0 0 1 landf_tab tab4.1 w hX hY sx sy
theorem bw_or (nx : Bool) (xo : Option Addr) (xl xc : Nat) (vx : Int) (ny : Bool) (yo : Option Addr) (yl yc : Nat) (vy : Int) (w : World) (hX : Big w nx xo xl xc vx) (hY : Big w ny yo yl yc vy) (sx : xl ≤ 33554432) (sy : yl ≤ 33554432) :
    Calls Tryd.prog 50 #[.agg #[.bool nx, .slice xo xl xc], .agg #[.bool ny, .slice yo yl yc], .agg #[.int .i64 0, .int .i64 1, .int .i64 1, .int .i64 1]] w fun e w' => ∃ n' o l c v', e = .returned (.agg #[.bool n', .slice o l c]) ∧ Big w' n' o l c v' ∧ Hid (xl ≤ 10000 → yl ≤ 10000 → v' = bop lorf vx vy) ∧ Below w.heap.size w w' :=
  bitwiseR nx xo xl xc vx ny yo yl yc vy lorf lorf_even 0 1 1 1 lorf_tab tab4.2.1 w hX hY sx sy
theorem bw_xor (nx : Bool) (xo : Option Addr) (xl xc : Nat) (vx : Int) (ny : Bool) (yo : Option Addr) (yl yc : Nat) (vy : Int) (w : World) (hX : Big w nx xo xl xc vx) (hY : Big w ny yo yl yc vy) (sx : xl ≤ 33554432) (sy : yl ≤ 33554432) :
    Calls Tryd.prog 50 #[.agg #[.bool nx, .slice xo xl xc], .agg #[.bool ny, .slice yo yl yc], .agg #[.int .i64 0, .int .i64 1, .int .i64 1, .int .i64 0]] w fun e w' => ∃ n' o l c v', e = .returned (.agg #[.bool n', .slice o l c]) ∧ Big w' n' o l c v' ∧ Hid (xl ≤ 10000 → yl ≤ 10000 → v' = bop lxorf vx vy) ∧ Below w.heap.size w w' :=
  bitwiseR nx xo xl xc vx ny yo yl yc vy lxorf lxorf_even 0 1 1 0 lxorf_tab tab4.2.2.1 w hX hY sx sy
theorem bw_not (nx : Bool) (xo : Option Addr) (xl xc : Nat) (vx : Int) (ny : Bool) (yo : Option Addr) (yl yc : Nat) (vy : Int) (w : World) (hX : Big w nx xo xl xc vx) (hY : Big w ny yo yl yc vy) (sx : xl ≤ 33554432) (sy : yl ≤ 33554432) :
    Calls Tryd.prog 50 #[.agg #[.bool nx, .slice xo xl xc], .agg #[.bool ny, .slice yo yl yc], .agg #[.int .i64 1, .int .i64 1, .int .i64 0, .int .i64 0]] w fun e w' => ∃ n' o l c v', e = .returned (.agg #[.bool n', .slice o l c]) ∧ Big w' n' o l c v' ∧ Hid (xl ≤ 10000 → yl ≤ 10000 → v' = bop lnotf vx vy) ∧ Below w.heap.size w w' :=
  bitwiseR nx xo xl xc vx ny yo yl yc vy lnotf lnotf_even 1 1 0 0 lnotf_tab tab4.2.2.2 w hX hY sx sy
end Go.Proofs.YtldafoojkimdeaaDoor
