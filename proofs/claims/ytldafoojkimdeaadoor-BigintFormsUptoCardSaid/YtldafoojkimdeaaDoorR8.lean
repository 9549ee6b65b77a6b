/- Walks of the document's answer: Same where it says yes, Int. No condition but those that each theorem names. -/
import Derived.Test.YtldafoojkimdeaaDoorR7
import Derived.Test.YtldafoojkimdeaaDoorW39
namespace Go.Proofs.YtldafoojkimdeaaDoor
open Go.RowKit Lm

set_option maxRecDepth 100000 in
set_option maxHeartbeats 1000000 in
theorem sameR (n : Bool) (aa : Option Addr) (la ca : Nat) (A : List Nat) (ab : Option Addr) (cb : Nat) (w : World) (hA : Rd w aa la ca A) (hB : Rd w ab la cb A) :
    Calls Tryd.prog 19 #[.agg #[.bool n, .slice aa la ca], .agg #[.bool n, .slice ab la cb]] w fun e w' => e = .returned (.bool true) ∧ Below w.heap.size w w' := by
  have hn : (n != n) = false := by simp
  have hm := hA.most
  go_enter Tryd.func19, Tryd.ntmps19
  go_wp2_with fail
  obtain ⟨wz, hz⟩ : ∃ wz, wz = (w.alloc (.cells #[.bool n, .slice aa la ca] 24)).alloc (.cells #[.bool n, .slice ab la cb] 24) := ⟨_, rfl⟩
  obtain ⟨hpx, hpy, hzb, hzl⟩ := new2 hz
  rw [← hz]
  clear hz
  have zA := hA.keep hzb
  have zB := hB.keep hzb
  have HX := hid hpx
  have HY := hid hpy
  clear hpx hpy hA hB
  go_loopw [5] (fun i wr => ∃ k : Nat, k ≤ la ∧ i = .int .i64 (k : Int) ∧ Below wz.heap.size wz wr) (fun i _ => la - (intOf i).toNat)
  case atStart => exact ⟨0, by omega, rfl, Below.refl _ _⟩
  case round =>
    obtain ⟨k, hk, rfl, hb⟩ := hrel
    obtain ⟨x0, x1, _, _⟩ := two_cells (heap_keep HX.out hb)
    obtain ⟨y0, y1, _, _⟩ := two_cells (heap_keep HY.out hb)
    by_cases hgo : k < la
    · obtain ⟨b, off, rfl, hc⟩ := (zA.keep hb).cells (by omega)
      obtain ⟨b', off', rfl, hc'⟩ := (zB.keep hb).cells (by omega)
      have hcm := hc k hgo
      have hcm' := hc' k hgo
      clear hc hc'
      have he : ((dg A k : Int) == (dg A k : Int)) = true := by simp
      go_wp2
      go_quiet (fail)
      go_wp2
      go_roundw
      case rel => exact ⟨k + 1, by omega, by go_num, bdrew hb _⟩
      case measure => simp [intOf]; omega
    · obtain rfl : k = la := by omega
      go_wp2
      go_ret
      exact ⟨rfl, hzb.trans (Below.mono hb (by omega))⟩

/-- The limb that a row of bits makes, one bit more at the low end. -/
theorem limb_lt {B : List Nat} (h : B1 B) (J j : Nat) (hj : j < 32) : 2 * bv ((B.drop (J + 1)).take (31 - j)) + dg B J ≤ 4294967295 := by
  have h1 := chunk_lt h J (32 - j)
  rw [show 32 - j = (31 - j) + 1 by omega, chunk_step] at h1
  have h2 : 2 ^ ((31 - j) + 1) ≤ 2 ^ 32 := Nat.pow_le_pow_right (by decide) (by omega)
  omega
theorem limb_next (B : List Nat) (J j : Nat) (hj : j < 32) : bv ((B.drop J).take (32 - j)) = 2 * bv ((B.drop (J + 1)).take (31 - j)) + dg B J := by
  rw [show 32 - j = (31 - j) + 1 by omega, chunk_step]; omega

set_option maxRecDepth 100000 in
set_option maxHeartbeats 2000000 in
theorem intR (n : Bool) (xo : Option Addr) (xl xc : Nat) (v : Int) (w : World) (h : Big w n xo xl xc v) (sx : xl ≤ 1073741824) :
    Calls Tryd.prog 21 #[.agg #[.bool n, .slice xo xl xc]] w fun e w' => ∃ n' ao len cap M, e = .returned (.agg #[.bool n', .slice ao len cap]) ∧ Rd w' ao len cap M ∧ Top M ∧ num n' M = v ∧ (M = [] → n' = false) ∧ Below w.heap.size w w' := by
  obtain ⟨B, rB, bB, tB, hn, ev⟩ := h
  have HL := hid rB.size
  have HV := hid ev
  have HN := hid hn
  clear ev hn
  obtain ⟨i0, hi, hz0, hz1, hz2⟩ := info_parts Tryd.info43
  go_enter Tryd.func21, Tryd.ntmps21
  go_wp2_with fail
  obtain ⟨wz, hz⟩ : ∃ wz, wz = ((w.alloc (.cells #[.bool n, .slice xo xl xc] 28)).alloc (.cells #[.bool false, .slice none 0 0] 24)).alloc (.cells #[.bool n, .slice none 0 0] 24) := ⟨_, rfl⟩
  obtain ⟨hpx, hpy, hpr, hzb, hzl⟩ := new3 hz
  rw [← hz]
  clear hz
  have HX := hid hpx
  have HY := hid hpy
  have HR := hid hpr
  clear hpx hpy hpr
  go_loopw [4, 5, 6] (fun i _ _ wr => ∃ (k : Nat) (M : List Nat) (u : Value), i = .int .i64 ((32 * k : Nat) : Int) ∧ 32 * k ≤ xl + 31 ∧ Hid (M.length = k) ∧ Ok M ∧ Grow (w.heap.size + 3) wr u M ∧ Hid (val M = bv (B.take (32 * k))) ∧ Hid (wr.heap[w.heap.size + 2]? = some (.cells #[.bool n, u] 24 (0, 0))) ∧ Below (w.heap.size + 2) wz wr)
    (fun i _ _ _ => xl + 32 - (intOf i).toNat)
  case atStart => exact ⟨0, [], _, rfl, by omega, hid rfl, Ok.nil, World.ownsRow_nil _ _ _ _, hid rfl, HR, Below.refl _ _⟩
  case round =>
    obtain ⟨k, M, u, rfl, hk, hM, oM, hG, hv, hpu, hb⟩ := hrel
    have hsz := hb.size
    have hlt3 : w.heap.size + 3 ≤ wr.heap.size := by omega
    obtain ⟨x0, x1, _, _⟩ := two_cells ((hb.block _ (by omega)).trans HX.out)
    obtain ⟨r0, r1, q0, q1⟩ := two_cells hpu.out
    have hbw := hzb.trans (Below.mono hb (show w.heap.size ≤ w.heap.size + 2 by omega))
    have hBr := rB.keep hbw
    by_cases hgo : 32 * k < xl
    · go_wp2_with fail
      go_loop [5, 6] (fun x j => ∃ (m l : Nat), m ≤ 32 ∧ j = .int .i64 ((m : Int) - 1) ∧ x = .int .u32 (l : Int) ∧ l ≤ 4294967295 ∧ Hid (l = bv ((B.drop (32 * k + m)).take (32 - m)))) (fun _ j => (intOf j + 1).toNat)
      case atStart => exact ⟨32, 0, by omega, rfl, rfl, by omega, hid rfl⟩
      case round =>
        obtain ⟨m, l, hm, rfl, rfl, hl, hlv⟩ := hrel
        cases m with
        | zero =>
          have hn1 : ¬ ((0 : Int) ≤ ((0 : Nat) : Int) - 1) := by omega
          have HLV : Hid (l = bv ((B.drop (32 * k)).take 32)) := hid (by simpa using hlv.out)
          go_wp2_with (at_builtin; refine wpList_append_own _ rfl _ _ 22 rfl (w.heap.size + 3) 43 i0 (.int .u32 0) 1 4 Tryd.underlying22 hi hz0 hz1 hz2 rfl (by decide) _ _ _ rfl (hG.alloc _) ⟨wr.heap.size, 0, none⟩ 1 1 [.int .u32 (l : Int)] rfl rfl ?c1 ?c2 ?c3 ?c4 ?c5 ?_)
          try case c1 =>
            intro j u hj
            match j, hj with
            | 0, hj => simp at hj; subst hj; simp [Addr.add]
          case c2 => first | rfl | (intro u hu; simp at hu; subst hu; rfl)
          case c3 => rw [hM.out]; unfold maxLen; omega
          case c4 => rw [hM.out]; omega
          case c5 => first | omega | (simp; omega)
          intro v' w5 hown' hgrow _
          have hb5 := app_below (Below.refl _ _) hlt3 hgrow hG.le
          have hpu5 := (hb5.block _ (by omega)).trans hpu.out
          have hG5 : Grow (w.heap.size + 3) w5 v' (M ++ [l]) := by
            unfold Grow; rw [List.length_append, ← lims_snoc M l rfl]; exact hown'
          obtain ⟨ao5, cap5, rfl, _⟩ := hG5.rd (oM.snoc (by omega)) (by rw [List.length_append, hM.out, List.length_singleton]; omega)
          rw [show (M ++ [l]).length = M.length + 1 by simp] at hG5
          clear hgrow hown' r0 r1 q0 q1
          obtain ⟨t0, t1, e0, e1⟩ := two_cells hpu5
          have HP5 := hid hpu5
          clear hpu5
          go_wp2
          go_roundw
          case rel =>
            refine ⟨k + 1, M ++ [l], .slice ao5 (M.length + 1) cap5, congrArg (Value.int .i64) (by omega), by omega, hid (by simp [hM.out]), oM.snoc (by omega), ?_, hid ?_, hid ?_, ?_⟩
            · exact hG5.set (fun e => by have := hG5.le _ e; simp only at this; omega) _
            · rw [val_snoc, hM.out, hv.out, HLV.out, P_two, show 32 * (k + 1) = 32 * k + 32 by omega, chunk_take]
            · rw [heap_setCell_same w5 _ 1 _ _ _ HP5.out]; simp
            · exact (hb.trans (Below.mono hb5 (by omega))).setCell (by simp) _
          case measure => simp [intOf]; omega
        | succ j =>
          have hi1 : ((j + 1 : Nat) : Int) - 1 = (j : Int) := by omega
          rw [hi1]; clear hi1
          have hnx : l * 2 + dg B (32 * k + j) ≤ 4294967295 := by
            rw [hlv.out, Nat.mul_comm]; have := limb_lt bB (32 * k + j) j (by omega); rw [show 32 - (j + 1) = 31 - j by omega]; exact this
          have HNX : Hid (l * 2 + dg B (32 * k + j) = bv ((B.drop (32 * k + j)).take (32 - j))) := hid (by
            rw [limb_next B _ j (by omega), hlv.out, show 32 - (j + 1) = 31 - j by omega, Nat.mul_comm]; rfl)
          have hbj := bB.dg (32 * k + j)
          by_cases hin : 32 * k + j < xl
          · obtain ⟨b, off, rfl, hc⟩ := hBr.cells (by omega)
            have hcm := hc (32 * k + j) hin
            clear hc
            go_wp2
            go_round
            case rel => exact ⟨j, l * 2 + dg B (32 * k + j), by omega, by go_num, congrArg (Value.int .u32) (by omega), by omega, HNX⟩
            case measure => simp [intOf]
          · have HZ : Hid (dg B (32 * k + j) = 0) := hid (dg_out B _ (by rw [HL.out]; omega))
            go_wp2
            go_round
            case rel => exact ⟨j, l * 2, by omega, by go_num, congrArg (Value.int .u32) (by omega), by omega, hid (by have := HNX.out; rw [HZ.out] at this; simpa using this)⟩
            case measure => simp [intOf]
    · have hvB : Hid (val M = bv B) := hid (by rw [hv.out, bv_take_ge B _ (by rw [HL.out]; omega)])
      obtain ⟨ao, cap, rfl, hR⟩ := hG.rd oM (by rw [hM.out]; omega)
      have tM : Hid (Top M) := hid (top_chunks oM tB hvB.out (by rw [HL.out, hM.out]; omega))
      obtain ⟨s0, s1, p0, p1⟩ := two_cells ((hb.block _ (by omega)).trans HY.out)
      go_wp2
      refine bodyPost_ret (v := .agg #[.bool n, .slice ao M.length cap]) (by simp [results, Tryd.results21, go_sem, s0, s1, r0, r1]) rfl ⟨_, _, _, _, M, rfl, ?_, tM.out, ?_, ?_, ?_⟩
      · exact hR.pair24 ((hb.block _ (by omega)).trans HY.out) (by simp) (by simp) _ _
      · rw [← HV.out]; unfold num sg; rw [hvB.out]
      · intro e
        refine HN.out (btop_zero tB ?_)
        rw [← hvB.out, e]; rfl
      · exact (hbw.setCell (by simp) _).setCell (by simp) _
end Go.Proofs.YtldafoojkimdeaaDoor
