/- Walks: product. -/
import Derived.Test.YtldafoojkimdeaaDoorW3
namespace Go.Proofs.YtldafoojkimdeaaDoor
open Go.RowKit Lm

theorem set_mid (N R : List Nat) (k x : Nat) (hN : N.length = k) (hk : k < R.length) : (N ++ R.drop k).set k x = (N ++ [x]) ++ R.drop (k + 1) := by
  rw [List.set_append_right _ _ (by omega), hN, Nat.sub_self, List.drop_eq_getElem_cons hk, List.set_cons_zero, List.append_assoc]
  rfl
theorem dg_mid (N R : List Nat) (k : Nat) (hN : N.length = k) : dg (N ++ R.drop k) k = dg R k := by
  rw [dg_append_right _ _ _ (by omega), hN, Nat.sub_self, dg_drop]; rfl
theorem len_mid (N R : List Nat) (k : Nat) (hN : N.length = k) (hk : k ≤ R.length) : (N ++ R.drop k).length = R.length := by
  rw [List.length_append, List.length_drop]; omega

/-- One step of the inner loop: e is the power of the outer place. -/
theorem mul_inner {pe pj c x y r o c' s t q : Nat} (h : s + pe * pj * c = t + x * pe * q) (he : c + (x * y + r) = o + 4294967296 * c') :
    (s + pe * pj * o) + pe * (pj * 4294967296) * c' = (t + pe * pj * r) + x * pe * (q + pj * y) := by grind

set_option maxRecDepth 100000 in
set_option maxHeartbeats 2000000 in
theorem product_any (aa : Option Addr) (la ca : Nat) (A : List Nat) (ab : Option Addr) (lb cb : Nat) (B : List Nat) (w : World) (hA : Rd w aa la ca A) (hB : Rd w ab lb cb B) (hsa : la ≤ 5000) (hsb : lb ≤ 5000) :
    Calls Tryd.prog 79 #[.slice aa la ca, .slice ab lb cb] w fun e w' => ∃ g L, e = .returned (.slice (some ⟨g, 0, none⟩) L.length L.length) ∧ w.heap.size ≤ g ∧ Rw w' g L ∧ L.length = la + lb ∧ Ok L ∧ val L = val A * val B ∧ Below w.heap.size w w' := by
  obtain ⟨i0, hi, hz0, hz1, hz2⟩ := info_parts Tryd.info43
  have hla := hid hA.size
  have hlb := hid hB.size
  go_enter Tryd.func79, Tryd.ntmps79
  go_wp2_with (at_make; refine wpList_make_full _ rfl _ _ 22 rfl w.heap.size 43 i0 (.int .u32 0) 1 Tryd.underlying22 hi hz0 hz1 .i64 .i64 _ _ (la + lb) rfl rfl (by omega) (by omega) ?c1 ?c2 ?c3 ?_)
  case c1 => rw [hz2]; omega
  case c2 => unfold maxLen; omega
  case c3 => exact Nat.le_refl _
  intro w1 hown hgrow
  have hrow : Rw w1 w.heap.size (List.replicate (la + lb) 0) := Rw.of_own hown (made_zeros _ _ (by omega))
  have hbel : Below w.heap.size w w1 := (Below.refl _ _).grown hgrow (Nat.le_refl _) (by intro k hk; simp at hk)
  clear hown hgrow hi hz0 hz1 hz2
  go_wp2
  go_loopw [19] (fun i wr => ∃ (k : Nat) (M : List Nat), k ≤ la ∧ i = .int .i64 (k : Int) ∧ Hid (M.length = k + lb) ∧ Ok M ∧ Hid (val M = val (A.take k) * val B) ∧
      Rw wr w.heap.size (M ++ List.replicate (la - k) 0) ∧ Below w.heap.size w wr) (fun i _ => la - (intOf i).toNat)
  case atStart => exact ⟨0, List.replicate lb 0, by omega, rfl, hid (by simp), Ok.zeros _, hid (by simp [val_zeros, val]), by rw [List.replicate_append_replicate, Nat.add_comm]; exact hrow, hbel⟩
  case round =>
    obtain ⟨k, M, hk, rfl, hM, hok, hval, hR, hB1⟩ := hrel
    clear hrow hbel
    by_cases hlt : k < la
    · obtain ⟨b, off, rfl, hc⟩ := (hA.keep hB1).cells (by omega)
      have hcell := hc k hlt
      have hx := hA.ok.dg k
      clear hc
      obtain ⟨R0, hR0⟩ : ∃ R0, R0 = M ++ List.replicate (la - k) 0 := ⟨_, rfl⟩
      have hok0 : Ok R0 := by rw [hR0]; exact hok.append (Ok.zeros _)
      have HL0 : Hid (R0.length = la + lb) := hid (by rw [hR0, List.length_append, hM.out, List.length_replicate]; omega)
      rw [← hR0] at hR
      have HR0 := hid hR0
      clear hR0
      go_wp2
      go_loopw [8, 26] (fun c j ws => ∃ (m cv : Nat) (N : List Nat), m ≤ lb ∧ j = .int .i64 (m : Int) ∧ c = .int .u64 (cv : Int) ∧ cv < 4294967296 ∧ Hid (N.length = k + m) ∧ Ok N ∧
          Hid (val N + P k * P m * cv = val (R0.take (k + m)) + dg A k * P k * val (B.take m)) ∧ Rw ws w.heap.size (N ++ R0.drop (k + m)) ∧ Below w.heap.size w ws) (fun _ j _ => lb - (intOf j).toNat)
      case atStart => exact ⟨0, 0, R0.take k, by omega, rfl, rfl, by omega, hid (by rw [List.length_take, HL0.out]; omega), hok0.take _, hid (by simp [val]), by rw [Nat.add_zero, List.take_append_drop]; exact hR, hB1⟩
      case round =>
        obtain ⟨m, cv, N, hm, rfl, rfl, hcv, hN, hokN, hvN, hRN, hB2⟩ := hrel
        clear hR hB1
        by_cases hlt2 : m < lb
        · obtain ⟨b', off', rfl, hc'⟩ := (hB.keep hB2).cells (by omega)
          have hcell' := hc' m hlt2
          have hcx := ((hA.keep hB2).cells (by omega))
          clear hc' hcx
          have hy := hB.ok.dg m
          have hlen : k + m < (N ++ R0.drop (k + m)).length := by rw [len_mid N R0 _ hN.out (by rw [HL0.out]; omega), HL0.out]; omega
          have hcur := hRN.cell (k + m) hlen
          rw [dg_mid N R0 _ hN.out] at hcur
          have hfr := hRN.free (k + m)
          have hr := hok0.dg (k + m)
          have hp : dg A k * dg B m ≤ 4294967295 * 4294967295 := Nat.mul_le_mul (by omega) (by omega)
          have hpi : (dg A k : Int) * (dg B m : Int) ≤ 18446744065119617025 := by have := Int.ofNat_le.2 hp; simpa using this
          have hpn : 0 ≤ (dg A k : Int) * (dg B m : Int) := Int.mul_nonneg (by omega) (by omega)
          have HP := hid hp
          clear hp hlen
          go_wp2
          have hcast : (cv : Int) + ((dg A k : Int) * (dg B m : Int) + (dg R0 (k + m) : Int)) = ((cv + (dg A k * dg B m + dg R0 (k + m)) : Nat) : Int) := by simp [Int.natCast_mul]
          have hsum : cv + (dg A k * dg B m + dg R0 (k + m)) ≤ 18446744073709551615 := by have := HP.out; omega
          go_roundw
          case rel =>
            refine ⟨m + 1, (cv + (dg A k * dg B m + dg R0 (k + m))) / 4294967296, N ++ [(cv + (dg A k * dg B m + dg R0 (k + m))) % 4294967296], by omega, by go_num, congrArg (Value.int .u64) (by rw [hcast]; omega), by omega, hid (by rw [List.length_append, hN.out]; rfl), hokN.snoc (by omega), hid ?_, ?_, hB2.setCell (Nat.le_refl _) _⟩
            · rw [val_snoc, hN.out, P_succ, P_add, ← Nat.add_assoc k m 1, val_take_dg R0 (k + m) (by rw [HL0.out]; omega), P_add, val_take_dg B m (by rw [hlb.out]; omega)]
              exact mul_inner hvN.out (by omega)
            · have := hRN.set' (k + m) ((cv + (dg A k * dg B m + dg R0 (k + m))) % 4294967296) (z := ((cv : Int) + ((dg A k : Int) * (dg B m : Int) + (dg R0 (k + m) : Int))) % 4294967296) (by rw [hcast]; omega)
              rwa [set_mid N R0 _ _ hN.out (by rw [HL0.out]; omega)] at this
          case measure => simp [intOf]; omega
        · obtain rfl : m = lb := by omega
          have hlen : k + m < (N ++ R0.drop (k + m)).length := by rw [len_mid N R0 _ hN.out (by rw [HL0.out]; omega), HL0.out]; omega
          have hcur := hRN.cell (k + m) hlen
          rw [dg_mid N R0 _ hN.out] at hcur
          have hfr := hRN.free (k + m)
          clear hlen
          go_wp2
          go_roundw
          case rel =>
            refine ⟨k + 1, N ++ [cv], by omega, by go_num, hid (by rw [List.length_append, hN.out]; simp; omega), hokN.snoc hcv, hid ?_, ?_, hB2.setCell (Nat.le_refl _) _⟩
            · have hv := hvN.out
              have e1 : R0.take (k + m) = M := by rw [HR0.out, ← hM.out]; exact List.take_left
              rw [e1, hval.out, val_take_ge B m (by rw [hlb.out]; omega)] at hv
              rw [val_snoc, hN.out, P_add, hv, val_take_dg A k (by rw [hla.out]; omega)]
              grind
            · have := hRN.set' (k + m) cv (z := (cv : Int)) rfl
              rw [set_mid N R0 _ _ hN.out (by rw [HL0.out]; omega)] at this
              have e2 : R0.drop (k + m + 1) = List.replicate (la - (k + 1)) 0 := by
                rw [HR0.out, List.drop_append, List.drop_eq_nil_of_le (by rw [hM.out]; omega), List.nil_append, List.drop_replicate, hM.out]; congr 1; omega
              rwa [e2] at this
          case measure => simp [intOf]; omega
    · obtain rfl : k = la := by omega
      have hv := hval.out
      rw [val_take_ge A k (by rw [hla.out]; omega)] at hv
      have HF := hid hv
      clear hv
      go_wp2
      go_ret
      refine ⟨w.heap.size, M, by rw [hM.out]; rfl, Nat.le_refl _, ?_, hM.out, hok, HF.out, hB1⟩
      simpa using hR
end Go.Proofs.YtldafoojkimdeaaDoor
