/- Walks: shiftUp. -/
import Derived.Test.YtldafoojkimdeaaDoorW13
namespace Go.Proofs.YtldafoojkimdeaaDoor
open Go.RowKit Lm

theorem two_pow_le {p : Nat} (h : p < 32) : 2 ^ p ≤ 2147483648 := by
  have : 2 ^ p ≤ 2 ^ 31 := Nat.pow_le_pow_right (by decide) (by omega)
  simpa using this
theorem shl_bound (x c p : Nat) (hx : x < 4294967296) (hc : c < 2 ^ p) : x * 2 ^ p + c < 4294967296 * 2 ^ p := by
  have := Nat.mul_le_mul_right (2 ^ p) (show x + 1 ≤ 4294967296 by omega)
  rw [Nat.add_mul, Nat.one_mul] at this; omega
theorem or_shl (x c p : Nat) (hx : x < 4294967296) (hc : c < 2 ^ p) (hp : p < 32) :
    bits .or .u64 (c : Int) (IntKind.u64.wrap ((x : Int) * 2 ^ p)) = ((x * 2 ^ p + c : Nat) : Int) := by
  have h1 := shl_bound x c p hx hc
  have h2 := two_pow_le hp
  have e : IntKind.u64.wrap ((x : Int) * 2 ^ p) = ((x * 2 ^ p : Nat) : Int) := by
    rw [show (x : Int) * 2 ^ p = ((x * 2 ^ p : Nat) : Int) by simp [Int.natCast_mul, Int.natCast_pow]]
    rw [IntKind.wrap_u64]; omega
  rw [e, u64_or_nat c (x * 2 ^ p) (by omega) (by omega), Nat.or_comm, nat_join p (x * 2 ^ p) c (Nat.mul_mod_left _ _) hc]
theorem shl_step {P q c x o c' s t e r : Nat} (h : s + P * c = q * (t * e)) (he : x * e + c = o + 4294967296 * c') (hP : P = q * r) :
    (s + P * o) + P * 4294967296 * c' = q * ((t + r * x) * e) := by subst hP; grind

set_option maxRecDepth 100000 in
set_option maxHeartbeats 2000000 in
theorem shiftUp_any (aa : Option Addr) (la ca : Nat) (A : List Nat) (n : Nat) (w : World) (hA : Rd w aa la ca A) (hsa : la ≤ 5000) (hn : n ≤ 5000) :
    Calls Tryd.prog 97 #[.slice aa la ca, .int .i64 (n : Int)] w fun e w' => ∃ g L, e = .returned (.slice (some ⟨g, 0, none⟩) L.length L.length) ∧ w.heap.size ≤ g ∧ Rw w' g L ∧ L.length = la + n / 32 + 1 ∧ Ok L ∧ val L = val A * 2 ^ n ∧ Below w.heap.size w w' := by
  obtain ⟨i0, hi, hz0, hz1, hz2⟩ := info_parts Tryd.info43
  have hla := hid hA.size
  go_enter Tryd.func97, Tryd.ntmps97
  go_wp2_with (at_make; refine wpList_make_full _ rfl _ _ 22 rfl w.heap.size 43 i0 (.int .u32 0) 1 Tryd.underlying22 hi hz0 hz1 .i64 .i64 _ _ (la + n / 32 + 1) rfl rfl (by omega) (by omega) ?c1 ?c2 ?c3 ?_)
  case c1 => rw [hz2]; omega
  case c2 => unfold maxLen; omega
  case c3 => exact Nat.le_refl _
  intro w1 hown hgrow
  have hrow : Rw w1 w.heap.size (List.replicate (la + n / 32 + 1) 0) := Rw.of_own hown (made_zeros _ _ (by omega))
  have hbel : Below w.heap.size w w1 := (Below.refl _ _).grown hgrow (Nat.le_refl _) (by intro k hk; simp at hk)
  clear hown hgrow hi hz0 hz1 hz2
  go_wp2
  go_loopw [8, 24] (fun c i wr => ∃ (k cv : Nat) (M : List Nat), k ≤ la ∧ i = .int .i64 (k : Int) ∧ c = .int .u64 (cv : Int) ∧ cv < 2 ^ (n % 32) ∧ Hid (M.length = k + n / 32) ∧ Ok M ∧ Hid (val M + P (k + n / 32) * cv = P (n / 32) * (val (A.take k) * 2 ^ (n % 32))) ∧
      Rw wr w.heap.size (M ++ List.replicate (la + 1 - k) 0) ∧ Below w.heap.size w wr) (fun _ i _ => la - (intOf i).toNat)
  case atStart => exact ⟨0, 0, List.replicate (n / 32) 0, by omega, rfl, rfl, Nat.pow_pos (by decide), hid (by simp), Ok.zeros _, hid (by simp [val_zeros, val]), by rw [List.replicate_append_replicate, show n / 32 + (la + 1 - 0) = la + n / 32 + 1 by omega]; exact hrow, hbel⟩
  case round =>
    obtain ⟨k, cv, M, hk, rfl, rfl, hcv, hM, hok, hval, hR, hB1⟩ := hrel
    clear hrow hbel
    by_cases hlt : k < la
    · obtain ⟨b, off, rfl, hc⟩ := (hA.keep hB1).cells (by omega)
      have hcell := hc k hlt
      have hx := hA.ok.dg k
      have hp := Nat.mod_lt n (show 0 < 32 by decide)
      have hor := or_shl (dg A k) cv (n % 32) hx hcv hp
      have hbd := shl_bound (dg A k) cv (n % 32) hx hcv
      have hpw := two_pow_le hp
      obtain ⟨V, hV⟩ : ∃ V, V = dg A k * 2 ^ (n % 32) + cv := ⟨_, rfl⟩
      rw [← hV] at hor hbd
      have HV := hid hV
      have HBD := hid hbd
      have hVs : V ≤ 18446744073709551615 := by omega
      have hfr := hR.free (k + n / 32)
      have hsz : k + n / 32 < (M ++ List.replicate (la + 1 - k) 0).length := by rw [List.length_append, List.length_replicate, hM.out]; omega
      have hcur := hR.cell (k + n / 32) hsz
      clear hc hsz hV hbd hpw hp
      go_wp2
      go_roundw
      case rel =>
        refine ⟨k + 1, V / 4294967296, M ++ [V % 4294967296], by omega, by go_num, congrArg (Value.int .u64) (by omega), ?_, hid (by rw [List.length_append, hM.out]; simp; omega), hok.snoc (by omega), hid ?_, ?_, hB1.setCell (Nat.le_refl _) _⟩
        · exact (Nat.div_lt_iff_lt_mul (by decide)).2 (by rw [Nat.mul_comm]; exact HBD.out)
        · rw [val_snoc, hM.out, show k + 1 + n / 32 = k + n / 32 + 1 by omega, P_succ, val_take_dg A k (by rw [hla.out]; omega)]
          exact shl_step hval.out (by rw [← HV.out]; omega) (by rw [P_add, Nat.mul_comm])
        · have := hR.set' (k + n / 32) (V % 4294967296) (z := (V : Int) % 4294967296) (by omega)
          have e := set_snoc_zeros M (k + n / 32 + (la + 1 - k)) (V % 4294967296) (by rw [hM.out]; omega)
          rw [hM.out, show k + n / 32 + (la + 1 - k) - (k + n / 32) = la + 1 - k by omega, show k + n / 32 + (la + 1 - k) - (k + n / 32 + 1) = la + 1 - (k + 1) by omega] at e
          rwa [e] at this
      case measure => simp [intOf]; omega
    · obtain rfl : k = la := by omega
      have hp := Nat.mod_lt n (show 0 < 32 by decide)
      have hpw := two_pow_le hp
      have hcl : cv < 4294967296 := by omega
      have hfr := hR.free (k + n / 32)
      have hsz : k + n / 32 < (M ++ List.replicate (k + 1 - k) 0).length := by rw [List.length_append, List.length_replicate, hM.out]; omega
      have hcur := hR.cell (k + n / 32) hsz
      clear hsz hp hpw hcv
      go_wp2
      go_ret
      refine ⟨w.heap.size, M ++ [cv], ?_, Nat.le_refl _, ?_, by rw [List.length_append, hM.out]; rfl, hok.snoc hcl, ?_, hB1.setCell (Nat.le_refl _) _⟩
      · rw [List.length_append, hM.out]; rfl
      · have := hR.set' (k + n / 32) cv (z := (cv : Int)) rfl
        have e := set_snoc_zeros M (k + n / 32 + 1) cv (by rw [hM.out]; omega)
        rw [hM.out] at e
        rw [show k + 1 - k = k + n / 32 + 1 - (k + n / 32) by omega, e] at this
        simpa using this
      · have hv := hval.out
        rw [val_take_ge A k (by rw [hla.out]; omega)] at hv
        rw [val_snoc, hM.out, hv, P_two, ← Nat.mul_assoc, Nat.mul_comm (2 ^ (32 * (n / 32))), Nat.mul_assoc, ← Nat.pow_add]
        congr 2; omega
end Go.Proofs.YtldafoojkimdeaaDoor
