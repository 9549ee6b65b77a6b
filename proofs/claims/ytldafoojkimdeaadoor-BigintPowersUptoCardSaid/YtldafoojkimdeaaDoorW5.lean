/- Walks: the difference of two lists of limbs. -/
import Derived.Test.YtldafoojkimdeaaDoorW3
namespace Go.Proofs.YtldafoojkimdeaaDoor
open Go.RowKit Lm

theorem wrap2 (x bv y : Nat) (_hx : x < 4294967296) (_hb : bv ≤ 1) (_hy : y < 4294967296) :
    IntKind.u64.wrap (IntKind.u64.wrap ((x : Int) - (bv : Int)) - (y : Int)) = ((x : Int) - bv - y) % 18446744073709551616 := by
  rw [IntKind.wrap_u64, IntKind.wrap_u64]; omega
theorem wrap1 (x bv : Nat) : IntKind.u64.wrap ((x : Int) - (bv : Int)) = ((x : Int) - bv) % 18446744073709551616 := by
  rw [IntKind.wrap_u64]

set_option maxRecDepth 100000 in
set_option maxHeartbeats 1000000 in
theorem difference_any (aa : Option Addr) (la ca : Nat) (A : List Nat) (ab : Option Addr) (lb cb : Nat) (B : List Nat) (w : World) (hA : Rd w aa la ca A) (hB : Rd w ab lb cb B) (hge : lb ≤ la) (hsm : la ≤ 5000) (hv0 : val B ≤ val A) :
    Calls Tryd.prog 85 #[.slice aa la ca, .slice ab lb cb] w fun e w' => ∃ g L, e = .returned (.slice (some ⟨g, 0, none⟩) L.length L.length) ∧ w.heap.size ≤ g ∧ Rw w' g L ∧ L.length = la ∧ Ok L ∧ val L + val B = val A ∧ Below w.heap.size w w' := by
  have hV := hid hv0
  clear hv0
  obtain ⟨i0, hi, hz0, hz1, hz2⟩ := info_parts Tryd.info43
  have hla := hid hA.size
  have hlb := hid hB.size
  go_enter Tryd.func85, Tryd.ntmps85
  go_wp2_with (at_make; refine wpList_make_full _ rfl _ _ 22 rfl w.heap.size 43 i0 (.int .u32 0) 1 Tryd.underlying22 hi hz0 hz1 .i64 .i64 _ _ la rfl rfl (by omega) (by omega) ?c1 ?c2 ?c3 ?_)
  case c1 => rw [hz2]; omega
  case c2 => unfold maxLen; omega
  case c3 => exact Nat.le_refl _
  intro w1 hown hgrow
  have hrow : Rw w1 w.heap.size (List.replicate la 0) := Rw.of_own hown (made_zeros _ _ (by omega))
  have hbel : Below w.heap.size w w1 := (Below.refl _ _).grown hgrow (Nat.le_refl _) (by intro k hk; simp at hk)
  clear hown hgrow hi hz0 hz1 hz2
  go_wp2
  go_loopw [6, 15] (fun c i wr => ∃ (k bv : Nat) (L : List Nat), k ≤ la ∧ i = .int .i64 (k : Int) ∧ c = .int .u64 (bv : Int) ∧ bv ≤ 1 ∧ Hid (L.length = k) ∧ Ok L ∧ Hid (val L + val (B.take k) = val (A.take k) + P k * bv) ∧
      Rw wr w.heap.size (L ++ List.replicate (la - k) 0) ∧ Below w.heap.size w wr) (fun _ i _ => la - (intOf i).toNat)
  case atStart => exact ⟨0, 0, [], by omega, rfl, rfl, by omega, hid rfl, Ok.nil, hid rfl, hrow, hbel⟩
  case round =>
    obtain ⟨k, bv, L, hk, rfl, rfl, hbv, hL, hok, hval, hR, hB1⟩ := hrel
    clear hrow hbel
    by_cases hlt : k < la
    · obtain ⟨b, off, rfl, hc⟩ := (hA.keep hB1).cells (by omega)
      have hcell := hc k hlt
      have hx := hA.ok.dg k
      have hfr := hR.free k
      have hsz : k < (L ++ List.replicate (la - k) 0).length := by rw [List.length_append, List.length_replicate, hL.out]; omega
      have hcur := hR.cell k hsz
      clear hc hsz
      by_cases hlb2 : k < lb
      · obtain ⟨b', off', rfl, hc'⟩ := (hB.keep hB1).cells (by omega)
        have hcell' := hc' k hlb2
        have hy := hB.ok.dg k
        clear hc'
        go_wp2
        go_roundw
        case rel =>
          refine ⟨k + 1, (bv + dg B k + 4294967295 - dg A k) / 4294967296, L ++ [dg A k + 4294967296 * ((bv + dg B k + 4294967295 - dg A k) / 4294967296) - bv - dg B k], by omega, by go_num, congrArg (Value.int .u64) ?_, by omega, hid (by simp [hL.out]), hok.snoc (by omega), hid ?_, ?_, hB1.setCell (Nat.le_refl _) _⟩
          · rw [wrap2 _ _ _ hx hbv hy]; omega
          · rw [val_snoc, hL.out, P_succ, val_take_dg A k (by rw [hla.out]; omega), val_take_dg B k (by rw [hlb.out]; omega)]
            exact diff_step hval.out (by omega)
          · have := hR.set' k (dg A k + 4294967296 * ((bv + dg B k + 4294967295 - dg A k) / 4294967296) - bv - dg B k) (z := (IntKind.u64.wrap (IntKind.u64.wrap ((dg A k : Int) - (bv : Int)) - (dg B k : Int))) % 4294967296) (by rw [wrap2 _ _ _ hx hbv hy]; omega)
            rw [← hL.out] at this ⊢
            rwa [set_snoc_zeros L la _ (by rw [hL.out]; omega)] at this
        case measure => simp [intOf]; omega
      · go_wp2
        go_roundw
        case rel =>
          refine ⟨k + 1, (bv + 4294967295 - dg A k) / 4294967296, L ++ [dg A k + 4294967296 * ((bv + 4294967295 - dg A k) / 4294967296) - bv], by omega, by go_num, congrArg (Value.int .u64) ?_, by omega, hid (by simp [hL.out]), hok.snoc (by omega), hid ?_, ?_, hB1.setCell (Nat.le_refl _) _⟩
          · rw [wrap1]; omega
          · rw [val_snoc, hL.out, P_succ, val_take_dg A k (by rw [hla.out]; omega), val_take_ge B (k + 1) (by rw [hlb.out]; omega)]
            have hv := hval.out
            rw [val_take_ge B k (by rw [hlb.out]; omega)] at hv
            have := diff_step (y := 0) (o := dg A k + 4294967296 * ((bv + 4294967295 - dg A k) / 4294967296) - bv) (c' := (bv + 4294967295 - dg A k) / 4294967296) (x := dg A k) hv (by omega)
            simpa using this
          · have := hR.set' k (dg A k + 4294967296 * ((bv + 4294967295 - dg A k) / 4294967296) - bv) (z := (IntKind.u64.wrap ((dg A k : Int) - (bv : Int))) % 4294967296) (by rw [wrap1]; omega)
            rw [← hL.out] at this ⊢
            rwa [set_snoc_zeros L la _ (by rw [hL.out]; omega)] at this
        case measure => simp [intOf]; omega
    · obtain rfl : k = la := by omega
      have hv := hval.out
      rw [val_take_ge A k (by rw [hla.out]; omega), val_take_ge B k (by rw [hlb.out]; omega)] at hv
      have hlt2 := val_lt hok
      rw [hL.out] at hlt2
      have hfin : val L + val B = val A := by
        have h0 : bv = 0 ∨ bv = 1 := by omega
        rcases h0 with rfl | rfl
        · omega
        · have := hV.out; omega
      have HF := hid hfin
      clear hfin hv hlt2
      go_wp2
      go_ret
      refine ⟨w.heap.size, L, by rw [hL.out]; rfl, Nat.le_refl _, ?_, hL.out, hok, HF.out, hB1⟩
      simpa using hR
end Go.Proofs.YtldafoojkimdeaaDoor
