/- Walks: putBack. -/
import Derived.Test.YtldafoojkimdeaaDoorW17
namespace Go.Proofs.YtldafoojkimdeaaDoor
open Go.RowKit Lm

theorem put_step {p c x y o c' s t u : Nat} (h : s + p * c = t + u) (he : c + (x + y) = o + 4294967296 * c') :
    (s + p * o) + p * 4294967296 * c' = (t + p * x) + (u + p * y) := by grind
theorem put_last {p c x o c' s t u : Nat} (h : s + p * c = t + u) (he : x + c = o + 4294967296 * c') :
    (s + p * o) + p * 4294967296 * c' = (t + p * x) + u := by grind

set_option maxRecDepth 100000 in
set_option maxHeartbeats 2000000 in
theorem putBack_any (g off n cr gd cd : Nat) (R0 DD : List Nat) (w : World) (hR : Rw w g R0) (oR : Ok R0) (hD : Rw w gd DD) (oD : Ok DD) (hne : gd ≠ g) (hl : off + n + 1 ≤ R0.length) (hdl : n ≤ DD.length) (hn : n ≤ 5000) (_hoff : off ≤ 10000) :
    Calls Tryd.prog 128 #[.slice (some ⟨g, off, none⟩) (n + 1) cr, .slice (some ⟨gd, 0, none⟩) n cd] w fun e w' => ∃ (M : List Nat) (ov : Nat), e = .returned (.tuple #[]) ∧ M.length = n + 1 ∧ Ok M ∧ Rw w' g (R0.take off ++ M ++ R0.drop (off + n + 1)) ∧
      val M + P (n + 1) * ov = val ((R0.drop off).take (n + 1)) + val (DD.take n) ∧ w.grownBy w' (some g) := by
  obtain ⟨R, hRR⟩ : ∃ R, R = (R0.drop off).take (n + 1) := ⟨_, rfl⟩
  have hRl : R.length = n + 1 := by rw [hRR]; exact len_sub _ _ _ (by omega)
  have hRd : ∀ k, k < n + 1 → dg R k = dg R0 (off + k) := fun k hk => by rw [hRR]; exact dg_sub _ _ _ _ hk
  have HRR := hid hRR
  have HRl := hid hRl
  have HRd := hid hRd
  clear hRR hRl hRd
  go_enter Tryd.func128, Tryd.ntmps128
  go_wp2
  go_loopw [4, 9] (fun c i wr => ∃ (k cv : Nat) (M : List Nat), k ≤ n ∧ i = .int .i64 (k : Int) ∧ c = .int .u64 (cv : Int) ∧ cv ≤ 1 ∧ Hid (M.length = k) ∧ Ok M ∧
      Hid (val M + P k * cv = val (R.take k) + val (DD.take k)) ∧ Rw wr g ((R0.take off ++ M) ++ R0.drop (off + k)) ∧ w.grownBy wr (some g)) (fun _ i _ => n - (intOf i).toNat)
  case atStart => exact ⟨0, 0, [], by omega, rfl, rfl, by omega, hid rfl, Ok.nil, hid (by simp [val]), by rw [List.append_nil, Nat.add_zero, List.take_append_drop]; exact hR, World.grownBy.refl _ _⟩
  case round =>
    obtain ⟨k, cv, M, hk, rfl, rfl, hcv, hM, hok, hval, hRw, hgr⟩ := hrel
    have hN : (R0.take off ++ M).length = off + k := by rw [List.length_append, List.length_take, hM.out]; omega
    have hlen : off + k < ((R0.take off ++ M) ++ R0.drop (off + k)).length := by rw [len_mid _ R0 _ hN (by omega)]; omega
    have hcur := hRw.cell (off + k) hlen
    rw [dg_mid _ R0 _ hN] at hcur
    have hfr := hRw.free (off + k)
    have hx := oR.dg (off + k)
    have HN := hid hN
    have HX2 := hid (HRd.out k (by omega))
    clear hlen hN
    generalize dg R0 (off + k) = x at *
    by_cases hlt : k < n
    · have hy := oD.dg k
      have hcD := (hD.grown hgr hne).cell k (by omega)
      go_wp2
      go_roundw
      case rel =>
        refine ⟨k + 1, (cv + (x + dg DD k)) / 4294967296, M ++ [(cv + (x + dg DD k)) % 4294967296], by omega, by go_num, congrArg (Value.int .u64) (by omega), by omega, hid (by rw [List.length_append, hM.out]; rfl), hok.snoc (by omega), hid ?_, ?_, grown_set hgr _ _⟩
        · rw [val_snoc, hM.out, P_succ, val_take_dg DD k (by omega), val_take_dg R k (by rw [HRl.out]; omega), HX2.out]
          exact put_step hval.out (by omega)
        · have := hRw.set' (off + k) ((cv + (x + dg DD k)) % 4294967296) (z := ((cv : Int) + ((x : Int) + (dg DD k : Int))) % 4294967296) (by omega)
          rw [set_mid _ R0 _ _ HN.out (by omega), List.append_assoc (R0.take off)] at this
          exact this
      case measure => simp [intOf]; omega
    · obtain rfl : k = n := by omega
      go_wp2
      go_end0
      refine ⟨M ++ [(x + cv) % 4294967296], (x + cv) / 4294967296, rfl, by rw [List.length_append, hM.out]; rfl, hok.snoc (by omega), ?_, ?_, grown_set hgr _ _⟩
      · have := hRw.set' (off + k) ((x + cv) % 4294967296) (z := ((x : Int) + (cv : Int)) % 4294967296) (by omega)
        rw [set_mid _ R0 _ _ HN.out (by omega), List.append_assoc (R0.take off)] at this
        exact this
      · have e := val_take_dg R k (by rw [HRl.out]; omega)
        rw [List.take_of_length_le (by rw [HRl.out]; exact Nat.le_refl _), HX2.out] at e
        rw [← HRR.out, val_snoc, hM.out, e, P_succ]
        exact put_last hval.out (by omega)
end Go.Proofs.YtldafoojkimdeaaDoor
