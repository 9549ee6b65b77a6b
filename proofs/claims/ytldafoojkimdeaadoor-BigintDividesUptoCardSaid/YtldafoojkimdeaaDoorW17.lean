/- Walks: takeTimes, putBack. -/
import Derived.Test.YtldafoojkimdeaaDoorW5
import Derived.Test.YtldafoojkimdeaaDoorW13
namespace Go.Proofs.YtldafoojkimdeaaDoor
open Go.RowKit Lm

theorem grown_set {w wr : World} {g : Nat} (h : w.grownBy wr (some g)) (i : Nat) (u : Value) : w.grownBy (wr.setCell ⟨g, i, none⟩ u) (some g) :=
  ⟨h.os, h.tape, h.output, by have := h.size; simpa [World.setCell] using this, fun k hk hne => by
    rw [Below.heap_setCell _ _ _ _ (by intro e; exact hne (by rw [e]))]; exact h.block k hk hne⟩
theorem Rw.grown {w wr : World} {g gd : Nat} {D : List Nat} (h : Rw w gd D) (hg : w.grownBy wr (some g)) (hne : gd ≠ g) : Rw wr gd D :=
  ⟨by rw [hg.block gd h.lt (by simpa using hne)]; exact h.block⟩

theorem dg_sub (R0 : List Nat) (off n k : Nat) (h : k < n) : dg ((R0.drop off).take n) k = dg R0 (off + k) := by rw [dg_take _ _ _ h, dg_drop]
theorem len_sub (R0 : List Nat) (off n : Nat) (h : off + n ≤ R0.length) : ((R0.drop off).take n).length = n := by rw [List.length_take, List.length_drop]; omega

theorem take_step {p c bv t y x o low c' bv' s u v : Nat} (h : s + t * u = v + p * (c + bv)) (h1 : c + t * y = low + 4294967296 * c') (h2 : o + low + bv = x + 4294967296 * bv') :
    (s + p * o) + t * (u + p * y) = (v + p * x) + p * 4294967296 * (c' + bv') := by grind

theorem take_last {p c bv t u v s x o F : Nat} (h : s + t * u = v + p * (c + bv)) (ho : o + c + bv = x + 4294967296 * F) : (s + p * o) + t * u = (v + p * x) + p * 4294967296 * F := by grind
theorem flag_o (x c bv : Nat) (hx : x < 4294967296) (hc : c < 4294967296) (hb : bv ≤ 1) :
    x + 4294967296 * ((c + bv + 4294967295 - x) / 4294967296) - c - bv + c + bv = x + 4294967296 * (if decide (x < c + bv) = true then 1 else 0) := by
  by_cases h : x < c + bv
  · rw [decide_eq_true h, if_pos rfl]; omega
  · rw [decide_eq_false h, if_neg (by decide)]; omega
theorem flag_low (x cv bv : Nat) (hx : x < 4294967296) (hl : cv < 4294967296) (hb : bv ≤ 1) :
    (IntKind.u64.wrap (IntKind.u64.wrap ((x : Int) - (cv : Int)) - (bv : Int)) / 9223372036854775808 != 0) = decide (x < cv + bv) := by
  rw [IntKind.wrap_u64, IntKind.wrap_u64, Bool.eq_iff_iff, bne_iff_ne, decide_eq_true_iff]
  omega
theorem wrap_low (x : Nat) (low bv : Nat) (_hx : x < 4294967296) (_hl : low < 4294967296) (_hb : bv ≤ 1) :
    IntKind.u64.wrap (IntKind.u64.wrap ((x : Int) - (low : Int)) - (bv : Int)) = ((x : Int) - low - bv) % 18446744073709551616 := by
  rw [IntKind.wrap_u64, IntKind.wrap_u64]; omega

set_option maxRecDepth 100000 in
set_option maxHeartbeats 2000000 in
theorem take_any (g off n cr gd cd t : Nat) (R0 DD : List Nat) (w : World) (hR : Rw w g R0) (oR : Ok R0) (hD : Rw w gd DD) (oD : Ok DD) (hne : gd ≠ g) (hl : off + n + 1 ≤ R0.length) (hdl : n ≤ DD.length) (hn : n ≤ 5000) (_hoff : off ≤ 10000) (ht : t < 4294967296) :
    Calls Tryd.prog 127 #[.slice (some ⟨g, off, none⟩) (n + 1) cr, .slice (some ⟨gd, 0, none⟩) n cd, .int .u64 (t : Int)] w fun e w' => ∃ (M : List Nat) (f : Bool), e = .returned (.bool f) ∧ M.length = n + 1 ∧ Ok M ∧ Rw w' g (R0.take off ++ M ++ R0.drop (off + n + 1)) ∧
      val M + t * val (DD.take n) = val ((R0.drop off).take (n + 1)) + P (n + 1) * (if f then 1 else 0) ∧ w.grownBy w' (some g) := by
  obtain ⟨R, hRR⟩ : ∃ R, R = (R0.drop off).take (n + 1) := ⟨_, rfl⟩
  have hRl : R.length = n + 1 := by rw [hRR]; exact len_sub _ _ _ (by omega)
  have hRd : ∀ k, k < n + 1 → dg R k = dg R0 (off + k) := fun k hk => by rw [hRR]; exact dg_sub _ _ _ _ hk
  have HRR := hid hRR
  have HRl := hid hRl
  have HRd := hid hRd
  clear hRR hRl hRd
  go_enter Tryd.func127, Tryd.ntmps127
  go_wp2
  go_loopw [7, 8, 16] (fun c b i wr => ∃ (k cv bv : Nat) (M : List Nat), k ≤ n ∧ i = .int .i64 (k : Int) ∧ c = .int .u64 (cv : Int) ∧ b = .int .u64 (bv : Int) ∧ cv < 4294967296 ∧ bv ≤ 1 ∧ Hid (M.length = k) ∧ Ok M ∧
      Hid (val M + t * val (DD.take k) = val (R.take k) + P k * (cv + bv)) ∧ Rw wr g ((R0.take off ++ M) ++ R0.drop (off + k)) ∧ w.grownBy wr (some g)) (fun _ _ i _ => n - (intOf i).toNat)
  case atStart => exact ⟨0, 0, 0, [], by omega, rfl, rfl, rfl, by omega, by omega, hid rfl, Ok.nil, hid (by simp [val]), by rw [List.append_nil, Nat.add_zero, List.take_append_drop]; exact hR, World.grownBy.refl _ _⟩
  case round =>
    obtain ⟨k, cv, bv, M, hk, rfl, rfl, rfl, hcv, hbv, hM, hok, hval, hRw, hgr⟩ := hrel
    have hN : (R0.take off ++ M).length = off + k := by rw [List.length_append, List.length_take, hM.out]; omega
    have hlen : off + k < ((R0.take off ++ M) ++ R0.drop (off + k)).length := by rw [len_mid _ R0 _ hN (by omega)]; omega
    have hcur := hRw.cell (off + k) hlen
    rw [dg_mid _ R0 _ hN] at hcur
    have hfr := hRw.free (off + k)
    have hx := oR.dg (off + k)
    have HN := hid hN
    clear hlen hN
    by_cases hlt : k < n
    · have hy := oD.dg k
      have hcD := (hD.grown hgr hne).cell k (by omega)
      have hp : t * dg DD k ≤ 4294967295 * 4294967295 := Nat.mul_le_mul (by omega) (by omega)
      have hpi : (t : Int) * (dg DD k : Int) ≤ 18446744065119617025 := by have := Int.ofNat_le.2 hp; simpa using this
      have hpn : 0 ≤ (t : Int) * (dg DD k : Int) := Int.mul_nonneg (by omega) (by omega)
      have HP := hid hp
      clear hp
      go_wp2
      obtain ⟨V, hV⟩ : ∃ V, V = cv + t * dg DD k := ⟨_, rfl⟩
      have hcast : (cv : Int) + (t : Int) * (dg DD k : Int) = (V : Int) := by rw [hV]; simp [Int.natCast_mul]
      have hVs : V ≤ 18446744073709551615 := by have := HP.out; omega
      obtain ⟨low, hlow⟩ : ∃ low, low = V % 4294967296 := ⟨_, rfl⟩
      have hlow2 : (V : Int) % 4294967296 = (low : Int) := by omega
      obtain ⟨x, hxx⟩ : ∃ x, x = dg R0 (off + k) := ⟨_, rfl⟩
      have hz : IntKind.u64.wrap (IntKind.u64.wrap ((dg R0 (off + k) : Int) - ((cv : Int) + (t : Int) * (dg DD k : Int)) % 4294967296) - (bv : Int)) = ((x : Int) - low - bv) % 18446744073709551616 := by
        rw [hcast, hlow2, ← hxx]; exact wrap_low _ _ _ (by omega) (by omega) hbv
      rw [← hxx] at hx
      go_roundw
      case rel =>
        refine ⟨k + 1, V / 4294967296, (low + bv + 4294967295 - x) / 4294967296, M ++ [x + 4294967296 * ((low + bv + 4294967295 - x) / 4294967296) - low - bv], by omega, by go_num, congrArg (Value.int .u64) (by rw [hcast]; omega), congrArg (Value.int .u64) (by rw [hz]; omega), by omega, by omega, hid (by rw [List.length_append, hM.out]; rfl), hok.snoc (by omega), hid ?_, ?_, grown_set hgr _ _⟩
        · rw [val_snoc, hM.out, P_succ, val_take_dg DD k (by omega), val_take_dg R k (by rw [HRl.out]; omega), HRd.out k (by omega), ← hxx]
          exact take_step (low := low) hval.out (by rw [← hV]; omega) (by omega)
        · have := hRw.set' (off + k) (x + 4294967296 * ((low + bv + 4294967295 - x) / 4294967296) - low - bv) (z := IntKind.u64.wrap (IntKind.u64.wrap ((dg R0 (off + k) : Int) - ((cv : Int) + (t : Int) * (dg DD k : Int)) % 4294967296) - (bv : Int)) % 4294967296) (by rw [hz]; omega)
          rw [set_mid _ R0 _ _ HN.out (by omega), List.append_assoc (R0.take off)] at this
          exact this
      case measure => simp [intOf]; omega
    · obtain rfl : k = n := by omega
      have hx2 : dg R k = dg R0 (off + k) := HRd.out k (by omega)
      obtain ⟨x, hxx⟩ : ∃ x, x = dg R0 (off + k) := ⟨_, rfl⟩
      have HXX := hid hxx
      have HX2 := hid hx2
      rw [← hxx] at hcur hx
      clear hxx hx2
      go_wp2
      have hz : IntKind.u64.wrap (IntKind.u64.wrap ((x : Int) - (cv : Int)) - (bv : Int)) = ((x : Int) - cv - bv) % 18446744073709551616 := wrap_low _ _ _ hx hcv hbv
      obtain ⟨o, ho⟩ : ∃ o, o = x + 4294967296 * ((cv + bv + 4294967295 - x) / 4294967296) - cv - bv := ⟨_, rfl⟩
      rw [flag_low x cv bv hx hcv hbv]
      go_ret
      refine ⟨M ++ [o], decide (x < cv + bv), rfl, by rw [List.length_append, hM.out]; rfl, hok.snoc (by omega), ?_, ?_, grown_set hgr _ _⟩
      · have := hRw.set' (off + k) o (z := IntKind.u64.wrap (IntKind.u64.wrap ((x : Int) - (cv : Int)) - (bv : Int)) % 4294967296) (by rw [hz]; omega)
        rw [set_mid _ R0 _ _ HN.out (by omega), List.append_assoc (R0.take off)] at this
        exact this
      · have e := val_take_dg R k (by rw [HRl.out]; omega)
        rw [List.take_of_length_le (by rw [HRl.out]; exact Nat.le_refl _), HX2.out, ← HXX.out] at e
        rw [← HRR.out, val_snoc, hM.out, e, P_succ]
        refine take_last hval.out ?_
        rw [ho]
        exact flag_o x cv bv hx hcv hbv
end Go.Proofs.YtldafoojkimdeaaDoor
