/- Walks: takeTimes, putBack. Walks: putBack. Walks: reduceRow. -/
import Derived.Test.YtldafoojkimdeaaDoorW5
import Derived.Test.YtldafoojkimdeaaDoorW13
import Derived.Test.YtldafoojkimdeaaDoorW16
namespace Go.Proofs.YtldafoojkimdeaaDoor
open Go.RowKit Lm

theorem grown_set {w wr : World} {g : Nat} (h : w.grownBy wr (some g)) (i : Nat) (u : Value) : w.grownBy (wr.setCell ⟨g, i, none⟩ u) (some g) :=
  ⟨h.os, h.tape, h.output, by have := h.size; simpa [World.setCell] using this, fun k hk hne => by
    rw [Below.heap_setCell _ _ _ _ (by intro e; exact hne (by rw [e]))]; exact h.block k hk hne⟩
theorem Rw.grown {w wr : World} {g gd : Nat} {D : List Nat} (h : Rw w gd D) (hg : w.grownBy wr (some g)) (hne : gd ≠ g) : Rw wr gd D :=
  ⟨by rw [hg.block gd h.lt (by simpa using hne)]; exact h.block⟩

theorem dg_sub (R0 : List Nat) (off n k : Nat) (h : k < n) : dg ((R0.drop off).take n) k = dg R0 (off + k) := by rw [dg_take _ _ _ h, dg_drop]
theorem len_sub (R0 : List Nat) (off n : Nat) (h : off + n ≤ R0.length) : ((R0.drop off).take n).length = n := by rw [List.length_take, List.length_drop]; omega

theorem take_step {p c bv t y x o low c' bv' s u v : Nat} (h : s + t * u = v + p * (c + bv)) (h1 : c + t * y = low + 4294967296 * c') (h2 : o + low + bv = x + 4294967296 * bv') :
    (s + p * o) + t * (u + p * y) = (v + p * x) + p * 4294967296 * (c' + bv') := by grind

theorem take_last {p c bv t u v s x o F : Nat} (h : s + t * u = v + p * (c + bv)) (ho : o + c + bv = x + 4294967296 * F) : (s + p * o) + t * u = (v + p * x) + p * 4294967296 * F := by grind
theorem flag_o (x c bv : Nat) (hx : x < 4294967296) (hc : c < 4294967296) (hb : bv ≤ 1) :
    x + 4294967296 * ((c + bv + 4294967295 - x) / 4294967296) - c - bv + c + bv = x + 4294967296 * (if decide (x < c + bv) = true then 1 else 0) := by
  by_cases h : x < c + bv
  · rw [decide_eq_true h, if_pos rfl]; omega
  · rw [decide_eq_false h, if_neg (by decide)]; omega
theorem flag_low (x cv bv : Nat) (hx : x < 4294967296) (hl : cv < 4294967296) (hb : bv ≤ 1) :
    (IntKind.u64.wrap (IntKind.u64.wrap ((x : Int) - (cv : Int)) - (bv : Int)) / 9223372036854775808 != 0) = decide (x < cv + bv) := by
  rw [IntKind.wrap_u64, IntKind.wrap_u64, Bool.eq_iff_iff, bne_iff_ne, decide_eq_true_iff]
  omega
theorem wrap_low (x : Nat) (low bv : Nat) (_hx : x < 4294967296) (_hl : low < 4294967296) (_hb : bv ≤ 1) :
    IntKind.u64.wrap (IntKind.u64.wrap ((x : Int) - (low : Int)) - (bv : Int)) = ((x : Int) - low - bv) % 18446744073709551616 := by
  rw [IntKind.wrap_u64, IntKind.wrap_u64]; omega

set_option maxRecDepth 100000 in
set_option maxHeartbeats 2000000 in
theorem take_any (g off n cr gd cd t : Nat) (R0 DD : List Nat) (w : World) (hR : Rw w g R0) (oR : Ok R0) (hD : Rw w gd DD) (oD : Ok DD) (hne : gd ≠ g) (hl : off + n + 1 ≤ R0.length) (hdl : n ≤ DD.length) (hn : n ≤ 5000) (_hoff : off ≤ 10000) (ht : t < 4294967296) :
    Calls Tryd.prog 127 #[.slice (some ⟨g, off, none⟩) (n + 1) cr, .slice (some ⟨gd, 0, none⟩) n cd, .int .u64 (t : Int)] w fun e w' => ∃ (M : List Nat) (f : Bool), e = .returned (.bool f) ∧ M.length = n + 1 ∧ Ok M ∧ Rw w' g (R0.take off ++ M ++ R0.drop (off + n + 1)) ∧
      val M + t * val (DD.take n) = val ((R0.drop off).take (n + 1)) + P (n + 1) * (if f then 1 else 0) ∧ w.grownBy w' (some g) := by
  obtain ⟨R, hRR⟩ : ∃ R, R = (R0.drop off).take (n + 1) := ⟨_, rfl⟩
  have hRl : R.length = n + 1 := by rw [hRR]; exact len_sub _ _ _ (by omega)
  have hRd : ∀ k, k < n + 1 → dg R k = dg R0 (off + k) := fun k hk => by rw [hRR]; exact dg_sub _ _ _ _ hk
  have HRR := hid hRR
  have HRl := hid hRl
  have HRd := hid hRd
  clear hRR hRl hRd
  go_enter Tryd.func127, Tryd.ntmps127
  go_wp2
  go_loopw [7, 8, 16] (fun c b i wr => ∃ (k cv bv : Nat) (M : List Nat), k ≤ n ∧ i = .int .i64 (k : Int) ∧ c = .int .u64 (cv : Int) ∧ b = .int .u64 (bv : Int) ∧ cv < 4294967296 ∧ bv ≤ 1 ∧ Hid (M.length = k) ∧ Ok M ∧
      Hid (val M + t * val (DD.take k) = val (R.take k) + P k * (cv + bv)) ∧ Rw wr g ((R0.take off ++ M) ++ R0.drop (off + k)) ∧ w.grownBy wr (some g)) (fun _ _ i _ => n - (intOf i).toNat)
  case atStart => exact ⟨0, 0, 0, [], by omega, rfl, rfl, rfl, by omega, by omega, hid rfl, Ok.nil, hid (by simp [val]), by rw [List.append_nil, Nat.add_zero, List.take_append_drop]; exact hR, World.grownBy.refl _ _⟩
  case round =>
    obtain ⟨k, cv, bv, M, hk, rfl, rfl, rfl, hcv, hbv, hM, hok, hval, hRw, hgr⟩ := hrel
    have hN : (R0.take off ++ M).length = off + k := by rw [List.length_append, List.length_take, hM.out]; omega
    have hlen : off + k < ((R0.take off ++ M) ++ R0.drop (off + k)).length := by rw [len_mid _ R0 _ hN (by omega)]; omega
    have hcur := hRw.cell (off + k) hlen
    rw [dg_mid _ R0 _ hN] at hcur
    have hfr := hRw.free (off + k)
    have hx := oR.dg (off + k)
    have HN := hid hN
    clear hlen hN
    by_cases hlt : k < n
    · have hy := oD.dg k
      have hcD := (hD.grown hgr hne).cell k (by omega)
      have hp : t * dg DD k ≤ 4294967295 * 4294967295 := Nat.mul_le_mul (by omega) (by omega)
      have hpi : (t : Int) * (dg DD k : Int) ≤ 18446744065119617025 := by have := Int.ofNat_le.2 hp; simpa using this
      have hpn : 0 ≤ (t : Int) * (dg DD k : Int) := Int.mul_nonneg (by omega) (by omega)
      have HP := hid hp
      clear hp
      go_wp2
      obtain ⟨V, hV⟩ : ∃ V, V = cv + t * dg DD k := ⟨_, rfl⟩
      have hcast : (cv : Int) + (t : Int) * (dg DD k : Int) = (V : Int) := by rw [hV]; simp [Int.natCast_mul]
      have hVs : V ≤ 18446744073709551615 := by have := HP.out; omega
      obtain ⟨low, hlow⟩ : ∃ low, low = V % 4294967296 := ⟨_, rfl⟩
      have hlow2 : (V : Int) % 4294967296 = (low : Int) := by omega
      obtain ⟨x, hxx⟩ : ∃ x, x = dg R0 (off + k) := ⟨_, rfl⟩
      have hz : IntKind.u64.wrap (IntKind.u64.wrap ((dg R0 (off + k) : Int) - ((cv : Int) + (t : Int) * (dg DD k : Int)) % 4294967296) - (bv : Int)) = ((x : Int) - low - bv) % 18446744073709551616 := by
        rw [hcast, hlow2, ← hxx]; exact wrap_low _ _ _ (by omega) (by omega) hbv
      rw [← hxx] at hx
      go_roundw
      case rel =>
        refine ⟨k + 1, V / 4294967296, (low + bv + 4294967295 - x) / 4294967296, M ++ [x + 4294967296 * ((low + bv + 4294967295 - x) / 4294967296) - low - bv], by omega, by go_num, congrArg (Value.int .u64) (by rw [hcast]; omega), congrArg (Value.int .u64) (by rw [hz]; omega), by omega, by omega, hid (by rw [List.length_append, hM.out]; rfl), hok.snoc (by omega), hid ?_, ?_, grown_set hgr _ _⟩
        · rw [val_snoc, hM.out, P_succ, val_take_dg DD k (by omega), val_take_dg R k (by rw [HRl.out]; omega), HRd.out k (by omega), ← hxx]
          exact take_step (low := low) hval.out (by rw [← hV]; omega) (by omega)
        · have := hRw.set' (off + k) (x + 4294967296 * ((low + bv + 4294967295 - x) / 4294967296) - low - bv) (z := IntKind.u64.wrap (IntKind.u64.wrap ((dg R0 (off + k) : Int) - ((cv : Int) + (t : Int) * (dg DD k : Int)) % 4294967296) - (bv : Int)) % 4294967296) (by rw [hz]; omega)
          rw [set_mid _ R0 _ _ HN.out (by omega), List.append_assoc (R0.take off)] at this
          exact this
      case measure => simp [intOf]; omega
    · obtain rfl : k = n := by omega
      have hx2 : dg R k = dg R0 (off + k) := HRd.out k (by omega)
      obtain ⟨x, hxx⟩ : ∃ x, x = dg R0 (off + k) := ⟨_, rfl⟩
      have HXX := hid hxx
      have HX2 := hid hx2
      rw [← hxx] at hcur hx
      clear hxx hx2
      go_wp2
      have hz : IntKind.u64.wrap (IntKind.u64.wrap ((x : Int) - (cv : Int)) - (bv : Int)) = ((x : Int) - cv - bv) % 18446744073709551616 := wrap_low _ _ _ hx hcv hbv
      obtain ⟨o, ho⟩ : ∃ o, o = x + 4294967296 * ((cv + bv + 4294967295 - x) / 4294967296) - cv - bv := ⟨_, rfl⟩
      rw [flag_low x cv bv hx hcv hbv]
      go_ret
      refine ⟨M ++ [o], decide (x < cv + bv), rfl, by rw [List.length_append, hM.out]; rfl, hok.snoc (by omega), ?_, ?_, grown_set hgr _ _⟩
      · have := hRw.set' (off + k) o (z := IntKind.u64.wrap (IntKind.u64.wrap ((x : Int) - (cv : Int)) - (bv : Int)) % 4294967296) (by rw [hz]; omega)
        rw [set_mid _ R0 _ _ HN.out (by omega), List.append_assoc (R0.take off)] at this
        exact this
      · have e := val_take_dg R k (by rw [HRl.out]; omega)
        rw [List.take_of_length_le (by rw [HRl.out]; exact Nat.le_refl _), HX2.out, ← HXX.out] at e
        rw [← HRR.out, val_snoc, hM.out, e, P_succ]
        refine take_last hval.out ?_
        rw [ho]
        exact flag_o x cv bv hx hcv hbv
end Go.Proofs.YtldafoojkimdeaaDoor

namespace Go.Proofs.YtldafoojkimdeaaDoor
open Go.RowKit Lm

theorem put_step {p c x y o c' s t u : Nat} (h : s + p * c = t + u) (he : c + (x + y) = o + 4294967296 * c') :
    (s + p * o) + p * 4294967296 * c' = (t + p * x) + (u + p * y) := by grind
theorem put_last {p c x o c' s t u : Nat} (h : s + p * c = t + u) (he : x + c = o + 4294967296 * c') :
    (s + p * o) + p * 4294967296 * c' = (t + p * x) + u := by grind

set_option maxRecDepth 100000 in
set_option maxHeartbeats 2000000 in
theorem putBack_any (g off n cr gd cd : Nat) (R0 DD : List Nat) (w : World) (hR : Rw w g R0) (oR : Ok R0) (hD : Rw w gd DD) (oD : Ok DD) (hne : gd ≠ g) (hl : off + n + 1 ≤ R0.length) (hdl : n ≤ DD.length) (hn : n ≤ 5000) (_hoff : off ≤ 10000) :
    Calls Tryd.prog 128 #[.slice (some ⟨g, off, none⟩) (n + 1) cr, .slice (some ⟨gd, 0, none⟩) n cd] w fun e w' => ∃ (M : List Nat) (ov : Nat), e = .returned (.tuple #[]) ∧ M.length = n + 1 ∧ Ok M ∧ Rw w' g (R0.take off ++ M ++ R0.drop (off + n + 1)) ∧
      val M + P (n + 1) * ov = val ((R0.drop off).take (n + 1)) + val (DD.take n) ∧ w.grownBy w' (some g) := by
  obtain ⟨R, hRR⟩ : ∃ R, R = (R0.drop off).take (n + 1) := ⟨_, rfl⟩
  have hRl : R.length = n + 1 := by rw [hRR]; exact len_sub _ _ _ (by omega)
  have hRd : ∀ k, k < n + 1 → dg R k = dg R0 (off + k) := fun k hk => by rw [hRR]; exact dg_sub _ _ _ _ hk
  have HRR := hid hRR
  have HRl := hid hRl
  have HRd := hid hRd
  clear hRR hRl hRd
  go_enter Tryd.func128, Tryd.ntmps128
  go_wp2
  go_loopw [4, 9] (fun c i wr => ∃ (k cv : Nat) (M : List Nat), k ≤ n ∧ i = .int .i64 (k : Int) ∧ c = .int .u64 (cv : Int) ∧ cv ≤ 1 ∧ Hid (M.length = k) ∧ Ok M ∧
      Hid (val M + P k * cv = val (R.take k) + val (DD.take k)) ∧ Rw wr g ((R0.take off ++ M) ++ R0.drop (off + k)) ∧ w.grownBy wr (some g)) (fun _ i _ => n - (intOf i).toNat)
  case atStart => exact ⟨0, 0, [], by omega, rfl, rfl, by omega, hid rfl, Ok.nil, hid (by simp [val]), by rw [List.append_nil, Nat.add_zero, List.take_append_drop]; exact hR, World.grownBy.refl _ _⟩
  case round =>
    obtain ⟨k, cv, M, hk, rfl, rfl, hcv, hM, hok, hval, hRw, hgr⟩ := hrel
    have hN : (R0.take off ++ M).length = off + k := by rw [List.length_append, List.length_take, hM.out]; omega
    have hlen : off + k < ((R0.take off ++ M) ++ R0.drop (off + k)).length := by rw [len_mid _ R0 _ hN (by omega)]; omega
    have hcur := hRw.cell (off + k) hlen
    rw [dg_mid _ R0 _ hN] at hcur
    have hfr := hRw.free (off + k)
    have hx := oR.dg (off + k)
    have HN := hid hN
    have HX2 := hid (HRd.out k (by omega))
    clear hlen hN
    generalize dg R0 (off + k) = x at *
    by_cases hlt : k < n
    · have hy := oD.dg k
      have hcD := (hD.grown hgr hne).cell k (by omega)
      go_wp2
      go_roundw
      case rel =>
        refine ⟨k + 1, (cv + (x + dg DD k)) / 4294967296, M ++ [(cv + (x + dg DD k)) % 4294967296], by omega, by go_num, congrArg (Value.int .u64) (by omega), by omega, hid (by rw [List.length_append, hM.out]; rfl), hok.snoc (by omega), hid ?_, ?_, grown_set hgr _ _⟩
        · rw [val_snoc, hM.out, P_succ, val_take_dg DD k (by omega), val_take_dg R k (by rw [HRl.out]; omega), HX2.out]
          exact put_step hval.out (by omega)
        · have := hRw.set' (off + k) ((cv + (x + dg DD k)) % 4294967296) (z := ((cv : Int) + ((x : Int) + (dg DD k : Int))) % 4294967296) (by omega)
          rw [set_mid _ R0 _ _ HN.out (by omega), List.append_assoc (R0.take off)] at this
          exact this
      case measure => simp [intOf]; omega
    · obtain rfl : k = n := by omega
      go_wp2
      go_end0
      refine ⟨M ++ [(x + cv) % 4294967296], (x + cv) / 4294967296, rfl, by rw [List.length_append, hM.out]; rfl, hok.snoc (by omega), ?_, ?_, grown_set hgr _ _⟩
      · have := hRw.set' (off + k) ((x + cv) % 4294967296) (z := ((x : Int) + (cv : Int)) % 4294967296) (by omega)
        rw [set_mid _ R0 _ _ HN.out (by omega), List.append_assoc (R0.take off)] at this
        exact this
      · have e := val_take_dg R k (by rw [HRl.out]; omega)
        rw [List.take_of_length_le (by rw [HRl.out]; exact Nat.le_refl _), HX2.out] at e
        rw [← HRR.out, val_snoc, hM.out, e, P_succ]
        exact put_last hval.out (by omega)
end Go.Proofs.YtldafoojkimdeaaDoor

namespace Go.Proofs.YtldafoojkimdeaaDoor
open Go.RowKit Lm

theorem Rw.drewN {w : World} {g : Nat} {L : List Nat} (h : Rw w g L) (q : Nat) : Rw (w.drewN q) g L := ⟨h.block⟩
theorem ungrow {w w' : World} {q : Nat} {row : Option Nat} (h : (w.drewN q).grownBy w' row) : w.grownBy w' row := ⟨h.os, h.tape, h.output, h.size, h.block⟩
theorem grown_trans {w a b : World} {g : Nat} (h : w.grownBy a (some g)) (k : a.grownBy b (some g)) : w.grownBy b (some g) :=
  ⟨k.os.trans h.os, k.tape.trans h.tape, k.output.trans h.output, Nat.le_trans h.size k.size, fun i hi hne => (k.block i (Nat.lt_of_lt_of_le hi h.size) hne).trans (h.block i hi hne)⟩

/-- No borrow was left: the guess is the quotient. -/
theorem red_no {X Y t M : Nat} (hY : 0 < Y) (h1 : X / Y ≤ t) (h : M + t * Y = X) : t = X / Y ∧ M = X % Y := by
  have h2 : t ≤ X / Y := (Nat.le_div_iff_mul_le hY).2 (by omega)
  have h3 : t = X / Y := by omega
  refine ⟨h3, ?_⟩
  have := Nat.div_add_mod' X Y
  rw [← h3] at this; omega
/-- A borrow was left: the guess is once too great. -/
theorem red_yes {X Y t M M2 p ov : Nat} (hY : 0 < Y) (hYp : Y < p) (h1 : X / Y ≤ t) (h2 : t ≤ X / Y + 1) (hM : M < p) (hM2 : M2 < p) (h : M + t * Y = X + p) (h3 : M2 + p * ov = M + Y) : t - 1 = X / Y ∧ 1 ≤ t ∧ M2 = X % Y := by
  have e := Nat.div_add_mod' X Y
  have hr := Nat.mod_lt X hY
  have ht : t = X / Y + 1 := by
    rcases Nat.lt_or_ge (X / Y) t with k | k
    · omega
    · have : t = X / Y := by omega
      rw [this] at h; omega
  rw [ht, Nat.add_mul, Nat.one_mul] at h
  have h4 : M2 + p * ov = X % Y + p := by omega
  have ht1 : t - 1 = X / Y := by rw [ht]; rfl
  have ht2 : 1 ≤ t := by rw [ht]; exact Nat.le_add_left _ _
  refine ⟨ht1, ht2, ?_⟩
  clear ht ht1 ht2 h h1 h2 e h3
  generalize X % Y = r at *
  match ov, h4 with
  | 0, h4 => omega
  | 1, h4 => omega
  | k + 2, h4 => rw [Nat.mul_add] at h4; omega

theorem mid_cut (R0 M : List Nat) (off k : Nat) (hM : M.length = k) (hl : off + k ≤ R0.length) : ((R0.take off ++ M ++ R0.drop (off + k)).drop off).take k = M := by
  rw [List.append_assoc, List.drop_append_of_le_length (by rw [List.length_take]; omega), List.drop_eq_nil_of_le (by rw [List.length_take]; omega), List.nil_append, List.take_append_of_le_length (by omega), List.take_of_length_le (by omega)]
theorem mid_take (R0 M : List Nat) (off k : Nat) (hl : off ≤ R0.length) : (R0.take off ++ M ++ R0.drop (off + k)).take off = R0.take off := by
  rw [List.append_assoc, List.take_append_of_le_length (by rw [List.length_take]; omega), List.take_of_length_le (by rw [List.length_take]; omega)]
theorem mid_drop (R0 M : List Nat) (off k : Nat) (hM : M.length = k) (hl : off + k ≤ R0.length) : (R0.take off ++ M ++ R0.drop (off + k)).drop (off + k) = R0.drop (off + k) := by
  rw [List.drop_append_of_le_length (by rw [List.length_append, List.length_take]; omega), List.drop_eq_nil_of_le (by rw [List.length_append, List.length_take]; omega), List.nil_append]
theorem mid_len (R0 M : List Nat) (off k : Nat) (hM : M.length = k) (hl : off + k ≤ R0.length) : (R0.take off ++ M ++ R0.drop (off + k)).length = R0.length := by
  rw [List.length_append, List.length_append, List.length_take, List.length_drop]; omega

set_option maxRecDepth 100000 in
set_option maxHeartbeats 2000000 in
theorem reduce_any (g off m cr gd cd : Nat) (R0 DD : List Nat) (w : World) (hR : Rw w g R0) (oR : Ok R0) (hD : Rw w gd DD) (oD : Ok DD) (hne : gd ≠ g) (hl : off + (m + 2) + 1 ≤ R0.length) (hdl : m + 2 ≤ DD.length) (hn : m ≤ 4000) (hoff : off ≤ 10000)
    (hcr : m + 3 ≤ cr) (hcr2 : cr ≤ 70368744177664) (hcd : m + 2 ≤ cd) (hcd2 : cd ≤ 70368744177664)
    (hh : 2147483648 ≤ dg DD (m + 1)) (hlt : val ((R0.drop off).take (m + 3)) < val (DD.take (m + 2)) * 4294967296) :
    Calls Tryd.prog 116 #[.slice (some ⟨g, off, none⟩) (m + 3) cr, .slice (some ⟨gd, 0, none⟩) (m + 2) cd] w fun e w' => ∃ (M : List Nat), e = .returned (.int .u32 ((val ((R0.drop off).take (m + 3)) / val (DD.take (m + 2)) : Nat) : Int)) ∧ M.length = m + 3 ∧ Ok M ∧ Rw w' g (R0.take off ++ M ++ R0.drop (off + (m + 3))) ∧
      val M = val ((R0.drop off).take (m + 3)) % val (DD.take (m + 2)) ∧ w.grownBy w' (some g) := by
  have hRr := hR.rd oR off (m + 3) cr (by omega) hcr hcr2
  have hDr := hD.rd oD 0 (m + 2) cd (by omega) hcd hcd2
  rw [List.drop_zero] at hDr
  have hh' : 2147483648 ≤ dg (DD.take (m + 2)) (m + 1) := by rw [dg_take _ _ _ (by omega)]; exact hh
  have hDlt := val_lt (oD.take (m + 2))
  rw [List.length_take, Nat.min_eq_left hdl] at hDlt
  have hPlt : P (m + 2) < P (m + 3) := by rw [P_succ (m + 2)]; have := P_pos (m + 2); omega
  have hD0 : 0 < val (DD.take (m + 2)) := by
    have := val_take_dg (DD.take (m + 2)) (m + 1) (by rw [List.length_take]; omega)
    rw [List.take_of_length_le (by rw [List.length_take]; omega)] at this
    have h2 : 0 < P (m + 1) * dg (DD.take (m + 2)) (m + 1) := Nat.mul_pos (P_pos _) (by omega)
    omega
  have hqs : val ((R0.drop off).take (m + 3)) / val (DD.take (m + 2)) < 4294967296 := by
    rw [Nat.div_lt_iff_lt_mul hD0, Nat.mul_comm]; exact hlt
  have HDP := hid (show val (DD.take (m + 2)) < P (m + 2 + 1) by exact Nat.lt_trans hDlt hPlt)
  have HQS := hid hqs
  have HD0 := hid hD0
  have HLT := hid hlt
  have HH := hid hh'
  clear hDlt hPlt hD0 hqs hlt hh hh'
  go_enter Tryd.func116, Tryd.ntmps116
  go_wp2_with (first
    | (go_at_call 126; refine (guess_any _ _ _ _ _ (DD.take (m + 2)) m _ hRr hDr (by omega) HH.out HLT.out).mono ?_; rintro e w1 ⟨t, rfl, ht, hq1, hq2, q, rfl⟩)
    | (go_at_call 127; refine (take_any g off (m + 2) _ gd _ t R0 DD _ (hR.drewN q) oR (hD.drewN q) oD hne (by omega) (by omega) (by omega) hoff ht).mono ?_; rintro e w2 ⟨M, f, rfl, hM, hok, hR2, hval, hg2⟩; have HM := hid hM; have HV := hid hval; clear hM hval)
    | (go_at_call 128; refine (putBack_any g off (m + 2) _ gd _ _ DD _ hR2 ?_ (hD.grown (ungrow hg2) hne) oD hne ?_ (by omega) (by omega) hoff).mono ?_))
  · exact ((oR.take _).append hok).append (oR.drop _)
  · rw [show off + (m + 2) + 1 = off + (m + 3) from rfl, mid_len R0 M off (m + 3) HM.out (by omega)]; exact hl
  · rintro e w3 ⟨M2, ov, rfl, hM2, hok2, hR3, hval2, hg3⟩
    have e1 : off + (m + 2) + 1 = off + (m + 3) := rfl
    have e2 : m + 2 + 1 = m + 3 := rfl
    rw [e1, e2] at hval2
    rw [e1] at hR3
    rw [mid_cut R0 M off (m + 3) HM.out (by omega)] at hval2
    rw [mid_take R0 M off (m + 3) (by omega), mid_drop R0 M off (m + 3) HM.out (by omega)] at hR3
    have hv := HV.out
    have hf : f = true := by assumption
    rw [hf, if_pos rfl, Nat.mul_one] at hv
    have hMl := val_lt hok
    rw [HM.out] at hMl
    have hM2l := val_lt hok2
    rw [hM2] at hM2l
    have hr := red_yes HD0.out HDP.out hq1 hq2 hMl hM2l hv hval2
    have HRed := hid hr
    have HM2 := hid hM2
    clear hr hv hval2 hMl hM2l hM2 hq1 hq2
    have ht1 := HRed.out.2.1
    go_wp2
    go_ret
    refine ⟨M2, ?_, HM2.out, hok2, hR3, HRed.out.2.2, grown_trans (ungrow hg2) hg3⟩
    rw [← HRed.out.1]
    exact congrArg (fun z => Ending.returned (.int .u32 z)) (by omega)
  · have hv := HV.out
    have hf : f = false := by assumption
    rw [hf, if_neg (by decide), Nat.mul_zero, Nat.add_zero] at hv
    have hr := red_no HD0.out hq1 hv
    go_ret
    refine ⟨M, ?_, HM.out, hok, hR2, hr.2, ungrow hg2⟩
    rw [← hr.1]
    rfl
end Go.Proofs.YtldafoojkimdeaaDoor
