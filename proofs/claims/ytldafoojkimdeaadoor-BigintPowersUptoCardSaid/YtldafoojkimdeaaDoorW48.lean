/- Walks: shiftDown. -/
import Derived.Test.YtldafoojkimdeaaDoorDivp
import Derived.Test.YtldafoojkimdeaaDoorW15
import Derived.Test.YtldafoojkimdeaaDoorW20
import Derived.Test.YtldafoojkimdeaaDoorW40
namespace Go.Proofs.YtldafoojkimdeaaDoor
open Go.RowKit Lm

theorem tl_len_zero (L : List Nat) : ¬ 0 < (tl L).length ↔ val L = 0 := by
  constructor
  · intro h
    have e : tl L = [] := List.eq_nil_of_length_eq_zero (by omega)
    rw [← tl_val L, e]; rfl
  · intro h
    have := top_zero (tl_top L) (by rw [tl_val]; exact h)
    rw [this]; simp

theorem mask32 (x p : Nat) (hx : x < 4294967296) (hp : p < 32) : bits .and .u32 (x : Int) ((2 ^ p - 1) % 4294967296) = ((x % 2 ^ p : Nat) : Int) := by
  have h1 : 2 ^ p ≤ 2147483648 := two_pow_le hp
  have h0 : 0 < 2 ^ p := Nat.two_pow_pos p
  have e : ((2 : Int) ^ p - 1) % 4294967296 = ((2 ^ p - 1 : Nat) : Int) := by
    have e2 : ((2 : Int) ^ p) = ((2 ^ p : Nat) : Int) := by simp
    rw [e2]; omega
  rw [e, and32 _ _ hx (by omega), Nat.and_two_pow_sub_one_eq_mod]

theorem high_join (H x : Nat) (hx : x < 4294967296) : bits .or .u64 (IntKind.u64.wrap ((H : Int) * 4294967296)) (x : Int) = ((H % 4294967296 * 4294967296 + x : Nat) : Int) := by
  rw [show IntKind.u64.wrap ((H : Int) * 4294967296) = ((H % 4294967296 : Nat) : Int) * 4294967296 by rw [IntKind.wrap_u64]; omega]
  exact or_join _ _ (Nat.mod_lt _ (by decide)) hx

/-- What 'shiftDown' answers. -/
def Downs (w' : World) (A : List Nat) (n la : Nat) (so : Option Addr) (sl sc : Nat) (b : Bool) : Prop :=
  ∃ S, Rd w' so sl sc S ∧ val S = val A / 2 ^ n ∧ sl ≤ la ∧ (b = true ↔ val A % 2 ^ n ≠ 0)

set_option maxRecDepth 100000 in
set_option maxHeartbeats 2000000 in
theorem shiftDown_all (aa : Option Addr) (la ca : Nat) (A : List Nat) (n : Nat) (w : World) (hA : Rd w aa la ca A) (hsa : la ≤ 5000) (hn : n ≤ 9223372036854775807) (hw : la ≤ n / 32) :
    Calls Tryd.prog 110 #[.slice aa la ca, .int .i64 (n : Int)] w fun e w' => ∃ so sl sc b, e = .returned (.tuple #[.slice so sl sc, .bool b]) ∧ Downs w' A n la so sl sc b ∧ Below w.heap.size w w' := by
  have hlt : val A < 2 ^ n := by
    have h1 := val_lt hA.ok
    rw [P_two, hA.size] at h1
    exact Nat.lt_of_lt_of_le h1 (Nat.pow_le_pow_right (by decide) (by omega))
  have HLT := hid hlt
  clear hlt
  go_enter Tryd.func110, Tryd.ntmps110
  go_wp2_with (go_at_call 71; refine (trim_any _ _ _ A _ hA).mono ?_; rintro e w5 ⟨rfl, rfl⟩)
  go_ret2
  refine ⟨none, 0, 0, _, rfl, ⟨[], ⟨rfl, Ok.nil, Nat.le_refl _, by omega, fun h => by omega⟩, ?_, by omega, ?_⟩, Below.refl _ _⟩
  · rw [Nat.div_eq_of_lt HLT.out]; rfl
  · rw [Nat.mod_eq_of_lt HLT.out, ne_eq, ← tl_len_zero, Decidable.not_not]
    simp only [decide_eq_true_eq]

set_option maxRecDepth 100000 in
set_option maxHeartbeats 2000000 in
theorem shiftDown_some (aa : Option Addr) (la ca : Nat) (A : List Nat) (n : Nat) (w : World) (hA : Rd w aa la ca A) (hsa : la ≤ 5000) (hn : n ≤ 9223372036854775807) (hw : n / 32 < la) :
    Calls Tryd.prog 110 #[.slice aa la ca, .int .i64 (n : Int)] w fun e w' => ∃ so sl sc b, e = .returned (.tuple #[.slice so sl sc, .bool b]) ∧ Downs w' A n la so sl sc b ∧ Below w.heap.size w w' := by
  obtain ⟨i0, hi, hz0, hz1, hz2⟩ := info_parts Tryd.info43
  have hla := hid hA.size
  have hcap := hA.room
  have hT := hA.take (n := n / 32) (by omega)
  obtain ⟨ba, off, rfl, hc⟩ := hA.cells (by omega)
  have hcell := hc (n / 32) hw
  have hx := hA.ok.dg (n / 32)
  obtain ⟨x, hxx⟩ : ∃ x, x = dg A (n / 32) := ⟨_, rfl⟩
  rw [← hxx] at hcell hx
  have HXX := hid hxx
  clear hxx hc
  have hp := Nat.mod_lt n (show 0 < 32 by decide)
  obtain ⟨y, hy⟩ : ∃ y, y = x % 2 ^ (n % 32) := ⟨_, rfl⟩
  have hmask := mask32 x (n % 32) hx hp
  rw [← hy] at hmask
  have HY := hid hy
  clear hy
  have hlost := lost_mod A hA.ok (n / 32) (n % 32) (by rw [hla.out]; exact hw) (by omega)
  rw [show 32 * (n / 32) + n % 32 = n by omega, ← HXX.out, ← HY.out] at hlost
  have hquo := shift_split A hA.ok (n / 32) (n % 32) (by rw [hla.out]; omega)
  rw [show 32 * (n / 32) + n % 32 = n by omega] at hquo
  have HLO := hid hlost
  have HQU := hid hquo
  clear hlost hquo
  have hbt : ((decide (0 < (tl (A.take (n / 32))).length) || ((y : Int) != 0)) = true) ↔ val A % 2 ^ n ≠ 0 := by
    rw [HLO.out]
    have h1 := tl_len_zero (A.take (n / 32))
    have h2 := P_pos (n / 32)
    simp only [Bool.or_eq_true, decide_eq_true_eq, bne_iff_ne, ne_eq]
    by_cases hz : val (A.take (n / 32)) = 0
    · rw [hz, Nat.zero_add, Nat.mul_eq_zero]
      have := h1.2 hz
      omega
    · have h3 : 0 < (tl (A.take (n / 32))).length := by
        by_cases h4 : 0 < (tl (A.take (n / 32))).length
        · exact h4
        · exact absurd (h1.1 h4) hz
      simp [h3]; omega
  have hm : la - n / 32 + n / 32 = la := by omega
  by_cases ht : 0 < (tl (A.take (n / 32))).length
  · have HBT : Hid (true = true ↔ val A % 2 ^ n ≠ 0) := by rw [decide_eq_true ht, Bool.true_or] at hbt; exact hid hbt
    clear hbt
    go_enter Tryd.func110, Tryd.ntmps110
    go_wp2_with (first
      | (go_at_call 71; refine (trim_any _ _ _ (A.take (n / 32)) _ hT).mono ?_; rintro e w5 ⟨rfl, rfl⟩)
      | (at_make; refine wpList_make_full _ rfl _ _ 22 rfl w.heap.size 43 i0 (.int .u32 0) 1 Tryd.underlying22 hi hz0 hz1 .i64 .i64 _ _ (la - n / 32) rfl rfl (by omega) (by omega) ?c1 ?c2 ?c3 ?_))
    case c1 => rw [hz2]; omega
    case c2 => unfold maxLen; omega
    case c3 => simp
    intro w1 hown hgrow
    have hrow : Rw w1 w.heap.size (List.replicate (la - n / 32) 0) := Rw.of_own hown (made_zeros _ _ (by omega))
    have hbel : Below w.heap.size w w1 := (Below.refl _ _).grown hgrow (Nat.le_refl _) (by intro k hk; simp at hk)
    clear hown hgrow hi hz0 hz1 hz2 hmask ht
    go_wp2
    go_loopw [10, 11] (fun c i wr => ∃ (k H : Nat) (Q : List Nat), k ≤ la - n / 32 ∧ i = .int .i64 ((k : Int) - 1) ∧ c = .int .u64 (H : Int) ∧ H < 18446744073709551616 ∧ Hid (H % 4294967296 = dg A (n / 32 + k)) ∧ Hid (Q.length = la - n / 32 - k) ∧ Ok Q ∧
        Hid (val Q = val (A.drop (n / 32 + k)) / 2 ^ (n % 32)) ∧ Rw wr w.heap.size (List.replicate k 0 ++ Q) ∧ Below w.heap.size w wr) (fun _ i _ => (intOf i + 1).toNat)
    case atStart => exact ⟨la - n / 32, 0, [], by omega, by go_num, rfl, by decide, hid (by rw [Nat.add_comm, hm]; unfold dg; rw [getD_out _ _ (by rw [hla.out]; exact Nat.le_refl _)]), hid (by simp), Ok.nil, hid (by rw [Nat.add_comm, hm, List.drop_eq_nil_of_le (by rw [hla.out]; exact Nat.le_refl _)]; simp [val]), by simpa using hrow, hbel⟩
    case round =>
      obtain ⟨k, H, Q, hk, rfl, rfl, hH, hHd, hQ, hok, hval, hR, hB1⟩ := hrel
      clear hrow hbel hcell
      cases k with
      | zero =>
        have hv := hval.out
        rw [Nat.add_zero] at hv
        have HV := hid hv
        clear hv
        go_wp2
        go_ret2
        refine ⟨some ⟨w.heap.size, 0, none⟩, la - n / 32, la - n / 32, _, rfl, ⟨Q, ?_, ?_, by omega, (by first | exact HBT.out | simpa using HBT.out)⟩, hB1⟩
        · have hRd := (show Rw wr w.heap.size Q by simpa using hR).whole hok (la - n / 32) (by rw [hQ.out]; omega) (by omega)
          have hql : Q.length = la - n / 32 := by rw [hQ.out]; omega
          rwa [hql] at hRd
        · rw [HV.out, HQU.out]
      | succ j =>
        obtain ⟨ba', off', hae, hc⟩ := (hA.keep hB1).cells (by omega)
        simp only [Option.some.injEq, Addr.mk.injEq, and_true] at hae
        obtain ⟨hae1, hae2⟩ := hae
        subst hae1 hae2
        have hcell := hc (n / 32 + j) (by omega)
        have hxj := hA.ok.dg (n / 32 + j)
        have hfr := hR.free j
        have hsz : j < (List.replicate (j + 1) 0 ++ Q).length := by rw [List.length_append, List.length_replicate]; omega
        have hcur := hR.cell j hsz
        clear hc hsz
        have hj := high_join H (dg A (n / 32 + j)) hxj
        obtain ⟨V, hV⟩ : ∃ V, V = H % 4294967296 * 4294967296 + dg A (n / 32 + j) := ⟨_, rfl⟩
        rw [← hV] at hj
        have HVV := hid hV
        have hVl : V < 18446744073709551616 := by omega
        have hVm : V % 4294967296 = dg A (n / 32 + j) := by omega
        clear hV
        go_wp2
        go_roundw
        case rel =>
          refine ⟨j, V, V / 2 ^ (n % 32) % 4294967296 :: Q, by omega, rfl, rfl, hVl, hid hVm, hid (by rw [List.length_cons, hQ.out]; omega), hok.cons (Nat.mod_lt _ (by decide)), hid ?_, ?_, hB1.setCell (Nat.le_refl _) _⟩
          · rw [val_cons, hval.out, val_drop_succ A (n / 32 + j) (by rw [hla.out]; omega), HVV.out]
            refine (down_step (by omega) _ _ _ hxj ?_).symm
            have h5 := val_mod_dg (A.drop (n / 32 + (j + 1))) (hA.ok.drop _)
            rw [h5, dg_drop, Nat.add_zero, hHd.out]
          · have := hR.set' j (V / 2 ^ (n % 32) % 4294967296) (z := (V : Int) / 2 ^ (n % 32) % 4294967296) (by simp)
            rwa [set_low] at this
        case measure => simp [intOf]
  · have HBT : Hid (((y : Int) != 0) = true ↔ val A % 2 ^ n ≠ 0) := by rw [decide_eq_false ht, Bool.false_or] at hbt; exact hid hbt
    clear hbt
    go_enter Tryd.func110, Tryd.ntmps110
    go_wp2_with (first
      | (go_at_call 71; refine (trim_any _ _ _ (A.take (n / 32)) _ hT).mono ?_; rintro e w5 ⟨rfl, rfl⟩)
      | (at_make; refine wpList_make_full _ rfl _ _ 22 rfl w.heap.size 43 i0 (.int .u32 0) 1 Tryd.underlying22 hi hz0 hz1 .i64 .i64 _ _ (la - n / 32) rfl rfl (by omega) (by omega) ?c1 ?c2 ?c3 ?_))
    case c1 => rw [hz2]; omega
    case c2 => unfold maxLen; omega
    case c3 => simp
    intro w1 hown hgrow
    have hrow : Rw w1 w.heap.size (List.replicate (la - n / 32) 0) := Rw.of_own hown (made_zeros _ _ (by omega))
    have hbel : Below w.heap.size w w1 := (Below.refl _ _).grown hgrow (Nat.le_refl _) (by intro k hk; simp at hk)
    clear hown hgrow hi hz0 hz1 hz2 hmask ht
    go_wp2
    go_loopw [10, 11] (fun c i wr => ∃ (k H : Nat) (Q : List Nat), k ≤ la - n / 32 ∧ i = .int .i64 ((k : Int) - 1) ∧ c = .int .u64 (H : Int) ∧ H < 18446744073709551616 ∧ Hid (H % 4294967296 = dg A (n / 32 + k)) ∧ Hid (Q.length = la - n / 32 - k) ∧ Ok Q ∧
        Hid (val Q = val (A.drop (n / 32 + k)) / 2 ^ (n % 32)) ∧ Rw wr w.heap.size (List.replicate k 0 ++ Q) ∧ Below w.heap.size w wr) (fun _ i _ => (intOf i + 1).toNat)
    case atStart => exact ⟨la - n / 32, 0, [], by omega, by go_num, rfl, by decide, hid (by rw [Nat.add_comm, hm]; unfold dg; rw [getD_out _ _ (by rw [hla.out]; exact Nat.le_refl _)]), hid (by simp), Ok.nil, hid (by rw [Nat.add_comm, hm, List.drop_eq_nil_of_le (by rw [hla.out]; exact Nat.le_refl _)]; simp [val]), by simpa using hrow, hbel⟩
    case round =>
      obtain ⟨k, H, Q, hk, rfl, rfl, hH, hHd, hQ, hok, hval, hR, hB1⟩ := hrel
      clear hrow hbel hcell
      cases k with
      | zero =>
        have hv := hval.out
        rw [Nat.add_zero] at hv
        have HV := hid hv
        clear hv
        go_wp2
        go_ret2
        refine ⟨some ⟨w.heap.size, 0, none⟩, la - n / 32, la - n / 32, _, rfl, ⟨Q, ?_, ?_, by omega, (by first | exact HBT.out | simpa using HBT.out)⟩, hB1⟩
        · have hRd := (show Rw wr w.heap.size Q by simpa using hR).whole hok (la - n / 32) (by rw [hQ.out]; omega) (by omega)
          have hql : Q.length = la - n / 32 := by rw [hQ.out]; omega
          rwa [hql] at hRd
        · rw [HV.out, HQU.out]
      | succ j =>
        obtain ⟨ba', off', hae, hc⟩ := (hA.keep hB1).cells (by omega)
        simp only [Option.some.injEq, Addr.mk.injEq, and_true] at hae
        obtain ⟨hae1, hae2⟩ := hae
        subst hae1 hae2
        have hcell := hc (n / 32 + j) (by omega)
        have hxj := hA.ok.dg (n / 32 + j)
        have hfr := hR.free j
        have hsz : j < (List.replicate (j + 1) 0 ++ Q).length := by rw [List.length_append, List.length_replicate]; omega
        have hcur := hR.cell j hsz
        clear hc hsz
        have hj := high_join H (dg A (n / 32 + j)) hxj
        obtain ⟨V, hV⟩ : ∃ V, V = H % 4294967296 * 4294967296 + dg A (n / 32 + j) := ⟨_, rfl⟩
        rw [← hV] at hj
        have HVV := hid hV
        have hVl : V < 18446744073709551616 := by omega
        have hVm : V % 4294967296 = dg A (n / 32 + j) := by omega
        clear hV
        go_wp2
        go_roundw
        case rel =>
          refine ⟨j, V, V / 2 ^ (n % 32) % 4294967296 :: Q, by omega, rfl, rfl, hVl, hid hVm, hid (by rw [List.length_cons, hQ.out]; omega), hok.cons (Nat.mod_lt _ (by decide)), hid ?_, ?_, hB1.setCell (Nat.le_refl _) _⟩
          · rw [val_cons, hval.out, val_drop_succ A (n / 32 + j) (by rw [hla.out]; omega), HVV.out]
            refine (down_step (by omega) _ _ _ hxj ?_).symm
            have h5 := val_mod_dg (A.drop (n / 32 + (j + 1))) (hA.ok.drop _)
            rw [h5, dg_drop, Nat.add_zero, hHd.out]
          · have := hR.set' j (V / 2 ^ (n % 32) % 4294967296) (z := (V : Int) / 2 ^ (n % 32) % 4294967296) (by simp)
            rwa [set_low] at this
        case measure => simp [intOf]

theorem shiftDown_any (aa : Option Addr) (la ca : Nat) (A : List Nat) (n : Nat) (w : World) (hA : Rd w aa la ca A) (hsa : la ≤ 5000) (hn : n ≤ 9223372036854775807) :
    Calls Tryd.prog 110 #[.slice aa la ca, .int .i64 (n : Int)] w fun e w' => ∃ so sl sc b, e = .returned (.tuple #[.slice so sl sc, .bool b]) ∧ Downs w' A n la so sl sc b ∧ Below w.heap.size w w' := by
  rcases Nat.lt_or_ge (n / 32) la with h | h
  · exact shiftDown_some aa la ca A n w hA hsa hn h
  · exact shiftDown_all aa la ca A n w hA hsa hn h
end Go.Proofs.YtldafoojkimdeaaDoor
