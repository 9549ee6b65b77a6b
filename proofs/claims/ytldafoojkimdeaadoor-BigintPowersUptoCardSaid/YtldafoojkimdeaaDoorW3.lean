/- Walks: limbs from a word, sums. -/
import Derived.Test.YtldafoojkimdeaaDoorW2
namespace Go.Proofs.YtldafoojkimdeaaDoor
open Go.RowKit Lm

set_option maxHeartbeats 400000 in
theorem limbsOf_any (n : Nat) (w : World) (h : n < 18446744073709551616) :
    Calls Tryd.prog 70 #[.int .u64 (n : Int)] w fun e w' => ∃ g, e = .returned (.slice (some ⟨g, 0, none⟩) 2 2) ∧ w.heap.size ≤ g ∧ Rw w' g [n % 4294967296, n / 4294967296] ∧ Below w.heap.size w w' := by
  go_enter Tryd.func70, Tryd.ntmps70
  go_wp2
  go_ret
  have e : #[Value.int IntKind.u32 ((n : Int) % 4294967296), Value.int IntKind.u32 ((n : Int) / 4294967296)] = u32s [n % 4294967296, n / 4294967296] := by simp [u32s]
  rw [e]
  exact ⟨_, rfl, Nat.le_refl _, Rw.new _ _, (Below.refl _ _).alloc (Nat.le_refl _) _⟩

set_option maxRecDepth 100000 in
set_option maxHeartbeats 1000000 in
theorem sum_ge (aa : Option Addr) (la ca : Nat) (A : List Nat) (ab : Option Addr) (lb cb : Nat) (B : List Nat) (w : World) (hA : Rd w aa la ca A) (hB : Rd w ab lb cb B) (hge : lb ≤ la) (hsm : la ≤ 5000) :
    Calls Tryd.prog 84 #[.slice aa la ca, .slice ab lb cb] w fun e w' => ∃ g L, e = .returned (.slice (some ⟨g, 0, none⟩) (la + 1) (la + 1)) ∧ w.heap.size ≤ g ∧ Rw w' g L ∧ L.length = la + 1 ∧ Ok L ∧ val L = val A + val B ∧ Below w.heap.size w w' := by
  obtain ⟨i0, hi, hz0, hz1, hz2⟩ := info_parts Tryd.info43
  have hla := hid hA.size
  have hlb := hid hB.size
  go_enter Tryd.func84, Tryd.ntmps84
  go_wp2_with (at_make; refine wpList_make_full _ rfl _ _ 22 rfl w.heap.size 43 i0 (.int .u32 0) 1 Tryd.underlying22 hi hz0 hz1 .i64 .i64 _ _ (la + 1) rfl rfl (by omega) (by omega) ?c1 ?c2 ?c3 ?_)
  case c1 => rw [hz2]; omega
  case c2 => unfold maxLen; omega
  case c3 => exact Nat.le_refl _
  intro w1 hown hgrow
  have hrow : Rw w1 w.heap.size (List.replicate (la + 1) 0) := Rw.of_own hown (made_zeros _ _ (by omega))
  have hbel : Below w.heap.size w w1 := (Below.refl _ _).grown hgrow (Nat.le_refl _) (by intro k hk; simp at hk)
  clear hown hgrow hi hz0 hz1 hz2
  go_wp2
  go_loopw [6, 22] (fun c i wr => ∃ (k cv : Nat) (L : List Nat), k ≤ la ∧ i = .int .i64 (k : Int) ∧ c = .int .u64 (cv : Int) ∧ cv ≤ 1 ∧ Hid (L.length = k) ∧ Ok L ∧ Hid (val L + P k * cv = val (A.take k) + val (B.take k)) ∧
      Rw wr w.heap.size (L ++ List.replicate (la + 1 - k) 0) ∧ Below w.heap.size w wr) (fun _ i _ => la - (intOf i).toNat)
  case atStart => exact ⟨0, 0, [], by omega, rfl, rfl, by omega, hid rfl, Ok.nil, hid rfl, hrow, hbel⟩
  case round =>
    obtain ⟨k, cv, L, hk, rfl, rfl, hcv, hL, hok, hval, hR, hB1⟩ := hrel
    clear hrow hbel
    by_cases hlt : k < la
    · obtain ⟨b, off, rfl, hc⟩ := (hA.keep hB1).cells (by omega)
      have hcell := hc k hlt
      have hx := hA.ok.dg k
      have hfr := hR.free k
      have hsz : k < (L ++ List.replicate (la + 1 - k) 0).length := by rw [List.length_append, List.length_replicate, hL.out]; omega
      have hcur := hR.cell k hsz
      clear hc hsz
      by_cases hlb2 : k < lb
      · obtain ⟨b', off', rfl, hc'⟩ := (hB.keep hB1).cells (by omega)
        have hcell' := hc' k hlb2
        have hy := hB.ok.dg k
        clear hc'
        go_wp2
        go_roundw
        case rel =>
          refine ⟨k + 1, (cv + dg A k + dg B k) / 4294967296, L ++ [(cv + dg A k + dg B k) % 4294967296], by omega, by go_num, congrArg (Value.int .u64) (by omega), by omega, hid (by simp [hL.out]), hok.snoc (by omega), hid ?_, ?_, hB1.setCell (Nat.le_refl _) _⟩
          · rw [val_snoc, hL.out, P_succ, val_take_dg A k (by rw [hla.out]; omega), val_take_dg B k (by rw [hlb.out]; omega)]
            exact sum_step hval.out (by omega)
          · have := hR.set' k ((cv + dg A k + dg B k) % 4294967296) (z := ((cv : Int) + (dg A k : Int) + (dg B k : Int)) % 4294967296) (by omega)
            rw [← hL.out] at this ⊢
            rwa [set_snoc_zeros L (la + 1) _ (by rw [hL.out]; omega)] at this
        case measure => simp [intOf]; omega
      · go_wp2
        go_roundw
        case rel =>
          refine ⟨k + 1, (cv + dg A k) / 4294967296, L ++ [(cv + dg A k) % 4294967296], by omega, by go_num, congrArg (Value.int .u64) (by omega), by omega, hid (by simp [hL.out]), hok.snoc (by omega), hid ?_, ?_, hB1.setCell (Nat.le_refl _) _⟩
          · rw [val_snoc, hL.out, P_succ, val_take_dg A k (by rw [hla.out]; omega), val_take_ge B (k + 1) (by rw [hlb.out]; omega)]
            have hv := hval.out
            rw [val_take_ge B k (by rw [hlb.out]; omega)] at hv
            have := sum_step (y := 0) (o := (cv + dg A k) % 4294967296) (c' := (cv + dg A k) / 4294967296) (x := dg A k) hv (by omega)
            simpa using this
          · have := hR.set' k ((cv + dg A k) % 4294967296) (z := ((cv : Int) + (dg A k : Int)) % 4294967296) (by omega)
            rw [← hL.out] at this ⊢
            rwa [set_snoc_zeros L (la + 1) _ (by rw [hL.out]; omega)] at this
        case measure => simp [intOf]; omega
    · obtain rfl : k = la := by omega
      have hfr := hR.free k
      have hsz : k < (L ++ List.replicate (k + 1 - k) 0).length := by rw [List.length_append, List.length_replicate, hL.out]; omega
      have hcur := hR.cell k hsz
      clear hsz
      go_wp2
      go_ret
      refine ⟨_, L ++ [cv], rfl, Nat.le_refl _, ?_, by simp [hL.out], hok.snoc (by omega), ?_, hB1.setCell (Nat.le_refl _) _⟩
      · have := hR.set' k cv (z := (cv : Int)) rfl
        rw [← hL.out] at this ⊢
        rw [set_snoc_zeros L (L.length + 1) _ (by omega)] at this
        simpa using this
      · have hv := hval.out
        rw [val_take_ge A k (by rw [hla.out]; omega), val_take_ge B k (by rw [hlb.out]; omega)] at hv
        rw [val_snoc, hL.out, hv]

set_option maxRecDepth 100000 in
set_option maxHeartbeats 1000000 in
theorem sum_lt (aa : Option Addr) (la ca : Nat) (A : List Nat) (ab : Option Addr) (lb cb : Nat) (B : List Nat) (w : World) (hA : Rd w aa la ca A) (hB : Rd w ab lb cb B) (hge : lb < la) (hsm : la ≤ 5000) :
    Calls Tryd.prog 84 #[.slice ab lb cb, .slice aa la ca] w fun e w' => ∃ g L, e = .returned (.slice (some ⟨g, 0, none⟩) (la + 1) (la + 1)) ∧ w.heap.size ≤ g ∧ Rw w' g L ∧ L.length = la + 1 ∧ Ok L ∧ val L = val A + val B ∧ Below w.heap.size w w' := by
  obtain ⟨i0, hi, hz0, hz1, hz2⟩ := info_parts Tryd.info43
  have hla := hid hA.size
  have hlb := hid hB.size
  go_enter Tryd.func84, Tryd.ntmps84
  go_wp2_with (at_make; refine wpList_make_full _ rfl _ _ 22 rfl w.heap.size 43 i0 (.int .u32 0) 1 Tryd.underlying22 hi hz0 hz1 .i64 .i64 _ _ (la + 1) rfl rfl (by omega) (by omega) ?c1 ?c2 ?c3 ?_)
  case c1 => rw [hz2]; omega
  case c2 => unfold maxLen; omega
  case c3 => exact Nat.le_refl _
  intro w1 hown hgrow
  have hrow : Rw w1 w.heap.size (List.replicate (la + 1) 0) := Rw.of_own hown (made_zeros _ _ (by omega))
  have hbel : Below w.heap.size w w1 := (Below.refl _ _).grown hgrow (Nat.le_refl _) (by intro k hk; simp at hk)
  clear hown hgrow hi hz0 hz1 hz2
  go_wp2
  go_loopw [6, 22] (fun c i wr => ∃ (k cv : Nat) (L : List Nat), k ≤ la ∧ i = .int .i64 (k : Int) ∧ c = .int .u64 (cv : Int) ∧ cv ≤ 1 ∧ Hid (L.length = k) ∧ Ok L ∧ Hid (val L + P k * cv = val (A.take k) + val (B.take k)) ∧
      Rw wr w.heap.size (L ++ List.replicate (la + 1 - k) 0) ∧ Below w.heap.size w wr) (fun _ i _ => la - (intOf i).toNat)
  case atStart => exact ⟨0, 0, [], by omega, rfl, rfl, by omega, hid rfl, Ok.nil, hid rfl, hrow, hbel⟩
  case round =>
    obtain ⟨k, cv, L, hk, rfl, rfl, hcv, hL, hok, hval, hR, hB1⟩ := hrel
    clear hrow hbel
    by_cases hlt : k < la
    · obtain ⟨b, off, rfl, hc⟩ := (hA.keep hB1).cells (by omega)
      have hcell := hc k hlt
      have hx := hA.ok.dg k
      have hfr := hR.free k
      have hsz : k < (L ++ List.replicate (la + 1 - k) 0).length := by rw [List.length_append, List.length_replicate, hL.out]; omega
      have hcur := hR.cell k hsz
      clear hc hsz
      by_cases hlb2 : k < lb
      · obtain ⟨b', off', rfl, hc'⟩ := (hB.keep hB1).cells (by omega)
        have hcell' := hc' k hlb2
        have hy := hB.ok.dg k
        clear hc'
        go_wp2
        go_roundw
        case rel =>
          refine ⟨k + 1, (cv + dg A k + dg B k) / 4294967296, L ++ [(cv + dg A k + dg B k) % 4294967296], by omega, by go_num, congrArg (Value.int .u64) (by omega), by omega, hid (by simp [hL.out]), hok.snoc (by omega), hid ?_, ?_, hB1.setCell (Nat.le_refl _) _⟩
          · rw [val_snoc, hL.out, P_succ, val_take_dg A k (by rw [hla.out]; omega), val_take_dg B k (by rw [hlb.out]; omega)]
            exact sum_step hval.out (by omega)
          · have := hR.set' k ((cv + dg A k + dg B k) % 4294967296) (z := ((cv : Int) + (dg A k : Int) + (dg B k : Int)) % 4294967296) (by omega)
            rw [← hL.out] at this ⊢
            rwa [set_snoc_zeros L (la + 1) _ (by rw [hL.out]; omega)] at this
        case measure => simp [intOf]; omega
      · go_wp2
        go_roundw
        case rel =>
          refine ⟨k + 1, (cv + dg A k) / 4294967296, L ++ [(cv + dg A k) % 4294967296], by omega, by go_num, congrArg (Value.int .u64) (by omega), by omega, hid (by simp [hL.out]), hok.snoc (by omega), hid ?_, ?_, hB1.setCell (Nat.le_refl _) _⟩
          · rw [val_snoc, hL.out, P_succ, val_take_dg A k (by rw [hla.out]; omega), val_take_ge B (k + 1) (by rw [hlb.out]; omega)]
            have hv := hval.out
            rw [val_take_ge B k (by rw [hlb.out]; omega)] at hv
            have := sum_step (y := 0) (o := (cv + dg A k) % 4294967296) (c' := (cv + dg A k) / 4294967296) (x := dg A k) hv (by omega)
            simpa using this
          · have := hR.set' k ((cv + dg A k) % 4294967296) (z := ((cv : Int) + (dg A k : Int)) % 4294967296) (by omega)
            rw [← hL.out] at this ⊢
            rwa [set_snoc_zeros L (la + 1) _ (by rw [hL.out]; omega)] at this
        case measure => simp [intOf]; omega
    · obtain rfl : k = la := by omega
      have hfr := hR.free k
      have hsz : k < (L ++ List.replicate (k + 1 - k) 0).length := by rw [List.length_append, List.length_replicate, hL.out]; omega
      have hcur := hR.cell k hsz
      clear hsz
      go_wp2
      go_ret
      refine ⟨_, L ++ [cv], rfl, Nat.le_refl _, ?_, by simp [hL.out], hok.snoc (by omega), ?_, hB1.setCell (Nat.le_refl _) _⟩
      · have := hR.set' k cv (z := (cv : Int)) rfl
        rw [← hL.out] at this ⊢
        rw [set_snoc_zeros L (L.length + 1) _ (by omega)] at this
        simpa using this
      · have hv := hval.out
        rw [val_take_ge A k (by rw [hla.out]; omega), val_take_ge B k (by rw [hlb.out]; omega)] at hv
        rw [val_snoc, hL.out, hv]

theorem sum_any (aa : Option Addr) (la ca : Nat) (A : List Nat) (ab : Option Addr) (lb cb : Nat) (B : List Nat) (w : World) (hA : Rd w aa la ca A) (hB : Rd w ab lb cb B) (ha : la ≤ 5000) (hb : lb ≤ 5000) :
    Calls Tryd.prog 84 #[.slice aa la ca, .slice ab lb cb] w fun e w' => ∃ g L, e = .returned (.slice (some ⟨g, 0, none⟩) L.length L.length) ∧ w.heap.size ≤ g ∧ Rw w' g L ∧ L.length = max la lb + 1 ∧ Ok L ∧ val L = val A + val B ∧ Below w.heap.size w w' := by
  rcases Nat.lt_or_ge la lb with h | h
  · refine (sum_lt ab lb cb B aa la ca A w hB hA h hb).mono ?_
    rintro e w' ⟨g, L, rfl, h1, h2, h3, h4, h5, h6⟩
    exact ⟨g, L, by rw [h3], h1, h2, by omega, h4, by omega, h6⟩
  · refine (sum_ge aa la ca A ab lb cb B w hA hB h ha).mono ?_
    rintro e w' ⟨g, L, rfl, h1, h2, h3, h4, h5, h6⟩
    exact ⟨g, L, by rw [h3], h1, h2, by omega, h4, by omega, h6⟩
end Go.Proofs.YtldafoojkimdeaaDoor
