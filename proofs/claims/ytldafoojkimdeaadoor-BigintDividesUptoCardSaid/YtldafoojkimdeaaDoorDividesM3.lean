/- Walks: product. Walks: Mul. Walks: From, To. Walks: Pow where nothing is wrong. Walks: groupOf, digitOf, areDigits. Walks: appendGroup. Walks: readDigits. Walks: isRadix, Parse where nothing is wrong. Walks: lowDigitsFirst. Walks: slices.Reverse at []byte. -/
import Derived.Test.YtldafoojkimdeaaDoorDividesM1
import Derived.Test.YtldafoojkimdeaaDoorDividesM2
import Derived.Lib.Strings
import Derived.Lib.IndexBytes
namespace Go.Proofs.YtldafoojkimdeaaDoor
open Go.RowKit Lm

theorem set_mid (N R : List Nat) (k x : Nat) (hN : N.length = k) (hk : k < R.length) : (N ++ R.drop k).set k x = (N ++ [x]) ++ R.drop (k + 1) := by
  rw [List.set_append_right _ _ (by omega), hN, Nat.sub_self, List.drop_eq_getElem_cons hk, List.set_cons_zero, List.append_assoc]
  rfl
theorem dg_mid (N R : List Nat) (k : Nat) (hN : N.length = k) : dg (N ++ R.drop k) k = dg R k := by
  rw [dg_append_right _ _ _ (by omega), hN, Nat.sub_self, dg_drop]; rfl
theorem len_mid (N R : List Nat) (k : Nat) (hN : N.length = k) (hk : k ≤ R.length) : (N ++ R.drop k).length = R.length := by
  rw [List.length_append, List.length_drop]; omega

/-- One step of the inner loop: e is the power of the outer place. -/
theorem mul_inner {pe pj c x y r o c' s t q : Nat} (h : s + pe * pj * c = t + x * pe * q) (he : c + (x * y + r) = o + 4294967296 * c') :
    (s + pe * pj * o) + pe * (pj * 4294967296) * c' = (t + pe * pj * r) + x * pe * (q + pj * y) := by grind

set_option maxRecDepth 100000 in
set_option maxHeartbeats 2000000 in
theorem product_any (aa : Option Addr) (la ca : Nat) (A : List Nat) (ab : Option Addr) (lb cb : Nat) (B : List Nat) (w : World) (hA : Rd w aa la ca A) (hB : Rd w ab lb cb B) (hsa : la ≤ 5000) (hsb : lb ≤ 5000) :
    Calls Tryd.prog 79 #[.slice aa la ca, .slice ab lb cb] w fun e w' => ∃ g L, e = .returned (.slice (some ⟨g, 0, none⟩) L.length L.length) ∧ w.heap.size ≤ g ∧ Rw w' g L ∧ L.length = la + lb ∧ Ok L ∧ val L = val A * val B ∧ Below w.heap.size w w' := by
  obtain ⟨i0, hi, hz0, hz1, hz2⟩ := info_parts Tryd.info43
  have hla := hid hA.size
  have hlb := hid hB.size
  go_enter Tryd.func79, Tryd.ntmps79
  go_wp2_with (at_make; refine wpList_make_full _ rfl _ _ 22 rfl w.heap.size 43 i0 (.int .u32 0) 1 Tryd.underlying22 hi hz0 hz1 .i64 .i64 _ _ (la + lb) rfl rfl (by omega) (by omega) ?c1 ?c2 ?c3 ?_)
  case c1 => rw [hz2]; omega
  case c2 => unfold maxLen; omega
  case c3 => exact Nat.le_refl _
  intro w1 hown hgrow
  have hrow : Rw w1 w.heap.size (List.replicate (la + lb) 0) := Rw.of_own hown (made_zeros _ _ (by omega))
  have hbel : Below w.heap.size w w1 := (Below.refl _ _).grown hgrow (Nat.le_refl _) (by intro k hk; simp at hk)
  clear hown hgrow hi hz0 hz1 hz2
  go_wp2
  go_loopw [19] (fun i wr => ∃ (k : Nat) (M : List Nat), k ≤ la ∧ i = .int .i64 (k : Int) ∧ Hid (M.length = k + lb) ∧ Ok M ∧ Hid (val M = val (A.take k) * val B) ∧
      Rw wr w.heap.size (M ++ List.replicate (la - k) 0) ∧ Below w.heap.size w wr) (fun i _ => la - (intOf i).toNat)
  case atStart => exact ⟨0, List.replicate lb 0, by omega, rfl, hid (by simp), Ok.zeros _, hid (by simp [val_zeros, val]), by rw [List.replicate_append_replicate, Nat.add_comm]; exact hrow, hbel⟩
  case round =>
    obtain ⟨k, M, hk, rfl, hM, hok, hval, hR, hB1⟩ := hrel
    clear hrow hbel
    by_cases hlt : k < la
    · obtain ⟨b, off, rfl, hc⟩ := (hA.keep hB1).cells (by omega)
      have hcell := hc k hlt
      have hx := hA.ok.dg k
      clear hc
      obtain ⟨R0, hR0⟩ : ∃ R0, R0 = M ++ List.replicate (la - k) 0 := ⟨_, rfl⟩
      have hok0 : Ok R0 := by rw [hR0]; exact hok.append (Ok.zeros _)
      have HL0 : Hid (R0.length = la + lb) := hid (by rw [hR0, List.length_append, hM.out, List.length_replicate]; omega)
      rw [← hR0] at hR
      have HR0 := hid hR0
      clear hR0
      go_wp2
      go_loopw [8, 26] (fun c j ws => ∃ (m cv : Nat) (N : List Nat), m ≤ lb ∧ j = .int .i64 (m : Int) ∧ c = .int .u64 (cv : Int) ∧ cv < 4294967296 ∧ Hid (N.length = k + m) ∧ Ok N ∧
          Hid (val N + P k * P m * cv = val (R0.take (k + m)) + dg A k * P k * val (B.take m)) ∧ Rw ws w.heap.size (N ++ R0.drop (k + m)) ∧ Below w.heap.size w ws) (fun _ j _ => lb - (intOf j).toNat)
      case atStart => exact ⟨0, 0, R0.take k, by omega, rfl, rfl, by omega, hid (by rw [List.length_take, HL0.out]; omega), hok0.take _, hid (by simp [val]), by rw [Nat.add_zero, List.take_append_drop]; exact hR, hB1⟩
      case round =>
        obtain ⟨m, cv, N, hm, rfl, rfl, hcv, hN, hokN, hvN, hRN, hB2⟩ := hrel
        clear hR hB1
        by_cases hlt2 : m < lb
        · obtain ⟨b', off', rfl, hc'⟩ := (hB.keep hB2).cells (by omega)
          have hcell' := hc' m hlt2
          have hcx := ((hA.keep hB2).cells (by omega))
          clear hc' hcx
          have hy := hB.ok.dg m
          have hlen : k + m < (N ++ R0.drop (k + m)).length := by rw [len_mid N R0 _ hN.out (by rw [HL0.out]; omega), HL0.out]; omega
          have hcur := hRN.cell (k + m) hlen
          rw [dg_mid N R0 _ hN.out] at hcur
          have hfr := hRN.free (k + m)
          have hr := hok0.dg (k + m)
          have hp : dg A k * dg B m ≤ 4294967295 * 4294967295 := Nat.mul_le_mul (by omega) (by omega)
          have hpi : (dg A k : Int) * (dg B m : Int) ≤ 18446744065119617025 := by have := Int.ofNat_le.2 hp; simpa using this
          have hpn : 0 ≤ (dg A k : Int) * (dg B m : Int) := Int.mul_nonneg (by omega) (by omega)
          have HP := hid hp
          clear hp hlen
          go_wp2
          have hcast : (cv : Int) + ((dg A k : Int) * (dg B m : Int) + (dg R0 (k + m) : Int)) = ((cv + (dg A k * dg B m + dg R0 (k + m)) : Nat) : Int) := by simp [Int.natCast_mul]
          have hsum : cv + (dg A k * dg B m + dg R0 (k + m)) ≤ 18446744073709551615 := by have := HP.out; omega
          go_roundw
          case rel =>
            refine ⟨m + 1, (cv + (dg A k * dg B m + dg R0 (k + m))) / 4294967296, N ++ [(cv + (dg A k * dg B m + dg R0 (k + m))) % 4294967296], by omega, by go_num, congrArg (Value.int .u64) (by rw [hcast]; omega), by omega, hid (by rw [List.length_append, hN.out]; rfl), hokN.snoc (by omega), hid ?_, ?_, hB2.setCell (Nat.le_refl _) _⟩
            · rw [val_snoc, hN.out, P_succ, P_add, ← Nat.add_assoc k m 1, val_take_dg R0 (k + m) (by rw [HL0.out]; omega), P_add, val_take_dg B m (by rw [hlb.out]; omega)]
              exact mul_inner hvN.out (by omega)
            · have := hRN.set' (k + m) ((cv + (dg A k * dg B m + dg R0 (k + m))) % 4294967296) (z := ((cv : Int) + ((dg A k : Int) * (dg B m : Int) + (dg R0 (k + m) : Int))) % 4294967296) (by rw [hcast]; omega)
              rwa [set_mid N R0 _ _ hN.out (by rw [HL0.out]; omega)] at this
          case measure => simp [intOf]; omega
        · obtain rfl : m = lb := by omega
          have hlen : k + m < (N ++ R0.drop (k + m)).length := by rw [len_mid N R0 _ hN.out (by rw [HL0.out]; omega), HL0.out]; omega
          have hcur := hRN.cell (k + m) hlen
          rw [dg_mid N R0 _ hN.out] at hcur
          have hfr := hRN.free (k + m)
          clear hlen
          go_wp2
          go_roundw
          case rel =>
            refine ⟨k + 1, N ++ [cv], by omega, by go_num, hid (by rw [List.length_append, hN.out]; simp; omega), hokN.snoc hcv, hid ?_, ?_, hB2.setCell (Nat.le_refl _) _⟩
            · have hv := hvN.out
              have e1 : R0.take (k + m) = M := by rw [HR0.out, ← hM.out]; exact List.take_left
              rw [e1, hval.out, val_take_ge B m (by rw [hlb.out]; omega)] at hv
              rw [val_snoc, hN.out, P_add, hv, val_take_dg A k (by rw [hla.out]; omega)]
              grind
            · have := hRN.set' (k + m) cv (z := (cv : Int)) rfl
              rw [set_mid N R0 _ _ hN.out (by rw [HL0.out]; omega)] at this
              have e2 : R0.drop (k + m + 1) = List.replicate (la - (k + 1)) 0 := by
                rw [HR0.out, List.drop_append, List.drop_eq_nil_of_le (by rw [hM.out]; omega), List.nil_append, List.drop_replicate, hM.out]; congr 1; omega
              rwa [e2] at this
          case measure => simp [intOf]; omega
    · obtain rfl : k = la := by omega
      have hv := hval.out
      rw [val_take_ge A k (by rw [hla.out]; omega)] at hv
      have HF := hid hv
      clear hv
      go_wp2
      go_ret
      refine ⟨w.heap.size, M, by rw [hM.out]; rfl, Nat.le_refl _, ?_, hM.out, hok, HF.out, hB1⟩
      simpa using hR
end Go.Proofs.YtldafoojkimdeaaDoor

namespace Go.Proofs.YtldafoojkimdeaaDoor
open Go.RowKit Lm

theorem num_mul (na nb : Bool) (A B L : List Nat) (h : val L = val A * val B) : num (!(na == nb)) L = num na A * num nb B := by
  unfold num; rw [h]
  cases na <;> cases nb <;> simp [Int.natCast_mul, Int.neg_mul, Int.mul_neg]

set_option maxRecDepth 100000 in
set_option maxHeartbeats 2000000 in
theorem mul_bad (na : Bool) (aa : Option Addr) (la ca : Nat) (A : List Nat) (nb : Bool) (ab : Option Addr) (lb cb : Nat) (B : List Nat) (w : World) (hA : Rd w aa la ca A) (hB : Rd w ab lb cb B) (hbad : (tooLong A || tooLong B) = true) :
    Calls Tryd.prog 37 #[.agg #[.bool na, .slice aa la ca], .agg #[.bool nb, .slice ab lb cb]] w fun e w' => e = .returned (.tuple #[.agg #[.bool false, .slice none 0 0], .int .i64 10]) ∧ Below w.heap.size w w' := by
  go_enter Tryd.func37, Tryd.ntmps37
  go_wp2_with (go_at_call 77; refine (long2_any _ na aa la ca A nb ab lb cb B _ ((((hA.alloc _).alloc _).alloc _).alloc _) ((((hB.alloc _).alloc _).alloc _).alloc _) (by simp [go_sem]) (by simp [go_sem]) (by simp [go_sem]) (by simp [go_sem])).mono ?_; rintro e w1 ⟨rfl, hb1⟩; rw [hbad]; obtain ⟨p1, p2, p3, hbw⟩ := hp4 _ _ _ _ _ hb1; obtain ⟨c0, c1, f0, f1⟩ := two_cells p3)
  refine bodyPost_ret (v := .tuple #[.agg #[.bool false, .slice none 0 0], .int .i64 10]) (by simp [results, Tryd.results37, go_sem, c0, c1]) rfl ⟨rfl, ?_⟩
  exact (hbw.setCell (by simp; omega) _).setCell (by simp; omega) _

set_option maxRecDepth 100000 in
set_option maxHeartbeats 2000000 in
theorem mul_good (na : Bool) (aa : Option Addr) (la ca : Nat) (A : List Nat) (nb : Bool) (ab : Option Addr) (lb cb : Nat) (B : List Nat) (w : World) (hA : Rd w aa la ca A) (hB : Rd w ab lb cb B) (hbad : (tooLong A || tooLong B) = false) :
    Calls Tryd.prog 37 #[.agg #[.bool na, .slice aa la ca], .agg #[.bool nb, .slice ab lb cb]] w fun e w' => ∃ n' ao' len' c, e = .returned (.tuple #[.agg #[.bool n', .slice ao' len' len'], .int .i64 c]) ∧ Fits w w' n' ao' len' c (num na A * num nb B) ∧ Below w.heap.size w w' := by
  have hsA := small_len A (by simp at hbad; exact hbad.1)
  have hsB := small_len B (by simp at hbad; exact hbad.2)
  have HM := hid (num_mul na nb A B)
  have hvA := hid (tl_val A)
  have hvB := hid (tl_val B)
  go_enter Tryd.func37, Tryd.ntmps37
  go_wp2_with (go_at_call 77; refine (long2_any _ na aa la ca A nb ab lb cb B _ ((((hA.alloc _).alloc _).alloc _).alloc _) ((((hB.alloc _).alloc _).alloc _).alloc _) (by simp [go_sem]) (by simp [go_sem]) (by simp [go_sem]) (by simp [go_sem])).mono ?_; rintro e w1 ⟨rfl, hb1⟩; rw [hbad]; obtain ⟨p1, p2, p3, hbw⟩ := hp4 _ _ _ _ _ hb1; obtain ⟨a0, a1, _, _⟩ := two_cells p1; obtain ⟨b0, b1, _, _⟩ := two_cells p2; have hA1 := hA.keep hbw; have hB1 := hB.keep hbw)
  clear hbad
  have hlt1 : w.heap.size + 4 ≤ w1.heap.size := by have := hb1.size; simp at this ⊢; omega
  have HP3 := hid p3
  clear hb1 p1 p2 p3
  go_region_held3 (fun w' => w'.cell? ⟨w.heap.size, 0, none⟩ = some (.bool na) ∧ w'.cell? ⟨w.heap.size, 1, none⟩ = some (.slice aa la ca) ∧ w'.cell? ⟨w.heap.size + 1, 0, none⟩ = some (.bool nb) ∧ w'.cell? ⟨w.heap.size + 1, 1, none⟩ = some (.slice ab lb cb)) (refine ⟨?_, ?_, ?_, ?_⟩ <;> first | assumption | (simp [go_sem]; assumption))
    (first
      | (go_at_call_of 71 (Value.slice aa la ca); refine (trim_any _ _ _ A _ ?_).mono ?_; (first | exact hA1 | exact hA1.drew); rintro e w5 ⟨rfl, rfl⟩)
      | (go_at_call_of 71 (Value.slice ab lb cb); refine (trim_any _ _ _ B _ ?_).mono ?_; (first | exact hB1 | exact hB1.drew); rintro e w5 ⟨rfl, rfl⟩)
      | (go_at_call 79; refine (product_any _ _ _ (tl A) _ _ _ (tl B) _ ?_ ?_ (by omega) (by omega)).mono ?_; (first | exact hA1.tl | exact hA1.tl.drew); (first | exact hB1.tl | exact hB1.tl.drew); rintro e w2 ⟨g, L, rfl, hg, hR, hL, hok, hval, hb2⟩; have HL := hid hL; have HV := hid hval; have hLs : L.length ≤ 256 := (by omega); clear hL hval; have a02 := cell_keep a0 (undrew hb2); have a12 := cell_keep a1 (undrew hb2); have b02 := cell_keep b0 (undrew hb2); have b12 := cell_keep b1 (undrew hb2); have hP2 := hid (heap_keep HP3.out (undrew hb2)))
      | (go_at_call 78; refine (fit_any _ _ _ _ L _ (hR.whole hok _ (Nat.le_refl _) (by omega))).mono ?_; rintro e w3 ⟨n', ao', len', c, rfl, hfit, hb3⟩; have a03 := cell_keep a02 hb3; have a13 := cell_keep a12 hb3; have b03 := cell_keep b02 hb3; have b13 := cell_keep b12 hb3; obtain ⟨c0, c1, f0, f1⟩ := two_cells (heap_keep hP2.out hb3)))
  have hs2 := (undrew hb2).size
  rw [HM.out L (by rw [HV.out, hvA.out, hvB.out])] at hfit
  go_wp2
  refine bodyPost_ret (v := .tuple #[.agg #[.bool n', .slice ao' len' len'], .int .i64 c]) (by simp [results, Tryd.results37, go_sem, c0, c1]) rfl ⟨_, _, _, _, rfl, ?_, ?_⟩
  · exact hfit.set2 (by omega) (by simp; omega) (by simp; omega) _ _
  · exact (((hbw.trans ((undrew hb2).mono (by simp; omega))).trans (hb3.mono (by omega))).setCell (by simp; omega) _).setCell (by simp; omega) _

theorem Mul_any (na : Bool) (aa : Option Addr) (la ca : Nat) (A : List Nat) (nb : Bool) (ab : Option Addr) (lb cb : Nat) (B : List Nat) (w : World) (hA : Rd w aa la ca A) (hB : Rd w ab lb cb B) :
    Calls Tryd.prog 37 #[.agg #[.bool na, .slice aa la ca], .agg #[.bool nb, .slice ab lb cb]] w fun e w' => ∃ n' ao' len' c, e = .returned (.tuple #[.agg #[.bool n', .slice ao' len' len'], .int .i64 c]) ∧ Ans (tooLong A || tooLong B) w w' n' ao' len' c (num na A * num nb B) ∧ Below w.heap.size w w' := by
  by_cases hbad : (tooLong A || tooLong B) = true
  · refine (mul_bad na aa la ca A nb ab lb cb B w hA hB hbad).mono ?_
    rintro e w' ⟨rfl, hb⟩
    exact ⟨_, _, _, _, rfl, .inl ⟨hbad, rfl, rfl, rfl, rfl⟩, hb⟩
  · have hbad' : (tooLong A || tooLong B) = false := by simpa using hbad
    refine (mul_good na aa la ca A nb ab lb cb B w hA hB hbad').mono ?_
    rintro e w' ⟨n', ao', len', c, rfl, hf, hb⟩
    exact ⟨_, _, _, _, rfl, .inr ⟨hbad', hf⟩, hb⟩
end Go.Proofs.YtldafoojkimdeaaDoor

namespace Go.Proofs.YtldafoojkimdeaaDoor
open Go.RowKit Lm

theorem val_two (x : Nat) : val [x % 4294967296, x / 4294967296] = x := by simp [val]; omega
theorem ok_two (x : Nat) (h : x < 18446744073709551616) : Ok [x % 4294967296, x / 4294967296] := (Ok.nil.cons (by omega)).cons (by omega)

theorem u64_of_neg (n : Int) (h0 : n < 0) (h1 : -9223372036854775808 ≤ n) : IntKind.u64.wrap (-(IntKind.u64.wrap n)) = ((n.natAbs : Nat) : Int) := by
  rw [IntKind.wrap_u64, IntKind.wrap_u64]; omega

set_option maxRecDepth 100000 in
set_option maxHeartbeats 1000000 in
theorem from_any (n : Int) (w : World) (h1 : -9223372036854775808 ≤ n) (h2 : n ≤ 9223372036854775807) :
    Calls Tryd.prog 24 #[.int .i64 n] w fun e w' => ∃ n' ao' len', e = .returned (.agg #[.bool n', .slice ao' len' len']) ∧ Num w.heap.size w' n' ao' len' n ∧ Below w.heap.size w w' := by
  have hx : n.natAbs < 18446744073709551616 := by omega
  have hok := ok_two _ hx
  have hval := hid (val_two n.natAbs)
  by_cases h0 : n < 0
  · have hw := u64_of_neg n h0 h1
    have hnum : num true [n.natAbs % 4294967296, n.natAbs / 4294967296] = n := by unfold num; rw [hval.out]; simp; omega
    have HN := hid hnum
    clear hnum
    go_enter Tryd.func24, Tryd.ntmps24
    go_wp2_with (first
      | (go_at_call 70; refine (limbsOf_any n.natAbs _ hx).mono ?_; rintro e w1 ⟨g, rfl, hg, hR, hb1⟩; have hR' := hR.whole hok 2 (by simp) (by omega))
      | (go_at_call 69; refine (give_any _ _ _ _ _ _ hR').mono ?_; rintro e w2 ⟨n', ao', len', rfl, hnum, hb⟩; obtain ⟨c0, c1, f0, f1⟩ := two_cells ((hb.block _ (by have := hb1.size; simp at this; omega)).trans (blk_keep hb1))))
    refine bodyPost_ret (v := .agg #[.bool n', .slice ao' len' len']) (by simp [results, Tryd.results24, go_sem, c0, c1]) rfl ⟨_, _, _, rfl, ?_, ?_⟩
    · rw [HN.out] at hnum
      exact ((hnum.set (by have := hb1.size; simp at this ⊢; omega) _).set (by have := hb1.size; simp at this ⊢; omega) _).mono (by have := hb1.size; simp at this ⊢; omega)
    · exact (((balloc hb1).trans (hb.mono (by have := hb1.size; simp at this ⊢; omega))).setCell (by simp) _).setCell (by simp) _
  · have hw : IntKind.u64.wrap n = ((n.natAbs : Nat) : Int) := by rw [IntKind.wrap_u64]; omega
    have hnum : num false [n.natAbs % 4294967296, n.natAbs / 4294967296] = n := by unfold num; rw [hval.out]; simp; omega
    have HN := hid hnum
    clear hnum
    go_enter Tryd.func24, Tryd.ntmps24
    go_wp2_with (first
      | (go_at_call 70; refine (limbsOf_any n.natAbs _ hx).mono ?_; rintro e w1 ⟨g, rfl, hg, hR, hb1⟩; have hR' := hR.whole hok 2 (by simp) (by omega))
      | (go_at_call 69; refine (give_any _ _ _ _ _ _ hR').mono ?_; rintro e w2 ⟨n', ao', len', rfl, hnum, hb⟩; obtain ⟨c0, c1, f0, f1⟩ := two_cells ((hb.block _ (by have := hb1.size; simp at this; omega)).trans (blk_keep hb1))))
    refine bodyPost_ret (v := .agg #[.bool n', .slice ao' len' len']) (by simp [results, Tryd.results24, go_sem, c0, c1]) rfl ⟨_, _, _, rfl, ?_, ?_⟩
    · rw [HN.out] at hnum
      exact ((hnum.set (by have := hb1.size; simp at this ⊢; omega) _).set (by have := hb1.size; simp at this ⊢; omega) _).mono (by have := hb1.size; simp at this ⊢; omega)
    · exact (((balloc hb1).trans (hb.mono (by have := hb1.size; simp at this ⊢; omega))).setCell (by simp) _).setCell (by simp) _

/-- An integer that the kind int holds. -/
def fits64 (v : Int) : Bool := decide (-9223372036854775808 ≤ v ∧ v ≤ 9223372036854775807)
def as64 (v : Int) : Int := if fits64 v then v else 0

theorem as64_out (v : Int) (h : fits64 v = false) : as64 v = 0 := by unfold as64; rw [h]; rfl
theorem as64_in (v : Int) (h : fits64 v = true) : as64 v = v := by unfold as64; rw [h]; rfl
theorem fits_big (n : Bool) (A : List Nat) (h : 2 < (tl A).length) : fits64 (num n A) = false := by
  have h1 := top_ge (tl_top A) (by intro e; rw [e] at h; simp at h)
  have h2 : P 2 ≤ P ((tl A).length - 1) := P_le (by omega)
  have e : P 2 = 18446744073709551616 := by decide
  rw [tl_val] at h1
  unfold fits64 num
  cases n <;> simp <;> omega
theorem take2_all (A : List Nat) (h : (tl A).length ≤ 2) : val ((tl A).take 2) = val A := by rw [List.take_of_length_le h, tl_val]
theorem val_lt2 (A : List Nat) (hA : Ok A) (h : (tl A).length ≤ 2) : val A < 18446744073709551616 := by
  rw [← take2_all A h]; exact take2_lt _ (tl_ok hA)
theorem neg_wrap (x : Nat) (h : x ≤ 9223372036854775808) : IntKind.i64.wrap (IntKind.u64.wrap (-(x : Int))) = -(x : Int) := by
  rw [IntKind.wrap_u64, IntKind.wrap_i64]; omega
theorem neg_wrap' (x : Nat) (h : x ≤ 9223372036854775808) : wrap64 (IntKind.u64.wrap (-(x : Int))) = -(x : Int) := by
  rw [IntKind.wrap_u64]; unfold wrap64; omega

set_option maxRecDepth 100000 in
set_option maxHeartbeats 1000000 in
theorem to_any (n : Bool) (ao : Option Addr) (len cap : Nat) (A : List Nat) (w : World) (h : Rd w ao len cap A) :
    Calls Tryd.prog 26 #[.agg #[.bool n, .slice ao len cap]] w fun e w' => e = .returned (.tuple #[.int .i64 (as64 (num n A)), .bool (fits64 (num n A))]) ∧ Below w.heap.size w w' := by
  by_cases h2 : 2 < (tl A).length
  · have hf := fits_big n A h2
    rw [as64_out _ hf, hf]
    clear hf
    go_enter Tryd.func26, Tryd.ntmps26
    go_wp2_with (go_at_call 71; refine (trim_any _ _ _ A _ (h.alloc _)).mono ?_; rintro e w' ⟨rfl, rfl⟩)
    go_ret2
    exact ⟨rfl, (Below.refl _ _).alloc (Nat.le_refl _) _⟩
  · have hle : (tl A).length ≤ 2 := by omega
    obtain ⟨x, hx⟩ : ∃ x, x = val A := ⟨_, rfl⟩
    have hlt := val_lt2 A h.ok hle
    have HT := hid (take2_all A hle)
    rw [← hx] at hlt
    have HX := hid hx
    have hnum : num n A = if n then -(x : Int) else (x : Int) := by unfold num; rw [hx]
    clear hx
    cases n with
    | false =>
      simp only [Bool.false_eq_true, if_false] at hnum
      rw [hnum]; clear hnum
      by_cases hb : x ≤ 9223372036854775807
      · have hf : fits64 (x : Int) = true := by unfold fits64; simp; omega
        rw [as64_in _ hf, hf]; clear hf
        go_enter Tryd.func26, Tryd.ntmps26
        go_wp2_with (first
          | (go_at_call 71; refine (trim_any _ _ _ A _ (h.alloc _)).mono ?_; rintro e w' ⟨rfl, rfl⟩)
          | (go_at_call 72; refine (wordOf_any _ _ _ _ _ (h.alloc _).tl).mono ?_; rintro e w' ⟨rfl, rfl⟩; rw [HT.out, ← HX.out])
          | go_in)
        go_ret2
        exact ⟨rfl, (Below.refl _ _).alloc (Nat.le_refl _) _⟩
      · have hf : fits64 (x : Int) = false := by unfold fits64; simp; omega
        rw [as64_out _ hf, hf]; clear hf
        go_enter Tryd.func26, Tryd.ntmps26
        go_wp2_with (first
          | (go_at_call 71; refine (trim_any _ _ _ A _ (h.alloc _)).mono ?_; rintro e w' ⟨rfl, rfl⟩)
          | (go_at_call 72; refine (wordOf_any _ _ _ _ _ (h.alloc _).tl).mono ?_; rintro e w' ⟨rfl, rfl⟩; rw [HT.out, ← HX.out])
          | go_in)
        go_ret2
        exact ⟨rfl, (Below.refl _ _).alloc (Nat.le_refl _) _⟩
    | true =>
      simp only [if_true] at hnum
      rw [hnum]; clear hnum
      by_cases hb : x ≤ 9223372036854775808
      · have hf : fits64 (-(x : Int)) = true := by unfold fits64; simp; omega
        rw [as64_in _ hf, hf]; clear hf
        have hw := neg_wrap' x hb
        have HW := hid hw; clear hw
        go_enter Tryd.func26, Tryd.ntmps26
        go_wp2_with (first
          | (go_at_call 71; refine (trim_any _ _ _ A _ (h.alloc _)).mono ?_; rintro e w' ⟨rfl, rfl⟩)
          | (go_at_call 72; refine (wordOf_any _ _ _ _ _ (h.alloc _).tl).mono ?_; rintro e w' ⟨rfl, rfl⟩; rw [HT.out, ← HX.out])
          | go_in)
        go_ret2
        refine ⟨?_, (Below.refl _ _).alloc (Nat.le_refl _) _⟩
        show Ending.returned (.tuple #[.int .i64 (wrap64 (IntKind.u64.wrap (-(x : Int)))), .bool true]) = _
        rw [HW.out]
      · have hf : fits64 (-(x : Int)) = false := by unfold fits64; simp; omega
        rw [as64_out _ hf, hf]; clear hf
        go_enter Tryd.func26, Tryd.ntmps26
        go_wp2_with (first
          | (go_at_call 71; refine (trim_any _ _ _ A _ (h.alloc _)).mono ?_; rintro e w' ⟨rfl, rfl⟩)
          | (go_at_call 72; refine (wordOf_any _ _ _ _ _ (h.alloc _).tl).mono ?_; rintro e w' ⟨rfl, rfl⟩; rw [HT.out, ← HX.out])
          | go_in)
        go_ret2
        exact ⟨rfl, (Below.refl _ _).alloc (Nat.le_refl _) _⟩

end Go.Proofs.YtldafoojkimdeaaDoor

namespace Go.Proofs.YtldafoojkimdeaaDoor
open Go.RowKit Lm

theorem set_pair {w : World} {b : Nat} {x y : Value} {t : TypeId} (h : w.heap[b]? = some (.cells #[x, y] t (0, 0))) (x' y' : Value) :
    ((w.setCell ⟨b, 0, none⟩ x').setCell ⟨b, 1, none⟩ y').heap[b]? = some (.cells #[x', y'] t (0, 0)) := by
  have h1 := heap_setCell_same w b 0 #[x, y] t x' h
  have h2 := heap_setCell_same _ b 1 _ t y' h1
  rw [h2]; rfl
theorem heap_set {w : World} {k : Nat} {o : Obj} {p : Addr} {u : Value} (h : w.heap[k]? = some o) (hp : k ≠ p.block) : (w.setCell p u).heap[k]? = some o := (Below.heap_setCell _ _ _ _ hp).trans h

theorem long_num {n : Bool} {L : List Nat} {v : Int} (h : num n L = v) (hb : bl v.natAbs ≤ 4096) : tooLong L = false := by
  unfold tooLong; rw [← h, num_abs] at hb; simp; exact hb

/-- A power that is too long stays so. -/
theorem pow_long (a : Int) {m n : Nat} (hmn : m ≤ n) (h : 4096 < bl (a ^ m).natAbs) : 4096 < bl (a ^ n).natAbs := by
  have h1 : ¬ (a ^ m).natAbs < 2 ^ 4096 := fun k => by have := (bl_le _ 4096).2 k; omega
  apply Nat.lt_of_not_le
  intro k
  have h2 := (bl_le _ 4096).1 k
  apply h1
  refine Nat.lt_of_le_of_lt ?_ h2
  rw [Int.natAbs_pow, Int.natAbs_pow]
  rcases Nat.eq_zero_or_pos a.natAbs with h0 | h0
  · rw [h0]
    rw [Int.natAbs_pow, h0] at h
    rcases Nat.eq_zero_or_pos m with hm | hm
    · rw [hm] at h; exact absurd h (by decide)
    · rw [Nat.zero_pow hm] at h; exact absurd h (by decide)
  · exact Nat.pow_le_pow_right h0 hmn

theorem Num.set24 {base : Nat} {w : World} {n : Bool} {ao : Option Addr} {len : Nat} {v : Int} (h : Num base w n ao len v) {p : Addr} {cs : Array Value} (hp : w.heap[p.block]? = some (.cells cs 24 (0, 0))) (u : Value) : Num base (w.setCell p u) n ao len v := by
  obtain ⟨L, h1, h2, h3, h4⟩ := h
  refine ⟨L, h1, h2, ?_, h4⟩
  rcases h3 with h | ⟨k1, k2, g, k3, k4, k5⟩
  · exact .inl h
  · refine .inr ⟨k1, k2, g, k3, k4, k5.other (fun e => ?_) _⟩
    have := k5.block
    rw [e, hp] at this
    simp at this
theorem Num.pair24 {base : Nat} {w : World} {n : Bool} {ao : Option Addr} {len : Nat} {v : Int} (h : Num base w n ao len v) {b : Nat} {x y : Value} (hp : w.heap[b]? = some (.cells #[x, y] 24 (0, 0))) (x' y' : Value) :
    Num base ((w.setCell ⟨b, 0, none⟩ x').setCell ⟨b, 1, none⟩ y') n ao len v :=
  (h.set24 (p := ⟨b, 0, none⟩) hp x').set24 (p := ⟨b, 1, none⟩) (heap_setCell_same w b 0 #[x, y] 24 x' hp) y'

theorem pow_after {w w4 : World} {s0 go : Nat} {o1 o2 : Obj} {x0 y0 : Value} (hB : Below s0 w w4) (h1 : w4.heap[s0]? = some o1) (h2 : w4.heap[s0 + 1]? = some o2) (h3 : w4.heap[go]? = some (.cells #[x0, y0] 24 (0, 0))) (hgo : s0 + 3 ≤ go) (x y : Value) :
    Below s0 w ((w4.setCell ⟨go, 0, none⟩ x).setCell ⟨go, 1, none⟩ y) ∧ ((w4.setCell ⟨go, 0, none⟩ x).setCell ⟨go, 1, none⟩ y).heap[s0]? = some o1 ∧ ((w4.setCell ⟨go, 0, none⟩ x).setCell ⟨go, 1, none⟩ y).heap[s0 + 1]? = some o2 ∧
      ((w4.setCell ⟨go, 0, none⟩ x).setCell ⟨go, 1, none⟩ y).heap[go]? = some (.cells #[x, y] 24 (0, 0)) ∧ ((w4.setCell ⟨go, 0, none⟩ x).setCell ⟨go, 1, none⟩ y).heap.size = w4.heap.size :=
  ⟨(hB.setCell (by simp; omega) _).setCell (by simp; omega) _, heap_set (heap_set h1 (by simp; omega)) (by simp; omega), heap_set (heap_set h2 (by simp; omega)) (by simp; omega), set_pair h3 _ _, by simp [World.setCell]⟩
theorem bit_cast (n j : Nat) : (n : Int) / 2 ^ j % 2 = ((n / 2 ^ j % 2 : Nat) : Int) := by simp [Int.natCast_emod, Int.natCast_ediv, Int.natCast_pow]
theorem bit_yes {n j : Nat} (h : n / 2 ^ j % 2 = 1) : ((n : Int) / 2 ^ j % 2 == 1) = true := by rw [bit_cast, h]; rfl
theorem bit_no {n j : Nat} (h : ¬ n / 2 ^ j % 2 = 1) : ((n : Int) / 2 ^ j % 2 == 1) = false := by
  rw [bit_cast]
  generalize n / 2 ^ j % 2 = z at *
  rw [beq_eq_false_iff_ne]; omega
theorem half_eq {z q : Nat} (h : z / 2 = q) (hb : ¬ z % 2 = 1) : z = 2 * q := by omega
theorem two_half (n j : Nat) : 2 * (n / 2 ^ (j + 1)) ≤ n := by
  rw [Nat.pow_succ, ← Nat.div_div_eq_div_mul]
  have := Nat.div_le_self n (2 ^ j)
  generalize n / 2 ^ j = z at *
  omega
theorem bit_and (n j : Nat) (h : n ≤ 9223372036854775807) : bits .and .i64 ((n : Int) / 2 ^ j) 1 = ((n / 2 ^ j % 2 : Nat) : Int) := by
  have e : (n : Int) / 2 ^ j = ((n / 2 ^ j : Nat) : Int) := by simp [Int.natCast_ediv, Int.natCast_pow]
  have hle : n / 2 ^ j ≤ n := Nat.div_le_self _ _
  rw [e]
  have hk : ∀ z : Int, 0 ≤ z → z < 2 ^ 63 → IntKind.i64.wrap z = z := by intro z h0 h1; rw [IntKind.wrap_i64]; omega
  generalize n / 2 ^ j = z at *
  have := bits_mask .i64 63 (by decide) hk 1 (by decide) (z : Int) (by omega) (by omega)
  simpa using this

/-- What the loop of 'Pow' knows of the error's number and of 'out'. -/
def PowSt (s : Nat) (wr : World) (a : Int) (n k : Nat) (c : Int) (nn : Bool) (ao : Option Addr) (len : Nat) : Prop :=
  (c = 0 ∧ Num s wr nn ao len (a ^ (n / 2 ^ k)) ∧ bl (a ^ (n / 2 ^ k)).natAbs ≤ 4096) ∨ (c = 10 ∧ nn = false ∧ ao = none ∧ len = 0 ∧ ∃ m, m ≤ n ∧ 4096 < bl (a ^ m).natAbs)

set_option maxRecDepth 100000 in
set_option maxHeartbeats 2000000 in
theorem pow_good (na : Bool) (aa : Option Addr) (la ca : Nat) (A : List Nat) (n : Nat) (w : World) (hA : Rd w aa la ca A) (hn : n ≤ 9223372036854775807) (hbad : tooLong A = false) :
    Calls Tryd.prog 52 #[.agg #[.bool na, .slice aa la ca], .int .i64 (n : Int)] w fun e w' => ∃ n' ao' len' c, e = .returned (.tuple #[.agg #[.bool n', .slice ao' len' len'], .int .i64 c]) ∧ Fits w w' n' ao' len' c (num na A ^ n) ∧ Below w.heap.size w w' := by
  have hbn : bl n ≤ 63 := (bl_le n 63).2 (by omega)
  have hdiv0 : n / 2 ^ bl n = 0 := Nat.div_eq_of_lt ((bl_le n (bl n)).1 (Nat.le_refl _))
  have HD0 := hid hdiv0
  clear hdiv0
  generalize hbln : bl n = K at *
  go_enter Tryd.func52, Tryd.ntmps52
  go_wp2_with (first
    | (go_at_call 77; refine (long1_any _ na aa la ca A _ (((hA.alloc _).alloc _).alloc _) (by simp [go_sem]) (by simp [go_sem])).mono ?_; rintro e w1 ⟨rfl, hb1⟩; rw [hbad])
    | (go_at_call 24; refine (from_any 1 _ (by omega) (by omega)).mono ?_; rintro e w2 ⟨n1, ao1, len1, rfl, hn1, hb2⟩)
    | (go_at_call 95; refine (len_any n _ (by omega)).mono ?_; rintro e w3 ⟨rfl, rfl⟩; rw [hbln]))
  have hbad2 := hid hbad
  have HBL := hid hbln
  clear hbad hbln
  obtain ⟨p1, p2, _, hbw⟩ := hp3 _ _ _ _ hb1
  have hs1 := hb1.size
  have hs2 := hb2.size
  have hb3 : Below w2.heap.size w2 (w2.alloc (.cells #[.bool n1, .slice ao1 len1 len1] 24)) := (Below.refl _ _).alloc (Nat.le_refl _) _
  have P1 := hid (heap_keep (heap_keep p1 hb2) hb3)
  have P2 := hid (heap_keep (heap_keep p2 hb2) hb3)
  have P3 := hid (heap_alloc_new w2 (.cells #[.bool n1, .slice ao1 len1 len1] 24))
  have hgo : w.heap.size + 3 ≤ w2.heap.size := by simp at hs1; omega
  have hbv := (hbw.trans (hb2.mono hbw.size)).trans (hb3.mono (by omega))
  have hnv := (hn1.keep hb3).mono hbw.size
  have hltv : w2.heap.size < (w2.alloc (.cells #[.bool n1, .slice ao1 len1 len1] 24)).heap.size := by simp
  clear p1 p2 hbw hs1 hs2 hb1 hb2 hb3 hn1
  generalize w2.alloc (.cells #[.bool n1, .slice ao1 len1 len1] 24) = wv at *
  generalize w2.heap.size = go at *
  generalize hs0 : w.heap.size = s0 at *
  go_loopw [7, 8] (fun e i wr => ∃ (k : Nat) (c : Int) (nn : Bool) (ao : Option Addr) (len : Nat), k ≤ 63 ∧ i = .int .i64 ((k : Int) - 1) ∧ e = .int .i64 c ∧ Below s0 w wr ∧ Hid (wr.heap[s0]? = some (.cells #[.bool na, .slice aa la ca] 24 (0, 0))) ∧
      Hid (wr.heap[s0 + 1]? = some (.cells #[.bool false, .slice none 0 0] 24 (0, 0))) ∧ Hid (wr.heap[go]? = some (.cells #[.bool nn, .slice ao len len] 24 (0, 0))) ∧ go < wr.heap.size ∧ PowSt s0 wr (num na A) n k c nn ao len) (fun _ i _ => (intOf i + 1).toNat)
  case atStart => exact ⟨K, 0, n1, ao1, len1, hbn, rfl, rfl, hbv, P1, P2, P3, hltv, .inl ⟨rfl, by rw [HD0.out, Int.pow_zero]; exact hnv, by rw [HD0.out, Int.pow_zero]; decide⟩⟩
  case round =>
    obtain ⟨k, c, nn, ao, len, hk, rfl, rfl, hB, H1, H2, H3, hgl, hst⟩ := hrel
    obtain ⟨a0, a1, _, _⟩ := two_cells H1.out
    obtain ⟨r0, r1, rf0, rf1⟩ := two_cells H2.out
    obtain ⟨o0, o1, of0, of1⟩ := two_cells H3.out
    clear P1 P2 P3 hbv hnv hltv
    rcases hst with ⟨rfl, hnum, hbl⟩ | ⟨rfl, rfl, rfl, rfl, m, hmn, hml⟩
    · cases k with
      | zero =>
        rw [Nat.pow_zero, Nat.div_one] at hnum hbl
        go_wp2
        refine bodyPost_ret (v := .tuple #[.agg #[.bool nn, .slice ao len len], .int .i64 0]) (by simp [results, Tryd.results52, go_sem, r0, r1]) rfl ⟨_, _, _, _, rfl, .inl ⟨hbl, rfl, ?_⟩, ?_⟩
        · rw [hs0]; exact hnum.pair24 H2.out _ _
        · rw [hs0]; exact (hB.setCell (p := ⟨s0 + 1, 0, none⟩) (by simp) _).setCell (p := ⟨s0 + 1, 1, none⟩) (by simp) _
      | succ j =>
        obtain ⟨L, hL, tL, hLv, hL0⟩ := hnum.rd
        have hlg := long_num hLv hbl
        have HLV := hid hLv
        clear hLv
        have hq2 : n / 2 ^ j / 2 = n / 2 ^ (j + 1) := by rw [Nat.div_div_eq_div_mul, ← Nat.pow_succ]
        go_wp2_with fail
        refine (Mul_any nn ao len len L nn ao len len L _ hL hL).mono ?_
        rintro e w4 ⟨n2, ao2, len2, c2, rfl, hans, hb4⟩
        obtain ⟨q0, q1, qf0, qf1⟩ := two_cells (heap_keep H3.out hb4)
        have hs4 := hb4.size
        have hsr := hB.size
        rw [hs0] at hsr
        obtain ⟨K1, K2, K3, K4, K5⟩ := pow_after (hB.trans (hb4.mono hsr)) (heap_keep H1.out hb4) (heap_keep H2.out hb4) (heap_keep H3.out hb4) hgo (.bool n2) (.slice ao2 len2 len2)
        obtain ⟨ga0, ga1, _, _⟩ := two_cells K2
        obtain ⟨go0, go1, gof0, gof1⟩ := two_cells K4
        have hpow : num nn L * num nn L = num na A ^ (2 * (n / 2 ^ (j + 1))) := by
          rw [HLV.out, ← Int.pow_add]; congr 1; omega
        rcases hans with ⟨hx, _⟩ | ⟨_, ⟨hb2', rfl, hnum2⟩ | ⟨hl2, rfl, rfl, rfl, rfl⟩⟩
        · rw [hlg] at hx; exact absurd hx (by decide)
        · rw [hpow] at hb2' hnum2
          clear hpow
          have hnum3 := ((hnum2.set (p := ⟨go, 0, none⟩) hgl (.bool n2)).set (p := ⟨go, 1, none⟩) hgl (.slice ao2 len2 len2)).mono hsr
          have hbt := bit_and n j hn
          have HB2 := hid hb2'
          have HK := hid (And.intro K2 (And.intro K3 K4))
          have hgl5 : go < ((w4.setCell ⟨go, 0, none⟩ (.bool n2)).setCell ⟨go, 1, none⟩ (.slice ao2 len2 len2)).heap.size := by rw [K5]; omega
          have HQ2 := hid hq2
          clear K2 K3 K4 K5 H1 H2 H3 hb2' hnum2 hq2
          by_cases hbit : n / 2 ^ j % 2 = 1
          · have ht := bit_yes hbit
            have HBT := hid hbit
            clear hbit
            go_wp2_with fail
            generalize (w4.setCell ⟨go, 0, none⟩ (.bool n2)).setCell ⟨go, 1, none⟩ (.slice ao2 len2 len2) = w5 at *
            obtain ⟨L2, hL2, tL2, hLv2, _⟩ := hnum3.rd
            have hlg2 := long_num hLv2 HB2.out
            have hA5 := hA.keep (w' := w5) (by rw [hs0]; exact K1)
            refine (Mul_any n2 ao2 len2 len2 L2 na aa la ca A _ hL2 hA5).mono ?_
            rintro e w6 ⟨n3, ao3, len3, c3, rfl, hans3, hb6⟩
            have hs5 := K1.size
            rw [hs0] at hs5
            obtain ⟨s0', s1', sf0, sf1⟩ := two_cells (heap_keep HK.out.2.2 hb6)
            obtain ⟨J1, J2, J3, J4, J5⟩ := pow_after (K1.trans (hb6.mono hs5)) (heap_keep HK.out.1 hb6) (heap_keep HK.out.2.1 hb6) (heap_keep HK.out.2.2 hb6) hgo (.bool n3) (.slice ao3 len3 len3)
            have hs6 := hb6.size
            have hpow2 : num n2 L2 * num na A = num na A ^ (n / 2 ^ j) := by
              rw [hLv2, ← Int.pow_succ]; congr 1; have := HQ2.out; have := HBT.out; omega
            rw [hpow2] at hans3
            have HANS := hid hans3
            have HJ := hid (And.intro J2 (And.intro J3 (And.intro J4 J5)))
            clear hans3 hpow2 J2 J3 J4 J5 hLv2
            go_wp2
            go_roundw
            case rel =>
              refine ⟨j, c3, n3, ao3, len3, by omega, by go_num, rfl, J1, hid HJ.out.1, hid HJ.out.2.1, hid HJ.out.2.2.1, by rw [HJ.out.2.2.2]; omega, ?_⟩
              rcases HANS.out with ⟨hx, _⟩ | ⟨_, ⟨hb3', h0, hnum4⟩ | ⟨hl3, h0, h1, h2, h3⟩⟩
              · rw [hlg2, hbad2.out] at hx; exact absurd hx (by decide)
              · exact .inl ⟨h0, ((hnum4.set (p := ⟨go, 0, none⟩) hgl5 _).set (p := ⟨go, 1, none⟩) hgl5 _).mono hs5, hb3'⟩
              · exact .inr ⟨h0, h1, h2, h3, n / 2 ^ j, Nat.div_le_self _ _, hl3⟩
            case measure => simp [intOf]
          · have ht := bit_no hbit
            have HBT := hid hbit
            clear hbit
            go_wp2
            go_roundw
            case rel =>
              refine ⟨j, 0, n2, ao2, len2, by omega, by go_num, rfl, K1, hid HK.out.1, hid HK.out.2.1, hid HK.out.2.2, hgl5, .inl ⟨rfl, ?_, ?_⟩⟩
              · have e : n / 2 ^ j = 2 * (n / 2 ^ (j + 1)) := half_eq HQ2.out HBT.out
                rw [e]; exact hnum3
              · have e : n / 2 ^ j = 2 * (n / 2 ^ (j + 1)) := half_eq HQ2.out HBT.out
                rw [e]; exact HB2.out
            case measure => simp [intOf]
        · rw [hpow] at hl2
          have hgl5 : go < ((w4.setCell ⟨go, 0, none⟩ (.bool false)).setCell ⟨go, 1, none⟩ (.slice none 0 0)).heap.size := by rw [K5]; omega
          have HK := hid (And.intro K2 (And.intro K3 K4))
          have HL2 := hid hl2
          have HQ2 := hid hq2
          clear K2 K3 K4 K5 hpow hl2 hq2 H1 H2 H3
          go_wp2
          go_roundw
          case rel => exact ⟨j, 10, false, none, 0, by omega, by go_num, rfl, K1, hid HK.out.1, hid HK.out.2.1, hid HK.out.2.2, hgl5, .inr ⟨rfl, rfl, rfl, rfl, 2 * (n / 2 ^ (j + 1)), two_half n j, HL2.out⟩⟩
          case measure => simp [intOf]
    · have hml2 := hid (pow_long (num na A) hmn hml)
      clear hml hmn
      cases k with
      | zero =>
        go_wp2
        refine bodyPost_ret (v := .tuple #[.agg #[.bool false, .slice none 0 0], .int .i64 10]) (by simp [results, Tryd.results52, go_sem, r0, r1]) rfl ⟨_, _, _, _, rfl, .inr ⟨hml2.out, rfl, rfl, rfl, rfl⟩, ?_⟩
        rw [hs0]; exact (hB.setCell (p := ⟨s0 + 1, 0, none⟩) (by simp) _).setCell (p := ⟨s0 + 1, 1, none⟩) (by simp) _
      | succ j =>
        go_wp2
        refine bodyPost_ret (v := .tuple #[.agg #[.bool false, .slice none 0 0], .int .i64 10]) (by simp [results, Tryd.results52, go_sem, r0, r1]) rfl ⟨_, _, _, _, rfl, .inr ⟨hml2.out, rfl, rfl, rfl, rfl⟩, ?_⟩
        rw [hs0]; exact (hB.setCell (p := ⟨s0 + 1, 0, none⟩) (by simp) _).setCell (p := ⟨s0 + 1, 1, none⟩) (by simp) _
end Go.Proofs.YtldafoojkimdeaaDoor

namespace Go.Proofs.YtldafoojkimdeaaDoor
open Go.RowKit Lm

theorem pow_width {r k : Nat} (hr : 2 ≤ r) (h : r ^ k ≤ 4294967295) : k ≤ 31 := by
  apply Nat.le_of_lt_succ
  apply Nat.lt_of_not_le
  intro hk
  have h1 : 2 ^ 32 ≤ 2 ^ k := Nat.pow_le_pow_right (by decide) hk
  have h2 : 2 ^ k ≤ r ^ k := Nat.pow_le_pow_left hr k
  omega

set_option maxRecDepth 100000 in
set_option maxHeartbeats 1000000 in
theorem groupOf_any (r : Nat) (w : World) (h2 : 2 ≤ r) (h36 : r ≤ 36) :
    Calls Tryd.prog 124 #[.int .i64 (r : Int)] w fun e w' => ∃ k p : Nat, e = .returned (.tuple #[.int .i64 (k : Int), .int .u32 (p : Int)]) ∧ p = r ^ k ∧ 1 ≤ k ∧ k ≤ 31 ∧ 1 ≤ p ∧ p ≤ 4294967295 ∧ w = w' := by
  go_enter Tryd.func124, Tryd.ntmps124
  go_wp2
  go_loop [2, 5] (fun a b => ∃ k p : Nat, a = .int .i64 (k : Int) ∧ b = .int .u64 (p : Int) ∧ Hid (p = r ^ k) ∧ 1 ≤ k ∧ k ≤ 31 ∧ 1 ≤ p ∧ p ≤ 4294967295) (fun _ b => (4294967296 - intOf b).toNat)
  case atStart => exact ⟨1, r, rfl, rfl, hid (by rw [Nat.pow_one]), by omega, by omega, by omega, by omega⟩
  case round =>
    obtain ⟨k, p, rfl, rfl, hp, hk1, hk, hp1, hpb⟩ := hrel
    have hq : p * r ≤ 4294967295 * 36 := Nat.mul_le_mul hpb h36
    have hq2 : p * 2 ≤ p * r := Nat.mul_le_mul_left _ h2
    have hqi : (p : Int) * (r : Int) ≤ 154618822620 := by have := Int.ofNat_le.2 hq; simpa using this
    have hq0 : 0 ≤ (p : Int) * (r : Int) := Int.mul_nonneg (by omega) (by omega)
    have hcast : (p : Int) * (r : Int) = ((p * r : Nat) : Int) := by simp [Int.natCast_mul]
    have HC := hid hcast
    clear hcast hq
    by_cases hle : p * r ≤ 4294967295
    · have hle' : (p : Int) * (r : Int) ≤ 4294967295 := by rw [HC.out]; omega
      have hpw : p * r = r ^ (k + 1) := by rw [hp.out, Nat.pow_succ]
      have hk2 := pow_width h2 (by rw [← hpw]; exact hle)
      have HPW := hid hpw
      clear hpw
      go_wp2
      go_round
      case rel => exact ⟨k + 1, p * r, by go_num, congrArg (Value.int .u64) HC.out, HPW, by omega, hk2, by omega, hle⟩
      case measure => simp only [intOf]; rw [HC.out]; omega
    · have hle' : ¬ (p : Int) * (r : Int) ≤ 4294967295 := by rw [HC.out]; omega
      go_wp2
      go_ret2
      exact ⟨k, p, rfl, hp.out, hk1, hk, hp1, hpb, rfl⟩

/-- What a digit counts; 36: it is none. -/
def dv (c : Nat) : Nat := if 48 ≤ c ∧ c ≤ 57 then c - 48 else if 97 ≤ c ∧ c ≤ 122 then c - 87 else if 65 ≤ c ∧ c ≤ 90 then c - 55 else 36
theorem dv_le (c : Nat) : dv c ≤ 36 := by unfold dv; split <;> (try split) <;> (try split) <;> omega

set_option maxRecDepth 100000 in
set_option maxHeartbeats 1000000 in
theorem digitOf_any (c : Nat) (w : World) (h : c < 256) :
    Calls Tryd.prog 119 #[.int .u8 (c : Int)] w fun e w' => e = .returned (.int .i64 (dv c : Int)) ∧ w = w' := by
  rcases (show (48 ≤ c ∧ c ≤ 57) ∨ (97 ≤ c ∧ c ≤ 122) ∨ (65 ≤ c ∧ c ≤ 90) ∨ c < 48 ∨ (57 < c ∧ c < 65) ∨ (90 < c ∧ c < 97) ∨ 122 < c by omega) with ⟨h1, h2⟩ | ⟨h1, h2⟩ | ⟨h1, h2⟩ | h1 | ⟨h1, h2⟩ | ⟨h1, h2⟩ | h1
  all_goals
    have e : ∃ z, dv c = z := ⟨_, rfl⟩
    obtain ⟨z, hz⟩ := e
    have HZ := hid hz
    rw [hz]
    clear hz
    go_enter Tryd.func119, Tryd.ntmps119
    go_wp2
    go_ret
    refine ⟨?_, rfl⟩
    have hz := HZ.out
    unfold dv at hz
    repeat' split at hz
    all_goals first | (exfalso; omega) | exact congrArg (fun z => Ending.returned (.int .i64 z)) (by omega)

/-- A text of digits of a radix, one at least. -/
def allD (s : ByteArray) (r : Nat) : Bool := decide (0 < s.size ∧ ∀ j (h : j < s.size), dv s[j].toNat < r)

set_option maxRecDepth 100000 in
set_option maxHeartbeats 1000000 in
theorem areDigits_any (s : ByteArray) (r : Nat) (w : World) (hs : s.size ≤ maxLen) (_hr : r ≤ 36) :
    Calls Tryd.prog 101 #[.string s, .int .i64 (r : Int)] w fun e w' => e = .returned (.bool (allD s r)) ∧ w = w' := by
  unfold maxLen at hs
  go_enter Tryd.func101, Tryd.ntmps101
  go_wp2
  go_loop [8] (fun i => ∃ k : Nat, k ≤ s.size ∧ i = .int .i64 (k : Int) ∧ Hid (∀ j (h : j < s.size), j < k → dv s[j].toNat < r)) (fun i => s.size - (intOf i).toNat)
  case atStart => exact ⟨0, by omega, rfl, hid (fun j _ h => by omega)⟩
  case round =>
    obtain ⟨k, hk, rfl, hall⟩ := hrel
    by_cases hlt : k < s.size
    · have hc : s[k].toNat < 256 := s[k].toNat_lt
      have hdl := dv_le s[k].toNat
      by_cases hd : dv s[k].toNat < r
      · go_wp2_with (go_at_call 119; refine (digitOf_any _ _ hc).mono ?_; rintro e w2 ⟨rfl, rfl⟩)
        go_round
        case rel =>
          refine ⟨k + 1, by omega, by go_num, hid ?_⟩
          intro j hj hjk
          by_cases e : j = k
          · subst e; exact hd
          · exact hall.out j hj (by omega)
        case measure => simp [intOf]; omega
      · have e : allD s r = false := by
          unfold allD; rw [decide_eq_false_iff_not]; intro h; exact hd (h.2 k hlt)
        have HE := hid e
        clear e
        go_wp2_with (go_at_call 119; refine (digitOf_any _ _ hc).mono ?_; rintro e w2 ⟨rfl, rfl⟩)
        go_ret
        exact ⟨by rw [HE.out]; rfl, rfl⟩
    · have e : allD s r = decide (0 < s.size) := by
        unfold allD; rw [Bool.eq_iff_iff, decide_eq_true_iff, decide_eq_true_iff]
        exact ⟨fun h => h.1, fun h => ⟨h, fun j hj => hall.out j hj (by omega)⟩⟩
      have HE := hid e
      clear e
      go_wp2
      go_ret
      exact ⟨by rw [HE.out]; simp, rfl⟩
end Go.Proofs.YtldafoojkimdeaaDoor

namespace Go.Proofs.YtldafoojkimdeaaDoor
open Go.RowKit Lm

def lims (L : List Nat) : List Value := L.map fun x : Nat => Value.int .u32 (x : Int)
theorem lims_len (L : List Nat) : (lims L).length = L.length := by simp [lims]
theorem lims_get (L : List Nat) (i : Nat) (h : i < L.length) : (lims L)[i]? = some (.int .u32 (dg L i : Int)) := by
  unfold lims dg; rw [getD_in _ _ h]; simp [h]
theorem lims_set (L : List Nat) (i : Nat) {z : Int} (x : Nat) (hz : z = (x : Int)) : (lims L).set i (.int .u32 z) = lims (L.set i x) := by
  subst hz; unfold lims; rw [List.map_set]
theorem lims_snoc (L : List Nat) {z : Int} (x : Nat) (hz : z = (x : Int)) : lims L ++ [.int .u32 z] = lims (L ++ [x]) := by subst hz; simp [lims]

theorem app_step {p c x q o c' s t g : Nat} (h : s + p * c = t * q + g) (he : c + x * q = o + 4294967296 * c') :
    (s + p * o) + p * 4294967296 * c' = (t + p * x) * q + g := by grind

/-- A slice of limbs of the call's own that may grow. -/
def Grow (B : Nat) (w : World) (v : Value) (L : List Nat) : Prop := w.ownsRow B 43 1 v L.length (lims L)

set_option maxRecDepth 100000 in
set_option maxHeartbeats 2000000 in
theorem appendGroup_any (B : Nat) (v : Value) (L : List Nat) (p x : Nat) (w : World) (hG : Grow B w v L) (hB : B ≤ w.heap.size) (hok : Ok L) (hl : L.length ≤ 5000) (hp : p < 4294967296) (hx : x < 4294967296) :
    Calls Tryd.prog 125 #[v, .int .u32 (p : Int), .int .u32 (x : Int)] w fun e w' => ∃ v' L', e = .returned v' ∧ Grow B w' v' L' ∧ Ok L' ∧ val L' = val L * p + x ∧ L'.length ≤ L.length + 1 ∧ Below B w w' := by
  obtain ⟨i0, hi, hz0, hz1, hz2⟩ := info_parts Tryd.info43
  rcases hG.2 with ⟨rfl, hn0⟩ | ⟨g, cap, cur, rfl, hBg, hgb, hnc, hcm, hcs, htk⟩
  · have hL : L = [] := List.eq_nil_of_length_eq_zero hn0
    subst hL
    clear hn0
    go_enter Tryd.func125, Tryd.ntmps125
    go_wp2
    go_loopw [7, 14] (fun c i wr => ∃ (cv : Nat), i = .int .i64 0 ∧ c = .int .u64 (cv : Int) ∧ cv < 4294967296 ∧ Hid (cv = x) ∧ Hid (wr = w)) (fun _ i _ => 0)
    case atStart => exact ⟨x, rfl, rfl, hx, hid rfl, hid rfl⟩
    case round =>
      obtain ⟨cv, rfl, rfl, hcv, hcx, hwr⟩ := hrel
      obtain rfl := hwr.out
      clear hwr
      by_cases hc0 : 0 < cv
      · go_wp2_with (at_builtin; refine wpList_append_own _ rfl _ _ 22 rfl B 43 i0 (.int .u32 0) 1 4 Tryd.underlying22 hi hz0 hz1 hz2 rfl (by decide) _ 0 [] rfl (World.ownsRow_nil _ _ _ _) ⟨wr.heap.size, 0, none⟩ 1 1 [.int .u32 (cv : Int)] rfl rfl ?c1 ?c2 ?c3 ?c4 ?c5 ?_)
        case c1 =>
          intro j u hj
          match j, hj with
          | 0, hj => simp at hj; subst hj; simp [Addr.add]
        case c2 => intro u hu; simp at hu; subst hu; rfl
        case c3 => unfold maxLen; omega
        case c4 => omega
        case c5 => have := (Below.refl B wr).size; simp; omega
        intro v' w1 hown' hgrow _
        have hb1 : Below B wr w1 := (Below.refl B wr).trans (((Below.refl B _).alloc (by have := (Below.refl B wr).size; omega) _).grown hgrow (by have := (Below.refl B wr).size; simp; omega) (by intro k hk; simp [Value.ownBlock] at hk))
        clear hgrow
        go_wp2
        go_ret
        refine ⟨v', ([] : List Nat) ++ [cv], rfl, ?_, (Ok.nil).snoc hcv, ?_, by simp [List.length_nil], hb1⟩
        · exact hown'
        · rw [val_snoc, List.length_nil]; exact (by simp [val, P]; exact hcx.out)
      · have hc : cv = 0 := by omega
        have HC0 := hid hc
        clear hc
        go_wp2
        go_ret
        exact ⟨_, [], rfl, hG, Ok.nil, by have := hcx.out; have := HC0.out; simp [val]; omega, by simp, Below.refl _ _⟩
  · clear hgb hnc hcm hcs htk
    go_enter Tryd.func125, Tryd.ntmps125
    go_wp2
    go_loopw [7, 14] (fun c i wr => ∃ (k cv : Nat) (M : List Nat), k ≤ L.length ∧ i = .int .i64 (k : Int) ∧ c = .int .u64 (cv : Int) ∧ cv < 4294967296 ∧ Hid (M.length = k) ∧ Ok M ∧ Hid (val M + P k * cv = val (L.take k) * p + x) ∧
        wr.ownsRow B 43 1 (.slice (some ⟨g, 0, none⟩) L.length cap) L.length (lims (M ++ L.drop k)) ∧ Below B w wr) (fun _ i _ => L.length - (intOf i).toNat)
    case atStart => exact ⟨0, x, [], by omega, rfl, rfl, hx, hid rfl, Ok.nil, hid (by simp [val, P]), hG, Below.refl _ _⟩
    case round =>
      obtain ⟨k, cv, M, hk, rfl, rfl, hcv, hM, hokM, hval, hown, hbel⟩ := hrel
      by_cases hlt : k < L.length
      · have hcell := hown.cellAt k (by omega)
        rw [lims_get _ _ (by rw [len_mid M L k hM.out (by omega)]; exact hlt), dg_mid M L k hM.out] at hcell
        have hfr := hown.frozenAt k
        have hy := hok.dg k
        have hpr : dg L k * p ≤ 4294967295 * 4294967295 := Nat.mul_le_mul (by omega) (by omega)
        have hpi : (dg L k : Int) * (p : Int) ≤ 18446744065119617025 := by have := Int.ofNat_le.2 hpr; simpa using this
        have hpn : 0 ≤ (dg L k : Int) * (p : Int) := Int.mul_nonneg (by omega) (by omega)
        obtain ⟨V, hV⟩ : ∃ V, V = cv + dg L k * p := ⟨_, rfl⟩
        have hcast : (cv : Int) + (dg L k : Int) * (p : Int) = (V : Int) := by rw [hV]; simp [Int.natCast_mul]
        have hVs : V ≤ 18446744073709551615 := by omega
        have HC := hid hcast
        have HV := hid hV
        clear hcast hV hpr
        go_wp2
        go_roundw
        case rel =>
          have hst := hown.stored k (Value.int .u32 (((cv : Int) + (dg L k : Int) * (p : Int)) % 4294967296))
          refine ⟨k + 1, V / 4294967296, M ++ [V % 4294967296], by omega, by go_num, congrArg (Value.int .u64) (by rw [HC.out]; omega), by omega, hid (by rw [List.length_append, hM.out]; rfl), hokM.snoc (by omega), hid ?_, ?_, hbel.setCell hBg _⟩
          · rw [val_snoc, hM.out, P_succ, val_take_dg L k hlt]
            exact app_step hval.out (by rw [← HV.out]; omega)
          · have h1 := hst.1
            rw [lims_set _ k (V % 4294967296) (by rw [HC.out]; omega), set_mid M L k _ hM.out hlt] at h1
            exact h1
        case measure => simp [intOf]; omega
      · obtain rfl : k = L.length := by omega
        rw [List.drop_length, List.append_nil] at hown
        have hv := hval.out
        rw [List.take_length] at hv
        have HF := hid hv
        clear hv
        by_cases hc0 : 0 < cv
        · go_wp2_with (at_builtin; refine wpList_append_own _ rfl _ _ 22 rfl B 43 i0 (.int .u32 0) 1 4 Tryd.underlying22 hi hz0 hz1 hz2 rfl (by decide) _ _ _ rfl (hown.alloc _) ⟨wr.heap.size, 0, none⟩ 1 1 [.int .u32 (cv : Int)] rfl rfl ?c1 ?c2 ?c3 ?c4 ?c5 ?_)
          case c1 =>
            intro j u hj
            match j, hj with
            | 0, hj => simp at hj; subst hj; simp [Addr.add]
          case c2 => intro u hu; simp at hu; subst hu; rfl
          case c3 => unfold maxLen; omega
          case c4 => omega
          case c5 => have := (hbel).size; simp; omega
          intro v' w1 hown' hgrow _
          have hb1 : Below B w w1 := (hbel).trans (((Below.refl B _).alloc (by have := (hbel).size; omega) _).grown hgrow (by have := (hbel).size; simp; omega) (by intro k hk; simp [Value.ownBlock] at hk; omega))
          clear hgrow
          go_wp2
          go_ret
          refine ⟨v', M ++ [cv], rfl, ?_, (hokM).snoc hcv, ?_, by simp [hM.out], hb1⟩
          · unfold Grow
            rw [List.length_append, hM.out]
            rw [lims_snoc _ cv rfl] at hown'
            exact hown'
          · rw [val_snoc, hM.out]; exact HF.out
        · have hc : cv = 0 := by omega
          have HC0 := hid hc
          clear hc
          go_wp2
          go_ret
          refine ⟨_, M, rfl, ?_, hokM, ?_, by rw [hM.out]; omega, hbel⟩
          · unfold Grow; rw [hM.out]; exact hown
          · have := HF.out; rw [HC0.out] at this; simpa using this
end Go.Proofs.YtldafoojkimdeaaDoor

namespace Go.Proofs.YtldafoojkimdeaaDoor
open Go.RowKit Lm

/-- The number of digits. -/
def dval (r : Nat) (l : List UInt8) : Nat := l.foldl (fun a c => a * r + dv c.toNat) 0
theorem dval_snoc (r : Nat) (l : List UInt8) (c : UInt8) : dval r (l ++ [c]) = dval r l * r + dv c.toNat := by unfold dval; rw [List.foldl_append]; rfl
theorem dval_acc (r : Nat) (l : List UInt8) : ∀ a, l.foldl (fun a c => a * r + dv c.toNat) a = a * r ^ l.length + dval r l := by
  induction l with
  | nil => intro a; simp [dval]
  | cons c l ih =>
    intro a
    have h1 := ih (a * r + dv c.toNat)
    have h2 := ih (0 * r + dv c.toNat)
    unfold dval
    rw [List.foldl_cons, List.foldl_cons, h1, h2, List.length_cons, Nat.pow_succ]
    simp only [Nat.zero_mul, Nat.zero_add]
    grind
theorem dval_append (r : Nat) (a b : List UInt8) : dval r (a ++ b) = dval r a * r ^ b.length + dval r b := by
  conv => lhs; unfold dval
  rw [List.foldl_append, dval_acc]; rfl
theorem dval_lt (r : Nat) (l : List UInt8) (h : ∀ c ∈ l, dv c.toNat < r) : dval r l < r ^ l.length := by
  induction l with
  | nil => simp [dval]
  | cons c l ih =>
    have h1 := ih (fun x hx => h x (List.mem_cons_of_mem _ hx))
    have h2 := h c List.mem_cons_self
    have e := dval_append r [c] l
    rw [List.singleton_append] at e
    have e1 : dval r [c] = dv c.toNat := by simp [dval]
    rw [e, e1, List.length_cons, Nat.pow_succ, Nat.mul_comm (r ^ l.length)]
    have := Nat.mul_le_mul_right (r ^ l.length) (show dv c.toNat + 1 ≤ r by omega)
    rw [Nat.add_mul, Nat.one_mul] at this
    omega

theorem first_take {n wd T0 : Nat} (hw : 1 ≤ wd) (h : T0 = (n + wd - 1) % wd) : n = 0 ∨ (T0 + 1 ≤ n ∧ (n - (T0 + 1)) % wd = 0) := by
  rcases Nat.eq_zero_or_pos n with h0 | h0
  · exact .inl h0
  · right
    have e : (n + wd - 1) % wd = (n - 1) % wd := by
      rw [show n + wd - 1 = (n - 1) + wd by omega, Nat.add_mod_right]
    rw [e] at h
    have h1 := Nat.mod_le (n - 1) wd
    have h2 := Nat.div_add_mod (n - 1) wd
    refine ⟨by omega, ?_⟩
    rw [show n - (T0 + 1) = wd * ((n - 1) / wd) by omega]
    exact Nat.mul_mod_right _ _
theorem next_take {n wd : Nat} (h : n % wd = 0) : n = 0 ∨ (wd ≤ n ∧ (n - wd) % wd = 0) := by
  rcases Nat.eq_zero_or_pos n with h0 | h0
  · exact .inl h0
  · right
    have h1 : wd ≤ n := Nat.le_of_dvd h0 (Nat.dvd_of_mod_eq_zero h)
    exact ⟨h1, by rw [← Nat.mod_eq_sub_mod h1]; exact h⟩

theorem toList_get (t : ByteArray) (k : Nat) (h : k < t.size) : t.data.toList.take (k + 1) = t.data.toList.take k ++ [t[k]] := by
  rw [List.take_succ_eq_append_getElem (by simpa using h)]; rfl
theorem mem_get (t : ByteArray) (k : Nat) (h : k < t.size) : t[k] ∈ t.data.toList := by
  have : t[k] = t.data.toList[k]'(by simpa using h) := rfl
  rw [this]; exact List.getElem_mem _

set_option maxRecDepth 100000 in
set_option maxHeartbeats 2000000 in
theorem readDigits_any (s : ByteArray) (r : Nat) (w : World) (hs : s.size ≤ 4096) (h2 : 2 ≤ r) (h36 : r ≤ 36) (hd : ∀ c ∈ s.data.toList, dv c.toNat < r) :
    Calls Tryd.prog 103 #[.string s, .int .i64 (r : Int)] w fun e w' => ∃ v L, e = .returned v ∧ Grow w.heap.size w' v L ∧ Ok L ∧ val L = dval r s.data.toList ∧ L.length ≤ 4097 ∧ Below w.heap.size w w' := by
  have Hd := hid hd
  clear hd
  go_enter Tryd.func103, Tryd.ntmps103
  go_wp2_with (go_at_call 124; refine (groupOf_any r _ h2 h36).mono ?_; rintro e w2 ⟨wd, p, rfl, hp, hw1, hw31, hp1, hpb, rfl⟩; have HP := hid hp; clear hp; obtain ⟨T0, hT0⟩ : ∃ T0 : Nat, T0 = (s.size + wd - 1) % wd := ⟨_, rfl⟩; have hT1 : T0 < wd := (by rw [hT0]; exact Nat.mod_lt _ (by omega)); have hm : ((s.size : Int) + (wd : Int) - 1) % (wd : Int) = (T0 : Int) := (by rw [hT0, show (s.size : Int) + (wd : Int) - 1 = ((s.size + wd - 1 : Nat) : Int) by omega]; simp); have HT := hid hT0; clear hT0)
  have hpl : p < 4294967296 := by omega
  have HM := hid hm
  clear hm
  go_loopw [0, 7, 8] (fun a b c wr => ∃ (t : ByteArray) (pre : List UInt8) (L : List Nat) (tk : Nat), a = .string t ∧ c = .int .i64 (tk : Int) ∧ Hid (s.data.toList = pre ++ t.data.toList) ∧ Grow w.heap.size wr b L ∧ Ok L ∧ Hid (val L = dval r pre) ∧ L.length ≤ pre.length ∧ pre.length + t.size ≤ 4096 ∧
      1 ≤ tk ∧ tk ≤ wd ∧ Hid (tk = wd ∨ pre = []) ∧ Hid (t.size = 0 ∨ (tk ≤ t.size ∧ (t.size - tk) % wd = 0)) ∧ Below w.heap.size w wr) (fun a _ _ _ => match a with | .string t => t.size | _ => 0)
  case atStart =>
    exact ⟨s, [], [], T0 + 1, rfl, by go_num, hid rfl, World.ownsRow_nil _ _ _ _, Ok.nil, hid rfl, by simp, by simpa using hs, by omega, by omega, hid (.inr rfl), hid (first_take hw1 HT.out), Below.refl _ _⟩
  case round =>
    obtain ⟨t, pre, L, tk, rfl, rfl, hsp, hG, hok, hval, hLl, hsz, htk1, htk2, hfirst, hdivs, hbel⟩ := hrel
    by_cases ht0 : 0 < t.size
    · have hdv : tk ≤ t.size ∧ (t.size - tk) % wd = 0 := by
        rcases hdivs.out with h | h
        · omega
        · exact h
      have htk3 := hdv.1
      have HDV := hid hdv.2
      clear hdv
      go_wp2
      go_loop [9, 29] (fun g i => ∃ (k gv : Nat), k ≤ tk ∧ i = .int .i64 (k : Int) ∧ g = .int .u32 (gv : Int) ∧ Hid (gv = dval r (t.data.toList.take k)) ∧ gv ≤ 4294967295) (fun _ i => tk - (intOf i).toNat)
      case atStart => exact ⟨0, 0, by omega, rfl, rfl, hid rfl, by omega⟩
      case round =>
        obtain ⟨k, gv, hk, rfl, rfl, hgv, hgb⟩ := hrel
        by_cases hlt : k < tk
        · have hkt : k < t.size := by omega
          have hc : t[k].toNat < 256 := t[k].toNat_lt
          have hdl := dv_le t[k].toNat
          have hall : ∀ c ∈ t.data.toList.take (k + 1), dv c.toNat < r := by
            intro c hc
            apply Hd.out
            rw [hsp.out]
            exact List.mem_append_right _ (List.mem_of_mem_take hc)
          have hnew : gv * r + dv t[k].toNat = dval r (t.data.toList.take (k + 1)) := by rw [toList_get t k hkt, dval_snoc, ← hgv.out]
          have hbd := dval_lt r _ hall
          have htl : t.data.toList.length = t.size := by simp
          rw [← hnew, List.length_take, Nat.min_eq_left (by omega)] at hbd
          clear htl
          have hpw : r ^ (k + 1) ≤ r ^ wd := Nat.pow_le_pow_right (by omega) (by omega)
          have hle : gv * r + dv t[k].toNat ≤ 4294967295 := by have := HP.out; omega
          have hi : (gv : Int) * (r : Int) + (dv t[k].toNat : Int) ≤ 4294967295 := by have := Int.ofNat_le.2 hle; simpa using this
          have hi0 : 0 ≤ (gv : Int) * (r : Int) := Int.mul_nonneg (by omega) (by omega)
          have hcast : (gv : Int) * (r : Int) + (dv t[k].toNat : Int) = ((gv * r + dv t[k].toNat : Nat) : Int) := by simp [Int.natCast_mul]
          have HC := hid hcast
          have HN := hid hnew
          clear hcast hnew hbd hpw hall
          go_wp2_with (go_at_call 119; refine (digitOf_any _ _ hc).mono ?_; rintro e w2 ⟨rfl, rfl⟩)
          go_round
          case rel => exact ⟨k + 1, gv * r + dv t[k].toNat, by omega, by go_num, congrArg (Value.int .u32) HC.out, HN, hle⟩
          case measure => simp [intOf]; omega
        · obtain rfl : k = tk := by omega
          have hlt : t.data.toList.length = t.size := by simp
          have hvn : val L * p + gv = dval r (pre ++ t.data.toList.take k) := by
            rw [dval_append, List.length_take, hlt, Nat.min_eq_left htk3, ← hgv.out]
            rcases hfirst.out with h | h
            · rw [hval.out, HP.out, h]
            · rw [hval.out, h]; simp [dval]
          have HVN := hid hvn
          have HLT := hid hlt
          clear hvn hlt
          go_wp2_with (go_at_call 125; refine (appendGroup_any w.heap.size _ L p gv _ hG hbel.size hok (by omega) hpl (by omega)).mono ?_; rintro e w3 ⟨v', L', rfl, hG', hok', hval', hL', hb3⟩; have HV' := hid hval'; clear hval')
          have hsz2 : (t.extract k t.size).size = t.size - k := by
            have h1 := Lib.extract_to_end t k
            have h2 : (t.extract k t.size).data.toList.length = (t.extract k t.size).size := by simp
            rw [← h2, h1, List.length_drop, HLT.out]
          go_roundw
          case rel =>
            refine ⟨t.extract k t.size, pre ++ t.data.toList.take k, L', wd, rfl, rfl, hid ?_, hG', hok', hid ?_, ?_, ?_, hw1, Nat.le_refl _, hid (.inl rfl), hid ?_, hbel.trans hb3⟩
            · rw [Lib.extract_to_end, List.append_assoc, List.take_append_drop]; exact hsp.out
            · rw [HV'.out]; exact HVN.out
            · rw [List.length_append, List.length_take, HLT.out]; omega
            · rw [List.length_append, List.length_take, HLT.out, hsz2]; omega
            · rw [hsz2]; exact next_take HDV.out
          case measure => simp only []; rw [hsz2]; omega
    · have h0 : t.data.toList = [] := by
        apply List.eq_nil_of_length_eq_zero
        have : t.data.toList.length = t.size := by simp
        omega
      have hfin : s.data.toList = pre := by rw [hsp.out, h0, List.append_nil]
      have HF := hid hfin
      clear h0 hfin
      go_wp2
      go_ret
      exact ⟨_, L, rfl, hG, hok, by rw [HF.out]; exact hval.out, by omega, hbel⟩
end Go.Proofs.YtldafoojkimdeaaDoor

namespace Go.Proofs.YtldafoojkimdeaaDoor
open Go.RowKit Lm

theorem isRadix_yes (r : Nat) (w : World) (h2 : 2 ≤ r) (h36 : r ≤ 36) : Calls Tryd.prog 99 #[.int .i64 (r : Int)] w fun e w' => e = .returned (.bool true) ∧ w = w' := by
  go_enter Tryd.func99, Tryd.ntmps99
  go_wp2
  go_ret
  exact ⟨by simp; omega, rfl⟩

theorem Grow.rd {B : Nat} {w : World} {v : Value} {L : List Nat} (h : Grow B w v L) (ho : Ok L) (hl : L.length ≤ 70368744177664) : ∃ ao cap, v = .slice ao L.length cap ∧ Rd w ao L.length cap L := by
  have hc := h
  rcases h.2 with ⟨rfl, h0⟩ | ⟨g, cap, cur, rfl, hb, hg, hnc, hcm, hcs, htk⟩
  · have : L = [] := List.eq_nil_of_length_eq_zero h0
    subst this
    exact ⟨none, 0, rfl, rfl, Ok.nil, Nat.le_refl _, by simp, fun h => by simp at h⟩
  · refine ⟨_, cap, rfl, rfl, ho, hnc, hl, fun _ => ⟨g, 0, rfl, fun i hi => ?_⟩⟩
    rw [Nat.zero_add, hc.cellAt i (by omega), lims_get L i hi]

/-- The text without a sign ahead; and without noughts ahead. -/
def unsigned (s : ByteArray) : ByteArray := ⟨(Lib.trimPrefix s.data.toList [45]).toArray⟩
def bare (s : ByteArray) : ByteArray := ⟨(Lib.trimLeftB (unsigned s).data.toList 48).toArray⟩
/-- A number by its sign. -/
def sval (sg : Bool) (n : Nat) : Int := if sg then -(n : Int) else (n : Int)
def signed (s : ByteArray) : Bool := Lib.hasPrefix s.data.toList [45]

set_option maxRecDepth 100000 in
set_option maxHeartbeats 2000000 in
theorem parse_good (s : ByteArray) (r : Nat) (w : World) (h2 : 2 ≤ r) (h36 : r ≤ 36) (hus : (unsigned s).size ≤ maxLen) (hall : allD (unsigned s) r = true) (hbs : (bare s).size ≤ 4096) (hbd : ∀ c ∈ (bare s).data.toList, dv c.toNat < r) :
    Calls Tryd.prog 57 #[.string s, .int .i64 (r : Int)] w fun e w' => ∃ n' ao' len' c, e = .returned (.tuple #[.agg #[.bool n', .slice ao' len' len'], .int .i64 c]) ∧ Fits w w' n' ao' len' c (sval (signed s) (dval r (bare s).data.toList)) ∧ Below w.heap.size w w' := by
  have HBD := hid hbd
  have HUS := hid hus
  have hcut : ∀ wx, Calls Tryd.prog 100 #[.string s, .string ⟨#[45]⟩] wx fun e w' => e = .returned (.tuple #[.string (unsigned s), .bool (signed s)]) ∧ wx = w' := fun wx =>
    (Tryd.strings_CutPrefix s ⟨#[45]⟩ wx).mono fun e w' h => ⟨h.1, h.2.symm⟩
  have htrim : ∀ wx, Calls Tryd.prog 102 #[.string (unsigned s), .string ⟨#[48]⟩] wx fun e w' => e = .returned (.string (bare s)) ∧ wx = w' := fun wx =>
    (Tryd.strings_TrimLeft_one (unsigned s) 48 (by decide) wx).mono fun e w' h => ⟨h.1, h.2.symm⟩
  have Hcut := hid hcut
  have Htrim := hid htrim
  clear hbd hus hcut htrim
  generalize signed s = sg at *
  generalize unsigned s = us at *
  generalize bare s = bs at *
  go_enter Tryd.func57, Tryd.ntmps57
  go_wp2_with (first
    | (go_at_call 99; refine (isRadix_yes r _ h2 h36).mono ?_; rintro e w1 ⟨rfl, rfl⟩)
    | (go_at_call 100; refine (Hcut.out _).mono ?_; rintro e w1 ⟨rfl, rfl⟩)
    | (go_at_call 101; refine (areDigits_any us r _ HUS.out h36).mono ?_; rintro e w1 ⟨rfl, rfl⟩; rw [hall])
    | (go_at_call 102; refine (Htrim.out _).mono ?_; rintro e w1 ⟨rfl, rfl⟩)
    | (go_at_call 103; refine (readDigits_any bs r _ hbs h2 h36 HBD.out).mono ?_; rintro e w1 ⟨v, L, rfl, hG, hok, hval, hlen, hb1⟩; obtain ⟨ao, cap, rfl, hRd⟩ := hG.rd hok (by omega); have HV := hid hval; clear hval)
    | (go_at_call 78; refine (fit_any sg _ _ _ L _ hRd).mono ?_; rintro e w2 ⟨n', ao', len', c, rfl, hfit, hb2⟩; obtain ⟨c0, c1, f0, f1⟩ := two_cells (heap_keep (blk_keep hb1) hb2)))
  have hs1 := hb1.size
  refine bodyPost_ret (v := .tuple #[.agg #[.bool n', .slice ao' len' len'], .int .i64 c]) (by simp [results, Tryd.results57, go_sem, c0, c1]) rfl ⟨_, _, _, _, rfl, ?_, ?_⟩
  · have e : num sg L = sval sg (dval r bs.data.toList) := by unfold num sval; rw [HV.out]
    rw [← e]
    exact hfit.set2 (by simp at hs1; omega) (by simp at hs1 ⊢; omega) (by simp at hs1 ⊢; omega) _ _
  · exact (((balloc hb1).trans (hb2.mono (by simp at hs1; omega))).setCell (by simp) _).setCell (by simp) _
end Go.Proofs.YtldafoojkimdeaaDoor

namespace Go.Proofs.YtldafoojkimdeaaDoor
open Go.RowKit Lm

/-- The digits of a number, the lowest first; f is how many there may be. -/
def lowD (r : Nat) : Nat → Nat → List Nat
  | 0, _ => []
  | f + 1, v => if v = 0 then [] else v % r :: lowD r f (v / r)
theorem lowD_zero (r f : Nat) : lowD r f 0 = [] := by cases f <;> rfl
theorem lowD_step (r f v : Nat) (h : v ≠ 0) : lowD r (f + 1) v = v % r :: lowD r f (v / r) := by rw [lowD, if_neg h]

/-- A digit's letter. -/
def dch (d : Nat) : Nat := if d < 10 then 48 + d else 87 + d
def chs (E : List Nat) : List Value := E.map fun d : Nat => Value.int .u8 (dch d : Int)

theorem Tryd.info5 : (Tryd.prog.info? 5).map (fun i => (i.zero, i.size, i.bytes)) = some (some (.int .u8 0), 1, 1) := by kernel_rfl

/-- A slice of letters of the call's own that may grow. -/
def GrowB (B : Nat) (w : World) (v : Value) (E : List Nat) : Prop := w.ownsRow B 5 1 v E.length (chs E)

theorem digit_at' : ∀ d : Fin 36, (({ data := #[48, 49, 50, 51, 52, 53, 54, 55, 56, 57, 97, 98, 99, 100, 101, 102, 103, 104, 105, 106, 107, 108, 109, 110, 111, 112, 113, 114, 115, 116, 117, 118, 119, 120, 121, 122] } : ByteArray)[d.1]'(d.2)).toNat = dch d.1 := by decide
theorem digit_at (d : Nat) (h : d < 36) : (({ data := #[48, 49, 50, 51, 52, 53, 54, 55, 56, 57, 97, 98, 99, 100, 101, 102, 103, 104, 105, 106, 107, 108, 109, 110, 111, 112, 113, 114, 115, 116, 117, 118, 119, 120, 121, 122] } : ByteArray)[d]'h).toNat = dch d := digit_at' ⟨d, h⟩

theorem GrowB.ne {B : Nat} {w : World} {v : Value} {E : List Nat} {g : Nat} {Q : List Nat} (h : GrowB B w v E) (hQ : Rw w g Q) : some g ≠ v.ownBlock := by
  rcases h.2 with ⟨rfl, -⟩ | ⟨g', cap, cur, rfl, -, hgb, -⟩
  · simp [Value.ownBlock]
  · intro e
    simp [Value.ownBlock] at e
    subst e
    have := hQ.block
    rw [hgb] at this
    simp at this
theorem GrowB.le {B : Nat} {w : World} {v : Value} {E : List Nat} (h : GrowB B w v E) : ∀ k, v.ownBlock = some k → B ≤ k := by
  rcases h.2 with ⟨rfl, -⟩ | ⟨g', cap, cur, rfl, hB, -⟩
  · simp [Value.ownBlock]
  · intro k e
    simp [Value.ownBlock] at e
    omega
theorem GrowB.keep {B : Nat} {w w' : World} {v : Value} {E : List Nat} (h : GrowB B w v E) (hb : Below w.heap.size w w') : GrowB B w' v E :=
  World.ownsRow.kept h (row := none) ⟨hb.os, hb.tape, hb.output, hb.size, fun k hk _ => hb.block k hk⟩ (by cases v.ownBlock <;> simp)
theorem Rw.grownN {w w' : World} {g : Nat} {Q : List Nat} {row : Option Nat} (h : Rw w g Q) (hg : w.grownBy w' row) (hn : some g ≠ row) : Rw w' g Q :=
  ⟨by rw [hg.block g h.lt hn]; exact h.block⟩

def slen : Value → Nat
  | .slice _ n _ => n
  | _ => 0
theorem GrowB.slen {B : Nat} {w : World} {v : Value} {E : List Nat} (h : GrowB B w v E) : slen v = E.length := by
  rcases h.2 with ⟨rfl, hn⟩ | ⟨g', cap, cur, rfl, -⟩
  · exact hn.symm
  · rfl

theorem low_out {r wd V : Nat} {k x : Nat} (hx : x < r ^ (wd - k)) (hk : k ≤ wd) (h : k = wd ∨ (x = 0 ∧ V = 0)) : x + r ^ (wd - k) * V = V := by
  rcases h with h | ⟨rfl, rfl⟩
  · subst h
    rw [Nat.sub_self, Nat.pow_zero] at hx ⊢
    omega
  · simp
theorem low_more {r f n m : Nat} {E E' F : List Nat} (h : E ++ lowD r f n = F) (hn : n ≠ 0) (hf : n < 2 ^ f) (h' : E' ++ lowD r m 0 = F) : E.length + 1 ≤ E'.length := by
  rw [lowD_zero, List.append_nil] at h'
  cases f with
  | zero => simp at hf; omega
  | succ f =>
    rw [h', ← h, lowD_step _ _ _ hn]
    simp

theorem chs_snoc (E : List Nat) (d : Nat) : chs E ++ [.int .u8 (dch d : Int)] = chs (E ++ [d]) := by simp [chs]

theorem low_go {r k wd x V f : Nat} (h2 : 2 ≤ r) (hk : k < wd) (hx : x < r ^ (wd - k)) (hn : x + r ^ (wd - k) * V ≠ 0) (hf : x + r ^ (wd - k) * V < 2 ^ f) :
    ∃ f', f = f' + 1 ∧ x / r < r ^ (wd - (k + 1)) ∧ x / r + r ^ (wd - (k + 1)) * V < 2 ^ f' ∧ lowD r f (x + r ^ (wd - k) * V) = x % r :: lowD r f' (x / r + r ^ (wd - (k + 1)) * V) := by
  obtain ⟨m, hm⟩ : ∃ m, wd - k = m + 1 := ⟨wd - k - 1, by omega⟩
  have hm' : wd - (k + 1) = m := by omega
  rw [hm] at hx hn hf ⊢
  rw [hm']
  have e1 : x + r ^ (m + 1) * V = x + r * (r ^ m * V) := by rw [Nat.pow_succ]; grind
  have hd : (x + r ^ (m + 1) * V) / r = x / r + r ^ m * V := by rw [e1, Nat.add_mul_div_left _ _ (by omega)]
  have hmo : (x + r ^ (m + 1) * V) % r = x % r := by rw [e1, Nat.add_mul_mod_self_left]
  obtain ⟨f', rfl⟩ : ∃ f', f = f' + 1 := by
    cases f with
    | zero => simp at hf; omega
    | succ f' => exact ⟨f', rfl⟩
  refine ⟨f', rfl, ?_, ?_, ?_⟩
  · rw [Nat.div_lt_iff_lt_mul (by omega), ← Nat.pow_succ]; exact hx
  · rw [← hd, Nat.div_lt_iff_lt_mul (by omega)]
    have : 2 ^ (f' + 1) = 2 ^ f' * 2 := Nat.pow_succ _ _
    have h3 : 2 ^ f' * 2 ≤ 2 ^ f' * r := Nat.mul_le_mul_left _ h2
    omega
  · rw [lowD_step _ _ _ hn, hmo, hd]

set_option maxRecDepth 100000 in
set_option maxHeartbeats 2000000 in
theorem lowDigits_any (ao : Option Addr) (len cap : Nat) (A : List Nat) (r : Nat) (w : World) (hA : Rd w ao len cap A) (tA : Top A) (hl : len ≤ 128) (h2 : 2 ≤ r) (h36 : r ≤ 36) :
    Calls Tryd.prog 106 #[.slice ao len cap, .int .i64 (r : Int)] w fun e w' => ∃ v, e = .returned v ∧ GrowB w.heap.size w' v (lowD r 4096 (val A)) ∧ Below w.heap.size w w' := by
  obtain ⟨i0, hi, hz0, hz1, hz2⟩ := info_parts Tryd.info5
  go_enter Tryd.func106, Tryd.ntmps106
  go_wp2_with (go_at_call 124; refine (groupOf_any r _ h2 h36).mono ?_; rintro e w2 ⟨wd, p, rfl, hp, hw1, hw31, hp1, hpb, rfl⟩; have HP := hid hp; clear hp)
  have hpl : p < 4294967296 := by omega
  go_loopw [0, 7] (fun a b wr => ∃ (ao : Option Addr) (len cap : Nat) (M E : List Nat), a = .slice ao len cap ∧ Rd wr ao len cap M ∧ Top M ∧ len ≤ 128 ∧ GrowB w.heap.size wr b E ∧ E.length ≤ 4096 ∧ Hid (E ++ lowD r (4096 - E.length) (val M) = lowD r 4096 (val A)) ∧ Hid (val M < 2 ^ (4096 - E.length)) ∧ Below w.heap.size w wr) (fun _ b _ => 4096 - slen b)
  case atStart =>
    refine ⟨ao, len, cap, A, [], rfl, hA, tA, hl, World.ownsRow_nil _ _ _ _, Nat.zero_le _, hid rfl, hid ?_, Below.refl _ _⟩
    have h1 := val_lt hA.ok
    rw [P_two] at h1
    exact Nat.lt_of_lt_of_le h1 (Nat.pow_le_pow_right (by decide) (by rw [hA.size, List.length_nil]; omega))
  case round =>
    obtain ⟨ao', len', cap', M, E, rfl, hM, tM, hlen, hG, hE, hlow, hlt, hbel⟩ := hrel
    by_cases h0 : 0 < len'
    · have HM0 : Hid (val M ≠ 0) := hid (fun e => by
        have h3 := top_zero tM e
        have := hM.size
        rw [h3] at this; simp at this; omega)
      go_wp2_with (first
        | (go_at_call 114; refine (divideSmall_any _ _ _ M p _ hM (by omega) (by omega) hpl).mono ?_; rintro e w3 ⟨g, Q, x, rfl, hg, hQ, hQl, hQo, hval, hx, hb3⟩; have hQr := hQ.whole hQo Q.length (Nat.le_refl _) (by omega); have HQL := hid hQl; have HV := hid hval; have hqs : (tl Q).length ≤ 128 := (by have := tl_length_le Q; omega); clear hQl hval)
        | (go_at_call 71; refine (trim_any _ _ _ Q _ hQr).mono ?_; rintro e w5 ⟨rfl, rfl⟩))
      go_loopw [7, 9, 10] (fun b gr i ws => ∃ (k x' : Nat) (E' : List Nat), k ≤ wd ∧ i = .int .i64 (k : Int) ∧ gr = .int .u32 (x' : Int) ∧ x' ≤ 4294967295 ∧ Hid (x' < r ^ (wd - k)) ∧ GrowB w.heap.size ws b E' ∧ E'.length ≤ 4096 ∧ E.length + k ≤ E'.length ∧ Rw ws g Q ∧
          Hid (E' ++ lowD r (4096 - E'.length) (x' + r ^ (wd - k) * val Q) = lowD r 4096 (val A)) ∧ Hid (x' + r ^ (wd - k) * val Q < 2 ^ (4096 - E'.length)) ∧ Below w.heap.size w ws) (fun _ _ i _ => wd - (intOf i).toNat)
      case atStart =>
        have e1 : x + r ^ (wd - 0) * val Q = val M := by rw [HV.out, HP.out, Nat.sub_zero, Nat.mul_comm]; omega
        refine ⟨0, x, E, by omega, rfl, rfl, by omega, hid (by rw [Nat.sub_zero, ← HP.out]; exact hx), hG.keep (Below.mono hb3 (Nat.le_refl _)), hE, by omega, hQ, hid ?_, hid ?_, hbel.trans (Below.mono hb3 hbel.size)⟩
        · rw [e1]; exact hlow.out
        · rw [e1]; exact hlt.out
      case round =>
        obtain ⟨k, x', E', hk, rfl, rfl, hx'b, hx', hG', hE', hEk, hQ', hlow', hlt', hb4⟩ := hrel
        by_cases hkw : k < wd
        · by_cases hx0 : 0 < x'
          · have hm1 : 0 ≤ (x' : Int) % (r : Int) ∧ (x' : Int) % (r : Int) < 36 := ⟨Int.emod_nonneg _ (by omega), Int.lt_of_lt_of_le (Int.emod_lt_of_pos _ (by omega)) (by omega)⟩
            go_wp2_with (at_builtin; refine wpList_append_own _ rfl _ _ 117 rfl w.heap.size 5 i0 (.int .u8 0) 1 1 Tryd.underlying117 hi hz0 hz1 hz2 rfl (by decide) _ _ _ rfl (hG'.alloc _) ⟨wr.heap.size, 0, none⟩ 1 1 [.int .u8 (dch (x' % r) : Int)] rfl rfl ?c1 ?c2 ?c3 ?c4 ?c5 ?_)
            case c1 =>
              intro j u hj
              match j, hj with
              | 0, hj => simp at hj; subst hj; rw [← digit_at _ (Nat.lt_of_lt_of_le (Nat.mod_lt _ (by omega)) h36)]; simp [Addr.add]
            case c2 => intro u hu; simp at hu; subst hu; rfl
            case c3 => unfold maxLen; omega
            case c4 => omega
            case c5 => have := hb4.size; simp; omega
            intro v' w5 hown' hgrow _
            have hb5 : Below w.heap.size w w5 := (hb4.alloc (by have := hb4.size; omega) _).grown hgrow (by have := hb4.size; simp; omega) hG'.le
            have hQ5 : Rw w5 g Q := (hQ'.alloc _).grownN hgrow (hG'.ne hQ')
            clear hgrow
            have hfn : 0 ≤ (x' : Int) / (r : Int) := Int.ediv_nonneg (by omega) (by omega)
            have hfm : (x' : Int) / (r : Int) ≤ 4294967295 := Int.le_trans (Int.ediv_le_self _ (by omega)) (by omega)
            go_wp2
            go_roundw
            case rel =>
              obtain ⟨f', hf', hx6, hn6, hlow6⟩ := low_go h2 hkw hx'.out (by omega) hlt'.out
              have hf6 : 4096 - (E' ++ [x' % r]).length = f' := by simp; omega
              refine ⟨k + 1, x' / r, E' ++ [x' % r], by omega, by go_num, by go_num, by omega, hid hx6, ?_, by simp; omega, by simp; omega, hQ5, hid ?_, hid ?_, hb5⟩
              · unfold GrowB
                rw [chs_snoc] at hown'
                rw [List.length_append]; exact hown'
              · rw [hf6, List.append_assoc, List.singleton_append, ← hlow6]; exact hlow'.out
              · rw [hf6]; exact hn6
            case measure => simp [intOf]; omega
          · have hm1 : 0 ≤ (x' : Int) % (r : Int) ∧ (x' : Int) % (r : Int) < 36 := ⟨Int.emod_nonneg _ (by omega), Int.lt_of_lt_of_le (Int.emod_lt_of_pos _ (by omega)) (by omega)⟩
            by_cases hq0 : 0 < (tl Q).length
            · have HV0 : Hid (val Q ≠ 0) := hid (fun e => by
                have := top_zero (tl_top Q) (by rw [tl_val]; exact e)
                rw [this] at hq0; simp at hq0)
              go_wp2_with (at_builtin; refine wpList_append_own _ rfl _ _ 117 rfl w.heap.size 5 i0 (.int .u8 0) 1 1 Tryd.underlying117 hi hz0 hz1 hz2 rfl (by decide) _ _ _ rfl (hG'.alloc _) ⟨wr.heap.size, 0, none⟩ 1 1 [.int .u8 (dch (x' % r) : Int)] rfl rfl ?c1 ?c2 ?c3 ?c4 ?c5 ?_)
              case c1 =>
                intro j u hj
                match j, hj with
                | 0, hj => simp at hj; subst hj; rw [← digit_at _ (Nat.lt_of_lt_of_le (Nat.mod_lt _ (by omega)) h36)]; simp [Addr.add]
              case c2 => intro u hu; simp at hu; subst hu; rfl
              case c3 => unfold maxLen; omega
              case c4 => omega
              case c5 => have := hb4.size; simp; omega
              intro v' w5 hown' hgrow _
              have hb5 : Below w.heap.size w w5 := (hb4.alloc (by have := hb4.size; omega) _).grown hgrow (by have := hb4.size; simp; omega) hG'.le
              have hQ5 : Rw w5 g Q := (hQ'.alloc _).grownN hgrow (hG'.ne hQ')
              clear hgrow
              have hfn : 0 ≤ (x' : Int) / (r : Int) := Int.ediv_nonneg (by omega) (by omega)
              have hfm : (x' : Int) / (r : Int) ≤ 4294967295 := Int.le_trans (Int.ediv_le_self _ (by omega)) (by omega)
              go_wp2
              go_roundw
              case rel =>
                obtain ⟨f', hf', hx6, hn6, hlow6⟩ := low_go h2 hkw hx'.out (by have : 0 < r ^ (wd - k) * val Q := Nat.mul_pos (Nat.pow_pos (by omega)) (by have := HV0.out; omega); omega) hlt'.out
                have hf6 : 4096 - (E' ++ [x' % r]).length = f' := by simp; omega
                refine ⟨k + 1, x' / r, E' ++ [x' % r], by omega, by go_num, by go_num, by omega, hid hx6, ?_, by simp; omega, by simp; omega, hQ5, hid ?_, hid ?_, hb5⟩
                · unfold GrowB
                  rw [chs_snoc] at hown'
                  rw [List.length_append]; exact hown'
                · rw [hf6, List.append_assoc, List.singleton_append, ← hlow6]; exact hlow'.out
                · rw [hf6]; exact hn6
              case measure => simp [intOf]; omega
            · have HV0 : Hid (val Q = 0) := hid (by
                have h3 : tl Q = [] := List.eq_nil_of_length_eq_zero (by omega)
                rw [← tl_val, h3]; rfl)
              go_wp2
              go_roundw
              case rel =>
                have hn := low_out (V := val Q) hx'.out hk (.inr ⟨by omega, HV0.out⟩)
                refine ⟨some ⟨g, 0, none⟩, (tl Q).length, Q.length, tl Q, E', rfl, (hQ'.whole hQo Q.length (Nat.le_refl _) (by have := HQL.out; omega)).tl, tl_top Q, hqs, hG', hE', hid ?_, hid ?_, hb4⟩
                · rw [tl_val, ← hn]; exact hlow'.out
                · rw [tl_val, ← hn]; exact hlt'.out
              case measure => 
                have hn := low_out (V := val Q) hx'.out hk (.inr ⟨by omega, HV0.out⟩)
                have h9 := hlow'.out
                rw [hn, HV0.out] at h9
                have h8 := low_more hlow.out HM0.out hlt.out h9
                have h7 := hG'.slen
                have h6 := hG.slen
                simp; omega
        · go_wp2
          go_roundw
          case rel =>
            have hn := low_out (V := val Q) hx'.out hk (.inl (by omega))
            refine ⟨some ⟨g, 0, none⟩, (tl Q).length, Q.length, tl Q, E', rfl, (hQ'.whole hQo Q.length (Nat.le_refl _) (by have := HQL.out; omega)).tl, tl_top Q, hqs, hG', hE', hid ?_, hid ?_, hb4⟩
            · rw [tl_val, ← hn]; exact hlow'.out
            · rw [tl_val, ← hn]; exact hlt'.out
          case measure => 
            have h7 := hG'.slen
            have h6 := hG.slen
            simp; omega
    · have HM : Hid (val M = 0) := hid (by
        have h3 : M = [] := List.eq_nil_of_length_eq_zero (by have := hM.size; omega)
        rw [h3]; rfl)
      go_wp2
      go_ret
      refine ⟨u7, rfl, ?_, hbel⟩
      have h9 := hlow.out
      rw [HM.out, lowD_zero, List.append_nil] at h9
      rw [← h9]; exact hG
end Go.Proofs.YtldafoojkimdeaaDoor

namespace Go.Proofs.YtldafoojkimdeaaDoor
open Go.RowKit Lm

def bys (L : List Nat) : List Value := L.map fun x : Nat => Value.int .u8 (x : Int)
theorem bys_len (L : List Nat) : (bys L).length = L.length := by simp [bys]
theorem bys_get (L : List Nat) (i : Nat) (h : i < L.length) : (bys L)[i]? = some (.int .u8 (dg L i : Int)) := by
  unfold bys dg; rw [getD_in _ _ h]; simp [h]
theorem bys_set (L : List Nat) (i : Nat) (x : Nat) : (bys L).set i (.int .u8 (x : Int)) = bys (L.set i x) := by
  unfold bys; rw [List.map_set]

/-- A slice of bytes of the call's own that may grow. -/
def GrowC (B : Nat) (w : World) (v : Value) (L : List Nat) : Prop := w.ownsRow B 5 1 v L.length (bys L)

/-- So it reads when k at each end are exchanged. -/
def Turned (L D : List Nat) (k : Nat) : Prop := D.length = L.length ∧ ∀ t, t < L.length → dg D t = if t < k ∨ L.length - 1 - t < k then dg L (L.length - 1 - t) else dg L t

theorem turned_zero (L : List Nat) : Turned L L 0 := ⟨rfl, fun t _ => by simp⟩
theorem turned_step {L D : List Nat} {k j : Nat} (h : Turned L D k) (hj : k + j + 1 = L.length) (hkj : k < j) : Turned L ((D.set k (dg D j)).set j (dg D k)) (k + 1) := by
  obtain ⟨hl, h⟩ := h
  refine ⟨by simp [hl], fun t ht => ?_⟩
  by_cases h1 : j = t
  · subst h1
    rw [dg_set_self _ _ _ (by simp; omega), h k (by omega), if_neg (by omega), if_pos (by omega)]
    congr 1; omega
  · rw [dg_set_ne _ _ _ _ h1]
    by_cases h2 : k = t
    · subst h2
      rw [dg_set_self _ _ _ (by omega), h j (by omega), if_neg (by omega), if_pos (by omega)]
      congr 1; omega
    · rw [dg_set_ne _ _ _ _ h2, h t ht]
      by_cases h3 : t < k ∨ L.length - 1 - t < k
      · rw [if_pos h3, if_pos (by omega)]
      · rw [if_neg h3, if_neg (by omega)]
theorem turned_end {L D : List Nat} {k : Nat} (h : Turned L D k) (hk : L.length ≤ 2 * k + 1) : D = L.reverse := by
  obtain ⟨hl, h⟩ := h
  apply List.ext_getElem (by simp [hl])
  intro t h1 h2
  have h3 := h t (by omega)
  unfold dg at h3
  rw [getD_in _ _ h1, getD_in _ _ (by omega)] at h3
  rw [h3, List.getElem_reverse]
  by_cases h4 : t < k ∨ L.length - 1 - t < k
  · rw [if_pos h4]
  · rw [if_neg h4, getD_in _ _ (by omega)]
    congr 1; omega

set_option maxRecDepth 100000 in
set_option maxHeartbeats 2000000 in
theorem reverse_any (B : Nat) (v : Value) (L : List Nat) (w : World) (hG : GrowC B w v L) (hl : L.length ≤ 5000) :
    Calls Tryd.prog 107 #[v] w fun e w' => e = .returned (.tuple #[]) ∧ GrowC B w' v L.reverse ∧ Below B w w' := by
  rcases hG.2 with ⟨rfl, hn0⟩ | ⟨g, cap, cur, rfl, hBg, hgb, hnc, hcm, hcs, htk⟩
  · have hL : L = [] := List.eq_nil_of_length_eq_zero hn0
    subst hL
    clear hn0
    go_enter Tryd.func107, Tryd.ntmps107
    go_wp2
    go_loopw [2, 3] (fun i j wr => i = .int .i64 0 ∧ j = .int .i64 (-1) ∧ Hid (wr = w)) (fun i _ _ => 0)
    case atStart => exact ⟨rfl, rfl, hid rfl⟩
    case round =>
      obtain ⟨rfl, rfl, hwr⟩ := hrel
      obtain rfl := hwr.out
      clear hwr
      go_wp2
      go_end0
      exact ⟨rfl, hG, Below.refl _ _⟩
  · clear hgb hnc hcm hcs htk
    go_enter Tryd.func107, Tryd.ntmps107
    go_wp2
    go_loopw [2, 3] (fun i j wr => ∃ (k : Nat) (jz : Int) (D : List Nat), i = .int .i64 (k : Int) ∧ j = .int .i64 jz ∧ jz ≤ (L.length : Int) - 1 - k ∧ (L.length : Int) - 1 - k ≤ jz ∧ Hid (Turned L D k) ∧
        wr.ownsRow B 5 1 (.slice (some ⟨g, 0, none⟩) L.length cap) L.length (bys D) ∧ Below B w wr) (fun i _ _ => L.length - (intOf i).toNat)
    case atStart => exact ⟨0, _, L, rfl, rfl, by omega, by omega, hid (turned_zero L), hG, Below.refl _ _⟩
    case round =>
      obtain ⟨k, jz, D, rfl, rfl, hj1, hj2, hT, hown, hbel⟩ := hrel
      by_cases hlt : (k : Int) < jz
      · obtain ⟨jn, rfl⟩ : ∃ jn : Nat, jz = (jn : Int) := ⟨jz.toNat, by omega⟩
        have hck := hown.cellAt k (by omega)
        have hcj := hown.cellAt jn (by omega)
        rw [bys_get _ _ (by have := hT.out.1; omega)] at hck hcj
        have hfk := hown.frozenAt k
        have hfj := hown.frozenAt jn
        go_wp2_with fail
        go_region
        go_wp2
        go_roundw
        case rel =>
          have h1 := (hown.stored k (Value.int .u8 (dg D jn : Int))).1
          rw [bys_set] at h1
          have h2 := (h1.stored jn (Value.int .u8 (dg D k : Int))).1
          rw [bys_set] at h2
          exact ⟨k + 1, _, _, by go_num, rfl, by omega, by omega, hid (turned_step hT.out (by omega) (by omega)), h2, ((hbel.setCell hBg _).setCell hBg _).drew⟩
        case measure => simp [intOf]; omega
      · go_wp2
        go_end0
        have := turned_end hT.out (by omega)
        subst this
        refine ⟨rfl, ?_, hbel⟩
        unfold GrowC
        rw [List.length_reverse]; exact hown
theorem chs_bys (E : List Nat) : chs E = bys (E.map dch) := by simp [chs, bys, List.map_map, Function.comp_def]
theorem GrowB.bytes {B : Nat} {w : World} {v : Value} {E : List Nat} (h : GrowB B w v E) : GrowC B w v (E.map dch) := by
  unfold GrowC; rw [List.length_map, ← chs_bys]; exact h
end Go.Proofs.YtldafoojkimdeaaDoor
