/- Walks of the document's answer: Small, Minus, Sign. No condition but those that each theorem names. -/
import Derived.Test.YtldafoojkimdeaaDoorR3
namespace Go.Proofs.YtldafoojkimdeaaDoor
open Go.RowKit Lm

theorem wq_neg {m n : Nat} (hm : m ≤ n) (h : n ≤ 9223372036854775808) : wrap64 (-((m : Int) / 2)) = -((m : Int) / 2) := by unfold wrap64; omega
theorem wq_pos {m n : Nat} (hm : m ≤ n) (h : n ≤ 9223372036854775807) : wrap64 ((m : Int) / 2) = (m : Int) / 2 := by unfold wrap64; omega
theorem meas_pos {m n : Nat} (hm : m ≤ n) (h : n ≤ 9223372036854775807) (h0 : m ≠ 0) : (intOf (.int .i64 (wrap64 ((m : Int) / 2)))).natAbs < (intOf (.int .i64 (m : Int))).natAbs := by
  rw [wq_pos hm h]; show ((m : Int) / 2).natAbs < (m : Int).natAbs; omega
theorem small_len2 {n m : Nat} {O : List Nat} (h : bv O + 2 ^ O.length * m = n) (h0 : 0 < m) (hn : n ≤ 9223372036854775808) : O.length ≤ 63 := by
  have h1 : 2 ^ O.length ≤ 2 ^ O.length * m := Nat.le_mul_of_pos_right _ h0
  have h2 : 2 ^ O.length ≤ 2 ^ 63 := by omega
  exact (Nat.pow_le_pow_iff_right (by decide)).1 h2

theorem small_len3 {n m : Nat} {O : List Nat} (h : bv O + 2 ^ O.length * m = n) (h0 : 0 < m) (hn : n ≤ 9223372036854775807) : O.length ≤ 63 := small_len2 h h0 (by omega)
set_option maxRecDepth 100000 in
set_option maxHeartbeats 2000000 in
theorem smallR_neg (n0 : Nat) (w : World) (h0 : 0 < n0) (h1 : Hid (n0 ≤ 9223372036854775808)) :
    Calls Tryd.prog 25 #[.int .i64 (-(n0 : Int))] w fun e w' => ∃ n' ao len cap, e = .returned (.agg #[.bool n', .slice ao len cap]) ∧ len ≤ 65 ∧ Big w' n' ao len cap (-(n0 : Int)) ∧ Below w.heap.size w w' := by
  obtain ⟨i0, hi, hz0, hz1, hz2⟩ := info_parts Tryd.infoI
  go_enter Tryd.func25, Tryd.ntmps25
  go_wp2_with fail
  obtain ⟨wz, hz⟩ : ∃ wz, wz = w.alloc (.cells #[.bool false, .slice none 0 0] 28) := ⟨_, rfl⟩
  have hzb : Below w.heap.size w wz := by rw [hz]; exact (Below.refl _ _).alloc (Nat.le_refl _) _
  have hzl : w.heap.size + 1 ≤ wz.heap.size := by rw [hz]; simp
  have hblr : Hid (wz.heap[w.heap.size]? = some (.cells #[.bool false, .slice none 0 0] 28 (0, 0))) := hid (by rw [hz]; exact heap_alloc_new _ _)
  rw [← hz]
  clear hz
  go_loopw [0, 4, 5] (fun z o _ wr => ∃ (m : Nat) (O : List Nat), z = .int .i64 (-(m : Int)) ∧ m ≤ n0 ∧ B1 O ∧ Gri wz.heap.size wr o O ∧ Hid (bv O + 2 ^ O.length * m = n0) ∧ Hid (O.length ≤ 64) ∧ Below wz.heap.size wz wr)
    (fun z _ _ _ => (intOf z).natAbs)
  case atStart => exact ⟨n0, [], rfl, Nat.le_refl _, B1.nil, Gri.nil _ _, hid (by simp [bv]), hid (by simp), Below.refl _ _⟩
  case round =>
    obtain ⟨m, O, rfl, hm, bO, hG, hv, hl, hb⟩ := hrel
    have hsz := hb.size
    by_cases hgo : m = 0
    · subst hgo
      obtain ⟨ao, cap, rfl, hR⟩ := hG.rd (by have := hl.out; omega)
      go_wp2_with (go_at_call 68; refine (laidR true _ _ _ O _ hR bO).mono ?_; rintro e w2 ⟨n', len', rfl, hle, hbig, hb2⟩; obtain ⟨y0, y1, g0, g1⟩ := two_cells ((hb2.block _ (by omega)).trans ((hb.block _ (by omega)).trans hblr.out)))
      refine bodyPost_ret (v := .agg #[.bool n', .slice ao len' cap]) (by simp [results, Tryd.results25, go_sem, y0, y1]) rfl ⟨_, _, _, _, rfl, ?_, ?_, ?_⟩
      · have := hl.out; omega
      · refine (hbig.other ((hb2.block _ (by omega)).trans ((hb.block _ (by omega)).trans hblr.out)) (by simp) (by simp) _ _).cast ?_
        have := hv.out; unfold sg; simp at this ⊢; omega
      · have h2 := Below.mono hb2 (show wz.heap.size ≤ wr.heap.size from hsz)
        exact (((hzb.trans (Below.mono hb (by omega))).trans (Below.mono h2 (by omega))).setCell (by simp) _).setCell (by simp) _
    · have hne : ((-(m : Int)) != 0) = true := by simp; omega
      have HQ : Hid (wrap64 (-((m : Int) / 2)) = -((m : Int) / 2)) := hid (by have := h1.out; unfold wrap64; omega)
      by_cases hodd : 0 < m % 2
      · have hod : (0 : Int) < (m : Int) % 2 := by omega
        go_wp2_with (at_builtin; refine wpList_append_own _ rfl _ _ 26 rfl wz.heap.size 3 i0 (.int .i64 0) 1 8 Tryd.underlying26 hi hz0 hz1 hz2 rfl (by decide) _ _ _ rfl (hG.alloc _) ⟨_, 0, none⟩ 1 1 [.int .i64 ((m : Int) % 2)] rfl rfl ?c1 ?c2 ?c3 ?c4 ?c5 ?_)
        try case c1 =>
          intro j u hj
          match j, hj with
          | 0, hj => simp at hj; subst hj; simp [Addr.add]
        case c2 => first | rfl | (intro u hu; simp at hu; subst hu; rfl)
        case c3 => have := hl.out; unfold maxLen; omega
        case c4 => have := hl.out; omega
        case c5 => first | omega | (simp; omega)
        intro v' w5 hown' hgrow _
        have hb5 := app_below hb hsz hgrow hG.le
        clear hgrow
        go_wp2
        go_roundw
        case rel =>
          refine ⟨m / 2, O ++ [m % 2], congrArg (Value.int .i64) (by rw [HQ.out]; omega), by omega, bO.snoc (by omega), Gri.snoc _ hown' (by omega), hid ?_, hid ?_, hb5⟩
          · rw [bv_snoc, List.length_append, List.length_singleton, Nat.pow_succ]; exact limb_bit hv.out
          · have := small_len2 hv.out (by omega) h1.out; simp; omega
        case measure => simp [intOf, HQ.out]; omega
      · have hod : ¬ (0 : Int) < (m : Int) % 2 := by omega
        go_wp2_with (at_builtin; refine wpList_append_own _ rfl _ _ 26 rfl wz.heap.size 3 i0 (.int .i64 0) 1 8 Tryd.underlying26 hi hz0 hz1 hz2 rfl (by decide) _ _ _ rfl (hG.alloc _) ⟨_, 0, none⟩ 1 1 [.int .i64 (-((m : Int) % 2))] rfl rfl ?c1 ?c2 ?c3 ?c4 ?c5 ?_)
        try case c1 =>
          intro j u hj
          match j, hj with
          | 0, hj => simp at hj; subst hj; simp [Addr.add]
        case c2 => first | rfl | (intro u hu; simp at hu; subst hu; rfl)
        case c3 => have := hl.out; unfold maxLen; omega
        case c4 => have := hl.out; omega
        case c5 => first | omega | (simp; omega)
        intro v' w5 hown' hgrow _
        have hb5 := app_below hb hsz hgrow hG.le
        clear hgrow
        go_wp2
        go_roundw
        case rel =>
          refine ⟨m / 2, O ++ [m % 2], congrArg (Value.int .i64) (by rw [HQ.out]; omega), by omega, bO.snoc (by omega), Gri.snoc _ hown' (by omega), hid ?_, hid ?_, hb5⟩
          · rw [bv_snoc, List.length_append, List.length_singleton, Nat.pow_succ]; exact limb_bit hv.out
          · have := small_len2 hv.out (by omega) h1.out; simp; omega
        case measure => simp [intOf, HQ.out]; omega

set_option maxRecDepth 100000 in
set_option maxHeartbeats 2000000 in
theorem smallR_pos (n0 : Nat) (w : World) (h1 : Hid (n0 ≤ 9223372036854775807)) :
    Calls Tryd.prog 25 #[.int .i64 (n0 : Int)] w fun e w' => ∃ n' ao len cap, e = .returned (.agg #[.bool n', .slice ao len cap]) ∧ len ≤ 65 ∧ Big w' n' ao len cap (n0 : Int) ∧ Below w.heap.size w w' := by
  obtain ⟨i0, hi, hz0, hz1, hz2⟩ := info_parts Tryd.infoI
  have hp : ¬ ((n0 : Int) < 0) := by omega
  go_enter Tryd.func25, Tryd.ntmps25
  go_wp2_with fail
  obtain ⟨wz, hz⟩ : ∃ wz, wz = w.alloc (.cells #[.bool false, .slice none 0 0] 28) := ⟨_, rfl⟩
  have hzb : Below w.heap.size w wz := by rw [hz]; exact (Below.refl _ _).alloc (Nat.le_refl _) _
  have hzl : w.heap.size + 1 ≤ wz.heap.size := by rw [hz]; simp
  have hblr : Hid (wz.heap[w.heap.size]? = some (.cells #[.bool false, .slice none 0 0] 28 (0, 0))) := hid (by rw [hz]; exact heap_alloc_new _ _)
  rw [← hz]
  clear hz
  go_loopw [0, 4, 5] (fun z o _ wr => ∃ (m : Nat) (O : List Nat), z = .int .i64 (m : Int) ∧ m ≤ n0 ∧ B1 O ∧ Gri wz.heap.size wr o O ∧ Hid (bv O + 2 ^ O.length * m = n0) ∧ Hid (O.length ≤ 64) ∧ Below wz.heap.size wz wr)
    (fun z _ _ _ => (intOf z).natAbs)
  case atStart => exact ⟨n0, [], rfl, Nat.le_refl _, B1.nil, Gri.nil _ _, hid (by simp [bv]), hid (by simp), Below.refl _ _⟩
  case round =>
    obtain ⟨m, O, rfl, hm, bO, hG, hv, hl, hb⟩ := hrel
    have hsz := hb.size
    by_cases hgo : m = 0
    · subst hgo
      obtain ⟨ao, cap, rfl, hR⟩ := hG.rd (by have := hl.out; omega)
      go_wp2_with (go_at_call 68; refine (laidR false _ _ _ O _ hR bO).mono ?_; rintro e w2 ⟨n', len', rfl, hle, hbig, hb2⟩; obtain ⟨y0, y1, g0, g1⟩ := two_cells ((hb2.block _ (by omega)).trans ((hb.block _ (by omega)).trans hblr.out)))
      refine bodyPost_ret (v := .agg #[.bool n', .slice ao len' cap]) (by simp [results, Tryd.results25, go_sem, y0, y1]) rfl ⟨_, _, _, _, rfl, ?_, ?_, ?_⟩
      · have := hl.out; omega
      · refine (hbig.other ((hb2.block _ (by omega)).trans ((hb.block _ (by omega)).trans hblr.out)) (by simp) (by simp) _ _).cast ?_
        have := hv.out; unfold sg; simp at this ⊢; omega
      · have h2 := Below.mono hb2 (show wz.heap.size ≤ wr.heap.size from hsz)
        exact (((hzb.trans (Below.mono hb (by omega))).trans (Below.mono h2 (by omega))).setCell (by simp) _).setCell (by simp) _
    · have hne : ((m : Int) != 0) = true := by simp; omega
      have HQ : Hid (wrap64 ((m : Int) / 2) = (m : Int) / 2) := hid (by have := h1.out; unfold wrap64; omega)
      have hod : ¬ ((m : Int) % 2 < 0) := by omega
      ·
        go_wp2_with (at_builtin; refine wpList_append_own _ rfl _ _ 26 rfl wz.heap.size 3 i0 (.int .i64 0) 1 8 Tryd.underlying26 hi hz0 hz1 hz2 rfl (by decide) _ _ _ rfl (hG.alloc _) ⟨_, 0, none⟩ 1 1 [.int .i64 ((m : Int) % 2)] rfl rfl ?c1 ?c2 ?c3 ?c4 ?c5 ?_)
        try case c1 =>
          intro j u hj
          match j, hj with
          | 0, hj => simp at hj; subst hj; simp [Addr.add]
        case c2 => first | rfl | (intro u hu; simp at hu; subst hu; rfl)
        case c3 => have := hl.out; unfold maxLen; omega
        case c4 => have := hl.out; omega
        case c5 => first | omega | (simp; omega)
        intro v' w5 hown' hgrow _
        have hb5 := app_below hb hsz hgrow hG.le
        clear hgrow
        go_wp2
        go_roundw
        case rel =>
          refine ⟨m / 2, O ++ [m % 2], congrArg (Value.int .i64) (by rw [HQ.out]; omega), by omega, bO.snoc (by omega), Gri.snoc _ hown' (by omega), hid ?_, hid ?_, hb5⟩
          · rw [bv_snoc, List.length_append, List.length_singleton, Nat.pow_succ]; exact limb_bit hv.out
          · have := small_len3 hv.out (by omega) h1.out; simp; omega
        case measure => exact meas_pos hm h1.out hgo

theorem smallR (n : Int) (w : World) (h1 : -9223372036854775808 ≤ n) (h2 : n ≤ 9223372036854775807) :
    Calls Tryd.prog 25 #[.int .i64 n] w fun e w' => ∃ n' ao len cap, e = .returned (.agg #[.bool n', .slice ao len cap]) ∧ len ≤ 65 ∧ Big w' n' ao len cap n ∧ Below w.heap.size w w' := by
  rcases Int.lt_or_le n 0 with h | h
  · have e : n = -(n.natAbs : Int) := by omega
    rw [e]
    exact smallR_neg n.natAbs w (by omega) (hid (by omega))
  · have e : n = (n.natAbs : Int) := by omega
    rw [e]
    exact smallR_pos n.natAbs w (hid (by omega))
end Go.Proofs.YtldafoojkimdeaaDoor
