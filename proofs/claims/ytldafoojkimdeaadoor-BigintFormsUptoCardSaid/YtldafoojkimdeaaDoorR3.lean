/- Walks of the document's answer: Of, Small. No condition but those that each theorem names. -/
import Derived.Test.YtldafoojkimdeaaDoorR2
namespace Go.Proofs.YtldafoojkimdeaaDoor
open Go.RowKit Lm

theorem num_sg {n : Bool} {A L : List Nat} (h : bv L = val A) : sg n L = num n A := by unfold sg num; rw [h]
theorem Big.cast {w : World} {n : Bool} {ao : Option Addr} {len cap : Nat} {v u : Int} (h : Big w n ao len cap v) (e : v = u) : Big w n ao len cap u := by subst e; exact h

/-- A store into a block older than the bits does not touch them. -/
theorem Ri.other {w : World} {ao : Option Addr} {len cap : Nat} {A : List Nat} (h : Ri w ao len cap A) {b : Nat} {x y : Value} {t : TypeId} (hp : w.heap[b]? = some (.cells #[x, y] t (0, 0))) (hx : ∀ z, x ≠ .int .i64 z) (hy : ∀ z, y ≠ .int .i64 z) (x' y' : Value) :
    Ri ((w.setCell ⟨b, 0, none⟩ x').setCell ⟨b, 1, none⟩ y') ao len cap A :=
  ⟨h.size, h.room, h.most, fun h0 => by
    obtain ⟨g, off, e, hc⟩ := h.cells h0
    refine ⟨g, off, e, fun i hi => ?_⟩
    have hgb : g ≠ b := by
      rintro rfl
      have := hc i hi
      simp [World.cell?, hp] at this
      rcases Nat.lt_or_ge (off + i) 2 with h2 | h2
      · rcases (show off + i = 0 ∨ off + i = 1 by omega) with h3 | h3
        · rw [h3] at this; simp at this; exact hx _ this
        · rw [h3] at this; simp at this; exact hy _ this
      · rw [List.getElem?_eq_none (by simp; omega)] at this; cases this
    rw [World.cell?_setCell_other _ _ _ _ (fun e => hgb (congrArg Addr.block e).symm), World.cell?_setCell_other _ _ _ _ (fun e => hgb (congrArg Addr.block e).symm)]
    exact hc i hi⟩
theorem Big.other {w : World} {n : Bool} {ao : Option Addr} {len cap : Nat} {v : Int} (h : Big w n ao len cap v) {b : Nat} {x y : Value} {t : TypeId} (hp : w.heap[b]? = some (.cells #[x, y] t (0, 0))) (hx : ∀ z, x ≠ .int .i64 z) (hy : ∀ z, y ≠ .int .i64 z) (x' y' : Value) :
    Big ((w.setCell ⟨b, 0, none⟩ x').setCell ⟨b, 1, none⟩ y') n ao len cap v := by
  obtain ⟨L, h1, h2⟩ := h
  exact ⟨L, h1.other hp hx hy _ _, h2⟩

set_option maxRecDepth 100000 in
set_option maxHeartbeats 2000000 in
theorem ofR (na : Bool) (aa : Option Addr) (la ca : Nat) (A : List Nat) (w : World) (hA : Rd w aa la ca A) (sa : la ≤ 16777216) :
    Calls Tryd.prog 17 #[.agg #[.bool na, .slice aa la ca]] w fun e w' => ∃ n' ao len cap, e = .returned (.agg #[.bool n', .slice ao len cap]) ∧ len ≤ 32 * la ∧ Big w' n' ao len cap (num na A) ∧ Below w.heap.size w w' := by
  obtain ⟨i0, hi, hz0, hz1, hz2⟩ := info_parts Tryd.infoI
  have HA := hid hA.size
  go_enter Tryd.func17, Tryd.ntmps17
  go_wp2_with fail
  obtain ⟨wz, hz⟩ : ∃ wz, wz = (w.alloc (.cells #[.bool na, .slice aa la ca] 24)).alloc (.cells #[.bool false, .slice none 0 0] 28) := ⟨_, rfl⟩
  have hzb : Below w.heap.size w wz := by rw [hz]; exact ((Below.refl _ _).alloc (Nat.le_refl _) _).alloc (by simp) _
  have hzl : w.heap.size + 2 ≤ wz.heap.size := by rw [hz]; simp
  have hblk : Hid (wz.heap[w.heap.size]? = some (.cells #[.bool na, .slice aa la ca] 24 (0, 0))) := hid (by rw [hz]; exact hpS _ (heap_alloc_new w _))
  have hblr : Hid (wz.heap[w.heap.size + 1]? = some (.cells #[.bool false, .slice none 0 0] 28 (0, 0))) := hid (by rw [hz]; have := heap_alloc_new (w.alloc (.cells #[.bool na, .slice aa la ca] 24)) (.cells #[.bool false, .slice none 0 0] 28); simpa using this)
  have hAz := hA.keep hzb
  rw [← hz]
  clear hz
  go_loopw [3, 4, 5, 6] (fun o i _ _ wr => ∃ (k : Nat) (O : List Nat), i = .int .i64 (k : Int) ∧ k ≤ la ∧ Hid (O.length = 32 * k) ∧ B1 O ∧ Gri wz.heap.size wr o O ∧ Hid (bv O = val (A.take k)) ∧ Below wz.heap.size wz wr)
    (fun _ i _ _ _ => la - (intOf i).toNat)
  case atStart => exact ⟨0, [], rfl, by omega, hid rfl, B1.nil, Gri.nil _ _, hid rfl, Below.refl _ _⟩
  case round =>
    obtain ⟨k, O, rfl, hk, hO, bO, hG, hv, hb⟩ := hrel
    have hsz := hb.size
    obtain ⟨c0, c1, f0, f1⟩ := two_cells ((hb.block _ (by omega)).trans hblk.out)
    by_cases hgo : k < la
    · obtain ⟨b, off, rfl, hc⟩ := (hAz.keep hb).cells (by omega)
      have hcm := hc k hgo
      have hx := hA.ok.dg k
      clear hc
      go_wp2
      go_loopw [3, 5, 6] (fun o x j ws => ∃ (m xv : Nat) (M : List Nat), j = .int .i64 (m : Int) ∧ x = .int .u32 (xv : Int) ∧ m ≤ 32 ∧ xv ≤ 4294967295 ∧ Hid (xv < 2 ^ (32 - m)) ∧ Hid (M.length = 32 * k + m) ∧ B1 M ∧ Gri wz.heap.size ws o M ∧ Hid (bv M + 2 ^ (32 * k + m) * xv = val (A.take (k + 1))) ∧ Below wz.heap.size wz ws)
        (fun _ _ j _ => 32 - (intOf j).toNat)
      case atStart => exact ⟨0, dg A k, O, rfl, rfl, by omega, by omega, hid (by simpa using hx), hid (by rw [hO.out]; rfl), bO, hG, hid (by rw [val_take_dg A k (by rw [HA.out]; omega), hv.out, P_two]; rfl), hb⟩
      case round =>
        obtain ⟨m, xv, M, rfl, rfl, hm, hxv, hxs, hM, bM, hG2, hv2, hb2⟩ := hrel
        have hsz2 := hb2.size
        by_cases hm2 : m < 32
        · go_wp2_with (at_builtin; refine wpList_append_own _ rfl _ _ 26 rfl wz.heap.size 3 i0 (.int .i64 0) 1 8 Tryd.underlying26 hi hz0 hz1 hz2 rfl (by decide) _ _ _ rfl (hG2.alloc _) ⟨_, 0, none⟩ 1 1 [.int .i64 ((xv : Int) % 2)] rfl rfl ?c1 ?c2 ?c3 ?c4 ?c5 ?_)
          case c1 =>
            intro j u hj
            match j, hj with
            | 0, hj => simp at hj; subst hj; simp [Addr.add]
          case c2 => intro u hu; simp at hu; subst hu; rfl
          case c3 => rw [hM.out]; unfold maxLen; omega
          case c4 => rw [hM.out]; omega
          case c5 => simp; omega
          intro v' w5 hown' hgrow _
          have hb5 := app_below hb2 hsz2 hgrow hG2.le
          clear hgrow
          go_wp2
          go_roundw
          case rel =>
            refine ⟨m + 1, xv / 2, M ++ [xv % 2], by go_num, by go_num, by omega, by omega, hid ?_, hid (by simp [hM.out]; omega), bM.snoc (by omega), Gri.snoc _ hown' (by omega), hid ?_, hb5⟩
            · have h1 := hxs.out
              rw [show 32 - m = (32 - (m + 1)) + 1 by omega, Nat.pow_succ] at h1
              omega
            · rw [bv_snoc, hM.out, show 32 * k + (m + 1) = (32 * k + m) + 1 by omega, Nat.pow_succ]
              exact limb_bit hv2.out
          case measure => simp [intOf]; omega
        · obtain rfl : m = 32 := by omega
          go_wp2
          go_roundw
          case rel =>
            refine ⟨k + 1, M, by go_num, by omega, hid (by rw [hM.out]; omega), bM, hG2, hid ?_, hb2⟩
            have h1 := hxs.out
            have h2 := hv2.out
            have h3 : xv = 0 := by simpa using h1
            rw [h3] at h2; simpa using h2
          case measure => simp [intOf]; omega
    · obtain rfl : k = la := by omega
      obtain ⟨ao, cap, rfl, hR⟩ := hG.rd (by rw [hO.out]; omega)
      go_wp2_with (go_at_call 68; refine (laidR na _ _ _ O _ hR bO).mono ?_; rintro e w2 ⟨n', len', rfl, hle, hbig, hb2⟩; obtain ⟨y0, y1, g0, g1⟩ := two_cells ((hb2.block _ (by omega)).trans ((hb.block _ (by omega)).trans hblr.out)))
      refine bodyPost_ret (v := .agg #[.bool n', .slice ao len' cap]) (by simp [results, Tryd.results17, go_sem, y0, y1]) rfl ⟨_, _, _, _, rfl, ?_, ?_, ?_⟩
      · rw [hO.out] at hle; exact hle
      · refine (hbig.other ((hb2.block _ (by omega)).trans ((hb.block _ (by omega)).trans hblr.out)) (by simp) (by simp) _ _).cast (num_sg ?_)
        rw [hv.out, val_take_ge _ _ (by rw [HA.out]; omega)]
      · have h2 := Below.mono hb2 (show wz.heap.size ≤ wr.heap.size from hsz)
        exact (((hzb.trans (Below.mono hb (by omega))).trans (Below.mono h2 (by omega))).setCell (by simp) _).setCell (by simp) _
end Go.Proofs.YtldafoojkimdeaaDoor
