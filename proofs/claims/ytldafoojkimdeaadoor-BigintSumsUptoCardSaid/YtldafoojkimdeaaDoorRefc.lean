/- Walks of the document's answer: Long, long, Times. No condition but those that each theorem names. Walks of the law's helper is. No condition but those that each theorem names. Answers that the laws hold against the document's, in the call's own memory: what is kept while another one is written over. No condition but those that each theorem names. -/
import Derived.Test.YtldafoojkimdeaaDoorRefb
import Derived.Test.YtldafoojkimdeaaDoorBitm
import Derived.RegionTactic
import Derived.BigRegion
import Derived.IntWalk
namespace Go.Proofs.YtldafoojkimdeaaDoor
open Go.RowKit Lm

set_option maxRecDepth 100000 in
set_option maxHeartbeats 1000000 in
theorem longR1 (n : Bool) (o : Option Addr) (l c : Nat) (w : World) :
    Calls Tryd.prog 45 #[.agg #[.bool n, .slice o l c]] w fun e w' => e = .returned (.bool (decide (4096 < l))) ∧ Below w.heap.size w w' := by
  have hd : decide ((4096 : Int) < (l : Int)) = decide (4096 < l) := by simp; omega
  go_enter Tryd.func45, Tryd.ntmps45
  go_wp2
  go_ret
  exact ⟨by simp, (Below.refl _ _).alloc (Nat.le_refl _) _⟩

set_option maxRecDepth 100000 in
set_option maxHeartbeats 1000000 in
theorem longR (nx : Bool) (xo : Option Addr) (xl xc : Nat) (ny : Bool) (yo : Option Addr) (yl yc : Nat) (w : World) :
    Calls Tryd.prog 34 #[.agg #[.bool nx, .slice xo xl xc], .agg #[.bool ny, .slice yo yl yc]] w fun e w' => e = .returned (.int .i64 (if 4096 < xl ∨ 4096 < yl then 10 else 0)) ∧ Below w.heap.size w w' := by
  by_cases h1 : 4096 < xl
  · have h0 : decide (4096 < xl) = true := decide_eq_true h1
    rw [if_pos (.inl h1)]
    go_enter Tryd.func34, Tryd.ntmps34
    go_wp2_with (go_at_call 45; refine (longR1 nx xo xl xc _).mono ?_; rintro e w1 ⟨rfl, hb1⟩; rw [h0])
    go_ret
    exact ⟨rfl, balloc2 hb1⟩
  · have h0 : decide (4096 < xl) = false := decide_eq_false h1
    by_cases h2 : 4096 < yl
    · have h3 : decide (4096 < yl) = true := decide_eq_true h2
      rw [if_pos (.inr h2)]
      go_enter Tryd.func34, Tryd.ntmps34
      go_wp2_with (first
        | (go_at_call_of 45 (Value.agg #[.bool nx, .slice xo xl xc]); refine (longR1 nx xo xl xc _).mono ?_; rintro e w1 ⟨rfl, hb1⟩; rw [h0]; have hy1 := heap_keep (heap_alloc_new (w.alloc (.cells #[.bool nx, .slice xo xl xc] 28)) (.cells #[.bool ny, .slice yo yl yc] 28)) hb1; simp only [World.size_alloc] at hy1; obtain ⟨y0, y1, _, _⟩ := two_cells hy1)
        | (go_at_call_of 45 (Value.agg #[.bool ny, .slice yo yl yc]); refine (longR1 ny yo yl yc _).mono ?_; rintro e w2 ⟨rfl, hb2⟩; rw [h3]))
      go_ret
      exact ⟨rfl, (balloc2 hb1).trans (hb2.mono (balloc2 hb1).size)⟩
    · have h3 : decide (4096 < yl) = false := decide_eq_false h2
      rw [if_neg (by omega)]
      go_enter Tryd.func34, Tryd.ntmps34
      go_wp2_with (first
        | (go_at_call_of 45 (Value.agg #[.bool nx, .slice xo xl xc]); refine (longR1 nx xo xl xc _).mono ?_; rintro e w1 ⟨rfl, hb1⟩; rw [h0]; have hy1 := heap_keep (heap_alloc_new (w.alloc (.cells #[.bool nx, .slice xo xl xc] 28)) (.cells #[.bool ny, .slice yo yl yc] 28)) hb1; simp only [World.size_alloc] at hy1; obtain ⟨y0, y1, _, _⟩ := two_cells hy1)
        | (go_at_call_of 45 (Value.agg #[.bool ny, .slice yo yl yc]); refine (longR1 ny yo yl yc _).mono ?_; rintro e w2 ⟨rfl, hb2⟩; rw [h3]))
      go_ret
      exact ⟨rfl, (balloc2 hb1).trans (hb2.mono (balloc2 hb1).size)⟩

theorem sg_mul (nx ny : Bool) {A B C : List Nat} (h : bv C = bv A * bv B) : sg (nx != ny) C = sg nx A * sg ny B := by
  unfold sg; rw [h]
  cases nx <;> cases ny <;> simp [Int.natCast_mul, Int.neg_mul, Int.mul_neg]
theorem times_end {a b n l m c s t : Nat} (h : s + 2 ^ n * c = a * b) (ha : a < 2 ^ l) (hb : b < 2 ^ m) (hn : n = l + m + 1) (e : t = s) : c = 0 ∧ t = a * b := by
  have h1 : a * b < 2 ^ (l + m) := by
    rw [Nat.pow_add]
    rcases Nat.eq_zero_or_pos b with rfl | hb0
    · rw [Nat.mul_zero]; exact Nat.mul_pos (Nat.pow_pos (by decide)) (Nat.pow_pos (by decide))
    · exact Nat.lt_of_lt_of_le (Nat.mul_lt_mul_of_pos_right ha hb0) (Nat.mul_le_mul_left _ (by omega))
  have h2 : 2 ^ n = 2 * 2 ^ (l + m) := by rw [hn, Nat.pow_succ, Nat.mul_comm]
  rcases Nat.eq_zero_or_pos c with rfl | hc
  · exact ⟨rfl, by omega⟩
  · have : 2 ^ n * 1 ≤ 2 ^ n * c := Nat.mul_le_mul_left _ hc
    omega

set_option maxRecDepth 100000 in
set_option maxHeartbeats 4000000 in
theorem timesR (nx : Bool) (xo : Option Addr) (xl xc : Nat) (vx : Int) (ny : Bool) (yo : Option Addr) (yl yc : Nat) (vy : Int) (w : World) (hX : Big w nx xo xl xc vx) (hY : Big w ny yo yl yc vy) (sx : xl ≤ 1048576) (sy : yl ≤ 1048576) :
    Calls Tryd.prog 40 #[.agg #[.bool nx, .slice xo xl xc], .agg #[.bool ny, .slice yo yl yc]] w fun e w' => ∃ n' ao len cap, e = .returned (.agg #[.bool n', .slice ao len cap]) ∧ len ≤ xl + yl + 1 ∧ Big w' n' ao len cap (vx * vy) ∧ Below w.heap.size w w' := by
  obtain ⟨i0, hi, hz0, hz1, hz2⟩ := info_parts Tryd.infoI
  obtain ⟨A, rA, bA, tA, _, ex⟩ := hX
  obtain ⟨B, rB, bB, tB, _, ey⟩ := hY
  have HX := hid ex
  have HY := hid ey
  clear ex ey
  have HA := hid rA.size
  have HB := hid rB.size
  go_enter Tryd.func40, Tryd.ntmps40
  go_wp2_with (at_make; refine wpList_make_full _ rfl _ _ 26 rfl (w.heap.size + 3) 3 i0 (.int .i64 0) 1 Tryd.underlying26 hi hz0 hz1 .i64 .i64 _ _ (xl + yl + 1) rfl rfl (by omega) (by omega) ?c1 ?c2 ?c3 ?_)
  case c1 => rw [hz2]; omega
  case c2 => unfold maxLen; omega
  case c3 => simp
  intro w1 hown hgrow
  obtain ⟨wz, hz⟩ : ∃ wz, wz = ((w.alloc (.cells #[.bool nx, .slice xo xl xc] 28)).alloc (.cells #[.bool ny, .slice yo yl yc] 28)).alloc (.cells #[.bool false, .slice none 0 0] 28) := ⟨_, rfl⟩
  have hzs : wz.heap.size = w.heap.size + 1 + 1 + 1 := by rw [hz]; simp
  obtain ⟨hpx, hpy, hpr, hzb, hzl⟩ := new3 hz
  rw [← hz] at hgrow
  clear hz
  have HPx := hid hpx
  have HPy := hid hpy
  have HPr := hid hpr
  have zA := rA.keep hzb
  have zB := rB.keep hzb
  clear hpx hpy hpr rA rB
  have HZ := hid hzs
  have hrow : Rwi w1 (w.heap.size + 1 + 1 + 1) (List.replicate (xl + yl + 1) 0) := Rwi.of_own hown (made_zeros_i _ _ (by omega))
  have hbel : Below wz.heap.size wz w1 := (Below.refl _ _).grown hgrow (Nat.le_refl _) (by intro k hk; simp at hk)
  clear hown hgrow hi hz0 hz1 hz2 hzs hzl
  go_wp2
  go_loopw [6] (fun i wr => ∃ (k : Nat) (S : List Nat), k ≤ xl ∧ i = .int .i64 (k : Int) ∧ Hid (S.length = xl + yl + 1) ∧ Hid (∀ j, dg S j ≤ k) ∧ Hid (bv S = bv (A.take k) * bv B) ∧ Rwi wr (w.heap.size + 1 + 1 + 1) S ∧ Below wz.heap.size wz wr) (fun i _ => xl - (intOf i).toNat)
  case atStart => exact ⟨0, _, by omega, rfl, hid (by simp), hid (fun j => by rw [dg_repl]; omega), hid (by rw [bv_zeros]; simp [bv]), hrow, hbel⟩
  case round =>
    obtain ⟨k, S, hk, rfl, hSl, hSb, hSv, hR, hb⟩ := hrel
    clear hrow hbel
    obtain ⟨x0, x1, _, _⟩ := two_cells (heap_keep HPx.out hb)
    obtain ⟨y0, y1, _, _⟩ := two_cells (heap_keep HPy.out hb)
    have zAr := zA.keep hb
    have zBr := zB.keep hb
    by_cases hlt : k < xl
    · obtain ⟨b, off, rfl, hc⟩ := zAr.cells (by omega)
      have hcell := hc k hlt
      have hxb := bA.dg k
      clear hc zAr
      by_cases hone : dg A k = 1
      · have ht1 : ((dg A k : Int) == 1) = true := by simp; omega
        have HONE := hid hone
        clear hone
        go_wp2
        go_loopw [7] (fun j ws => ∃ (m : Nat) (N : List Nat), m ≤ yl ∧ j = .int .i64 (m : Int) ∧ Hid (N.length = xl + yl + 1) ∧ Hid (∀ j, k + m ≤ j → dg N j ≤ k) ∧ Hid (∀ j, dg N j ≤ k + 1) ∧ Hid (bv N = bv S + 2 ^ k * bv (B.take m)) ∧ Rwi ws (w.heap.size + 1 + 1 + 1) N ∧ Below wz.heap.size wz ws) (fun j _ => yl - (intOf j).toNat)
        case atStart => exact ⟨0, S, by omega, rfl, hSl, hid (fun j _ => hSb.out j), hid (fun j => by have := hSb.out j; omega), hid (by simp [bv]), hR, hb⟩
        case round =>
          obtain ⟨m, N, hm, rfl, hNl, hNa, hNb, hNv, hRN, hb2⟩ := hrel
          clear hR x0 x1 y0 y1 zBr hcell
          obtain ⟨y0, y1, _, _⟩ := two_cells (heap_keep HPy.out hb2)
          have zBr := zB.keep hb2
          by_cases hlt2 : m < yl
          · obtain ⟨b', off', rfl, hc'⟩ := zBr.cells (by omega)
            have hcell' := hc' m hlt2
            clear hc' zBr
            have hyb := bB.dg m
            have hcur := hRN.cell (k + m) (by rw [hNl.out]; omega)
            have hfr := hRN.free (k + m)
            have hnb := hNa.out (k + m) (Nat.le_refl _)
            have s1 : IntKind.i64.wrap ((k : Int) + (m : Int)) = (k : Int) + (m : Int) := IntWalk.i64_in _ (by omega)
            have s2 : 0 ≤ (k : Int) + (m : Int) := by omega
            have s3 : ((k : Int) + (m : Int)).toNat = k + m := by omega
            have s4 : IntKind.i64.wrap ((dg N (k + m) : Int) + (dg B m : Int)) = (dg N (k + m) : Int) + (dg B m : Int) := IntWalk.i64_in _ (by omega)
            go_wp2_with fail
            go_region
            clear s1 s2 s3 s4
            go_wp2
            go_roundw
            case rel =>
              refine ⟨m + 1, N.set (k + m) (dg N (k + m) + dg B m), by omega, by go_num, hid (by rw [List.length_set, hNl.out]), hid (fun j hj => ?_), hid (fun j => ?_), hid ?_, (hRN.set' (k + m) _ (by simp)).drew, (hb2.setCell (by rw [HZ.out]; simp) _).drew⟩
              · rw [dg_set_ne _ _ _ _ (by omega)]; exact hNa.out j (by omega)
              · by_cases hj : k + m = j
                · subst hj; rw [dg_set_eq _ _ _ (by rw [hNl.out]; omega)]; omega
                · rw [dg_set_ne _ _ _ _ hj]; exact hNb.out j
              · rw [bv_set_add _ _ _ (by rw [hNl.out]; omega), hNv.out, bv_take_any, Nat.pow_add, Nat.mul_add, Nat.mul_assoc]; omega
            case measure => simp [intOf]; omega
          · obtain rfl : m = yl := by omega
            go_wp2
            go_roundw
            case rel =>
              refine ⟨k + 1, N, by omega, by go_num, hNl, hNb, hid ?_, hRN, hb2⟩
              rw [hNv.out, hSv.out, bv_take_ge B m (by rw [HB.out]; omega), bv_take_dg A k (by rw [HA.out]; omega), HONE.out, Nat.add_mul, Nat.mul_one]
            case measure => simp [intOf]; omega
      · have ht0 : ((dg A k : Int) == 1) = false := by simp; omega
        have HONE : Hid (dg A k = 0) := hid (by omega)
        clear hone
        go_wp2
        go_roundw
        case rel =>
          refine ⟨k + 1, S, by omega, by go_num, hSl, hid (fun j => by have := hSb.out j; omega), hid ?_, hR, hb⟩
          rw [hSv.out, bv_take_dg A k (by rw [HA.out]; omega), HONE.out, Nat.mul_zero, Nat.add_zero]
        case measure => simp [intOf]; omega
    · obtain rfl : k = xl := by omega
      have HV : Hid (bv S = bv A * bv B) := hid (by rw [hSv.out, bv_take_ge A k (by rw [HA.out]; omega)])
      clear hSv zAr zBr
      go_wp2
      go_loopw [8, 9] (fun c i ws => ∃ (m cv : Nat) (N : List Nat), m ≤ k + yl + 1 ∧ i = .int .i64 (m : Int) ∧ c = .int .i64 (cv : Int) ∧ cv ≤ k ∧ Hid (N.length = k + yl + 1) ∧ Hid (∀ j, m ≤ j → dg N j ≤ k) ∧ Hid (∀ j, j < m → dg N j ≤ 1) ∧ Hid (bv N + 2 ^ m * cv = bv A * bv B) ∧ Rwi ws (w.heap.size + 1 + 1 + 1) N ∧ Below wz.heap.size wz ws) (fun _ i _ => k + yl + 1 - (intOf i).toNat)
      case atStart => exact ⟨0, 0, S, by omega, rfl, rfl, by omega, hSl, hid (fun j _ => hSb.out j), hid (fun j h => by omega), hid (by rw [HV.out]; simp), hR, hb⟩
      case round =>
        obtain ⟨m, cv, N, hm, rfl, rfl, hcv, hNl, hNa, hN1, hNv, hRN, hb2⟩ := hrel
        clear hR
        by_cases hlt2 : m < k + yl + 1
        · have hcur := hRN.cell m (by rw [hNl.out]; omega)
          have hfr := hRN.free m
          have hnb := hNa.out m (Nat.le_refl _)
          go_wp2
          go_roundw
          case rel =>
            refine ⟨m + 1, (dg N m + cv) / 2, N.set m ((dg N m + cv) % 2), by omega, by go_num, congrArg (Value.int .i64) (by omega), by omega, hid (by rw [List.length_set, hNl.out]), hid (fun j hj => ?_), hid (fun j hj => ?_), hid ?_, hRN.set' m _ (by omega), hb2.setCell (by rw [HZ.out]; simp) _⟩
            · rw [dg_set_ne _ _ _ _ (by omega)]; exact hNa.out j (by omega)
            · by_cases hj2 : m = j
              · subst hj2; rw [dg_set_eq _ _ _ (by rw [hNl.out]; omega)]; omega
              · rw [dg_set_ne _ _ _ _ hj2]; exact hN1.out j (by omega)
            · exact bcarry_set (by rw [hNl.out]; omega) hNv.out (by omega)
          case measure => simp [intOf]; omega
        · obtain rfl : m = k + yl + 1 := by omega
          have hE := times_end (l := k) (m := yl) hNv.out (by have := bv_lt bA; rwa [HA.out] at this) (by have := bv_lt bB; rwa [HB.out] at this) rfl (t := bv N)
          have bN : B1 N := B1_of_dg fun j hj => hN1.out j (by rw [hNl.out] at hj; exact hj)
          have HE : Hid (bv N = bv A * bv B) := hid (by
            have h1 := hNv.out
            rcases Nat.eq_zero_or_pos cv with rfl | hp
            · simpa using h1
            · have h2 := times_end (l := k) (m := yl) h1 (by have := bv_lt bA; rwa [HA.out] at this) (by have := bv_lt bB; rwa [HB.out] at this) rfl rfl
              omega)
          clear hE
          have hRi := hRN.whole (k + yl + 1) (by rw [hNl.out]; omega) (by rw [hNl.out]; omega)
          rw [hNl.out] at hRi
          obtain ⟨x0, x1, _, _⟩ := two_cells (heap_keep HPx.out hb2)
          obtain ⟨y0, y1, _, _⟩ := two_cells (heap_keep HPy.out hb2)
          have hPr2 := heap_keep HPr.out hb2
          go_wp2_with (go_at_call 68; refine (laidR (nx != ny) _ _ _ N _ hRi bN).mono ?_; rintro e w3 ⟨n', len', rfl, hle, hbig, hb3⟩; have k0 := heap_keep hPr2 hb3; obtain ⟨c0, c1, f0, f1⟩ := two_cells k0)
          have hs3 := hb3.size
          have hs2 := hb2.size
          have HB3 := hzb.trans ((hb2.trans (hb3.mono hs2)).mono hzb.size)
          refine bodyPost_ret (v := .agg #[.bool n', .slice (some ⟨w.heap.size + 1 + 1 + 1, 0, none⟩) len' (k + yl + 1)]) (by simp [results, Tryd.results40, go_sem, c0, c1]) rfl ⟨_, _, _, _, rfl, ?_, ?_, ?_⟩
          · omega
          · exact (hbig.other k0 (by simp) (by simp) _ _).cast (by rw [sg_mul nx ny HE.out, HX.out, HY.out])
          · exact (HB3.setCell (by simp; omega) _).setCell (by simp; omega) _
end Go.Proofs.YtldafoojkimdeaaDoor

namespace Go.Proofs.YtldafoojkimdeaaDoor
open Go.RowKit Lm

set_option maxRecDepth 100000 in
set_option maxHeartbeats 1000000 in
/-- The error that is asked for, and nothing beside it. -/
theorem isR_bad (c : Int) (hc : c ≠ 0) (nw : Bool) (wo : Option Addr) (wl wc : Nat) (w : World) :
    Calls Tryd.prog 38 #[.agg #[.bool false, .slice none 0 0], .int .i64 c, .agg #[.bool nw, .slice wo wl wc], .int .i64 c] w fun e w' => e = .returned (.bool true) ∧ Below w.heap.size w w' := by
  have h1 : (c == 0) = false := by simpa using hc
  have h2 : (c != 0) = true := by simpa using hc
  have h3 : (c == c) = true := by simp
  clear hc
  go_enter Tryd.func38, Tryd.ntmps38
  go_wp2
  go_ret
  exact ⟨rfl, ((Below.refl _ _).alloc (Nat.le_refl _) _).alloc (by simp) _⟩

set_option maxRecDepth 100000 in
set_option maxHeartbeats 1000000 in
/-- What is too long is refused. -/
theorem isR_long (nw : Bool) (wo : Option Addr) (wl wc : Nat) (w : World) (hl : 4096 < wl) :
    Calls Tryd.prog 38 #[.agg #[.bool false, .slice none 0 0], .int .i64 10, .agg #[.bool nw, .slice wo wl wc], .int .i64 0] w fun e w' => e = .returned (.bool true) ∧ Below w.heap.size w w' := by
  have h0 : decide (4096 < wl) = true := decide_eq_true hl
  have HA := hid (heap_alloc_new w (.cells #[.bool false, .slice none 0 0] 24))
  go_enter Tryd.func38, Tryd.ntmps38
  go_wp2_with (go_at_call 45; refine (longR1 nw wo wl wc _).mono ?_; rintro e w1 ⟨rfl, hb1⟩; rw [h0]; obtain ⟨a0, a1, _, _⟩ := two_cells (heap_keep (hpS (.cells #[.bool nw, .slice wo wl wc] 28) HA.out) hb1))
  go_ret
  exact ⟨rfl, balloc2 hb1⟩

/-- What is in nobody's way: all blocks but an answer's own. -/
def Apart (ao : Option Addr) (b : Nat) : Prop := ∀ a, ao = some a → b ≠ a.block
theorem Own.lt {base : Nat} {w : World} {ao : Option Addr} {len : Nat} {L : List Nat} (h : Own base w ao len L) : ∀ a, ao = some a → a.block < w.heap.size ∧ base ≤ a.block := by
  intro a e
  rcases h with ⟨_, h, _⟩ | ⟨_, _, g, h3, h4, h5⟩
  · rw [h] at e; cases e
  · rw [h4] at e; cases e; exact ⟨h5.lt, h3⟩
theorem Own.cells {base : Nat} {w : World} {ao : Option Addr} {len : Nat} {L : List Nat} (h : Own base w ao len L) : len = L.length ∧ (ao = none → len = 0 ∧ len = 0) ∧ ∀ b, ao = some b → ∀ j u, (lims L)[j]? = some u → w.cell? (b.add j) = some u := by
  rcases h with ⟨rfl, h, rfl⟩ | ⟨h1, h2, g, h3, h4, h5⟩
  · exact ⟨rfl, fun _ => ⟨rfl, rfl⟩, fun b e => by rw [h] at e; cases e⟩
  · refine ⟨h2, (fun e => by (rw [h4] at e; cases e)), fun b e j u hj => ?_⟩
    rw [h4] at e; cases e
    have hlt : j < L.length := by
      rcases Nat.lt_or_ge j L.length with h | h
      · exact h
      · rw [List.getElem?_eq_none (by rw [lims_len]; exact h)] at hj; cases hj
    have := h5.cell j hlt
    rw [lims_get L j hlt] at hj
    simp only [Option.some.injEq] at hj
    rcases Nat.eq_zero_or_pos j with rfl | h0
    · simpa [Addr.add, ← hj] using this
    · simpa [Addr.add, ← hj, Nat.ne_of_gt h0] using this

theorem fives_cells (w : World) : ∀ j u, ([.int .u32 5, .int .u32 5] : List Value)[j]? = some u → (w.alloc (.cells #[.int .u32 5, .int .u32 5] 43)).cell? ((⟨w.heap.size, 0, none⟩ : Addr).add j) = some u := by
  intro j u hj
  match j, hj with
  | 0, hj => simp at hj; subst hj; simp [Addr.add]
  | 1, hj => simp at hj; subst hj; simp [Addr.add]
  | j + 2, hj => simp at hj
theorem fives_one : ∀ u ∈ ([.int .u32 5, .int .u32 5] : List Value), u.oneCell' = true := by
  intro u hu; simp at hu; subst hu; rfl

set_option maxRecDepth 100000 in
set_option maxHeartbeats 4000000 in
/-- The document's integer, not too long: the answer's limbs are written over, and nothing else that was there. -/
theorem isR_good (n : Bool) (ao : Option Addr) (len : Nat) (v : Int) (nw : Bool) (wo : Option Addr) (wl wc : Nat) (w0 w : World) (hb0 : Below w0.heap.size w0 w) (hN : Num w0.heap.size w n ao len v) (hB : Big w nw wo wl wc v) (hl : wl ≤ 4096) :
    Calls Tryd.prog 38 #[.agg #[.bool n, .slice ao len len], .int .i64 0, .agg #[.bool nw, .slice wo wl wc], .int .i64 0] w fun e w' => e = .returned (.bool true) ∧ Below w0.heap.size w0 w' ∧ (∀ b, b < w.heap.size → Apart ao b → w'.heap[b]? = w.heap[b]?) ∧ w.heap.size ≤ w'.heap.size := by
  obtain ⟨i0, hi, hz0, hz1, hz2⟩ := info_parts Tryd.info43
  have h0 : decide (4096 < wl) = false := decide_eq_false (by omega)
  have HA := hid (heap_alloc_new w (.cells #[.bool n, .slice ao len len] 24))
  have HY := hid (heap_alloc_new (w.alloc (.cells #[.bool n, .slice ao len len] 24)) (.cells #[.bool nw, .slice wo wl wc] 28))
  go_enter Tryd.func38, Tryd.ntmps38
  go_wp2_with (go_at_call 45; refine (longR1 nw wo wl wc _).mono ?_; rintro e w1 ⟨rfl, hb1⟩; rw [h0]; have p0 := heap_keep (hpS (.cells #[.bool nw, .slice wo wl wc] 28) HA.out) hb1; have p1 := heap_keep HY.out hb1; simp only [World.size_alloc] at p1; obtain ⟨a0, a1, _, _⟩ := two_cells p0; obtain ⟨y0, y1, _, _⟩ := two_cells p1)
  have P0 := hid p0
  have P1 := hid p1
  have hb2 := balloc2 hb1
  have hs1 : w.heap.size + 2 ≤ w1.heap.size := by have := hb1.size; simp at this ⊢; omega
  clear p0 p1 hb1 HA HY
  have n1 := (Nrm.of_num hN rfl).keep hb2.drew
  have d_b := (hB.keep hb2).drew
  have h_a := hid (show w1.drew.heap[w.heap.size]? = some (.cells #[.bool n, .slice ao len len] 24 (0, 0)) from P0.out)
  have h_y := hid (show w1.drew.heap[w.heap.size + 1]? = some (.cells #[.bool nw, .slice wo wl wc] 28 (0, 0)) from P1.out)
  have hacc : Below w.heap.size w w1.drew := hb2.drew
  obtain ⟨L, oL, tL, hO, hnil, hv, hlen⟩ := hN
  have HO := hid hO.lt
  have HL := hid hO.cells.1
  have hl2 : len ≤ 128 := by
    have h1 := hB.len
    rw [← hv, num_abs] at h1
    rw [HL.out, ← tL.tl]
    exact len_of_bl L 128 (by omega)
  clear hnil hv tL hB hb2
  go_region_held3 (fun w' => w'.cell? ⟨w.heap.size, 0, none⟩ = some (.bool n) ∧ w'.cell? ⟨w.heap.size, 1, none⟩ = some (.slice ao len len) ∧ w'.cell? ⟨w.heap.size + 1, 0, none⟩ = some (.bool nw) ∧ w'.cell? ⟨w.heap.size + 1, 1, none⟩ = some (.slice wo wl wc))
    (first
      | go_keep
      | (with_reducible exact ⟨(two_cells h_a.out).1, (two_cells h_a.out).2.1, (two_cells h_y.out).1, (two_cells h_y.out).2.1⟩))
    (first
      | (go_at_call 21; (with_reducible refine (intN _ _ _ _ v _ d_b (by omega)).mono ?_); rintro e w5 ⟨n2, o2, l2, c2, rfl, hI, hbk⟩; have h_a := hid (heap_keep h_a.out hbk); have h_y := hid (heap_keep h_y.out hbk); have n1 := n1.keep hbk; have hacc := hacc.trans (hbk.mono hacc.size))
      | (go_at_call 19; (with_reducible refine (sameV n1 hI).mono ?_); rintro e w5 ⟨rfl, hbk⟩; have h_a := hid (heap_keep h_a.out hbk); have h_y := hid (heap_keep h_y.out hbk); have hacc := hacc.trans (hbk.mono hacc.size)))
  generalize hwd : w5 = wd at *
  clear hwd n1 hI
  have hO2 := hO.keep hacc
  have hsd := hacc.size
  have hb3 := hb0.trans (hacc.mono hb0.size)
  clear d_b
  go_wp2
  go_loopw [11] (fun i ws => ∃ (k : Nat) (M : List Nat), k ≤ len ∧ i = .int .i64 (k : Int) ∧ Own w0.heap.size ws ao len M ∧ Hid (∀ b, b < wd.heap.size → Apart ao b → ws.heap[b]? = wd.heap[b]?) ∧ Below w0.heap.size w0 ws) (fun i _ => len - (intOf i).toNat)
  case atStart => exact ⟨0, L, by omega, rfl, hO2, hid (fun _ _ _ => rfl), hb3⟩
  case round =>
    obtain ⟨k, M, hk, rfl, hOw, hst, hb⟩ := hrel
    have hxx : wd.heap.size > w.heap.size + 1 := by have := lt_of_block h_y.out; omega
    have hp := (hst.out w.heap.size (by omega) (fun a e => by have := (HO.out a e).1; omega)).trans h_a.out
    obtain ⟨x0, x1, _, _⟩ := two_cells hp
    have HP := hid hp
    clear hp
    by_cases hgo : k < len
    · rcases hOw with ⟨_, _, h⟩ | ⟨hne, hlM, g, hg, rfl, hR⟩
      · omega
      have HM := hid hlM
      clear hlM hne
      have hck := hR.cell k (by rw [← HM.out]; exact hgo)
      have hfk := hR.free k
      go_wp2
      go_roundw
      case rel =>
        refine ⟨k + 1, M.set k 99, by omega, by go_num, .inr ⟨by intro e; have := congrArg List.length e; rw [List.length_set, ← HM.out] at this; simp at this; omega, by rw [List.length_set]; exact HM.out, g, hg, rfl, hR.set' k 99 rfl⟩, hid (fun b h1 h2 => ?_), hb.setCell (by simpa using hg) _⟩
        rw [Below.heap_setCell _ _ _ _ (by have := h2 _ rfl; simpa using this)]; exact hst.out b h1 h2
      case measure => simp [intOf]; omega
    · obtain rfl : k = len := by omega
      obtain ⟨c1, c2, c3⟩ := hOw.cells
      have HC1 := hid c1
      have HC2 := hid c2
      have HC3 : Hid (∀ b, ao = some b → ∀ j u, (lims M)[j]? = some u → (wr.alloc (.cells #[.int .u32 5, .int .u32 5] 43)).cell? (b.add j) = some u) := hid (fun b e j u hj => cell_keep (c3 b e j u hj) ((Below.refl _ _).alloc (Nat.le_refl _) _))
      clear c1 c2 c3
      go_wp2_with (at_builtin; refine wpList_append_grows _ rfl _ _ 22 rfl 43 i0 (.int .u32 0) 1 4 Tryd.underlying22 hi hz0 hz1 hz2 rfl (by decide) ao k k (lims M) rfl HC2.out (by rw [lims_len, Nat.mul_one]; exact HC1.out.symm) HC3.out ⟨wr.heap.size, 0, none⟩ 2 2 [.int .u32 5, .int .u32 5] rfl rfl (fives_cells wr) fives_one (by omega) (by unfold maxLen; omega) (by omega) ?_)
      intro v2 w6 hown6 hgrow6
      have HB6 := hid (show Below w0.heap.size w0 w6 from (hb.alloc hb.size _).grown hgrow6 (by have := hb.size; simp; omega) (by intro k hk; cases hk))
      have hsr := hb.size
      have hsp := lt_of_block HP.out
      rcases hown6.2 with ⟨_, h0⟩ | ⟨g, cap, cur, rfl, hgB, hgb, hnc, -⟩
      · omega
      have hgs := lt_of_block hgb
      have hfr6 := hown6.frozenAt 0
      have HST : Hid (∀ b, b < w.heap.size → Apart ao b → w6.heap[b]? = w.heap[b]?) := hid (fun b h1 h2 => by
        rw [hgrow6.block b (by simp; omega) (by simp)]
        rw [Below.heap_alloc _ _ _ (by omega), hst.out b (by omega) h2, hacc.block b h1])
      have HG : Hid (w.heap.size ≤ g) := hid (by first | omega | (simp at hgB; omega))
      have HG0 : Hid (w0.heap.size ≤ g) := hid (by have := hb0.size; have := HG.out; omega)
      have hc0 := hown6.cellAt 0 (by omega)
      have HSZ : Hid (w.heap.size ≤ w6.heap.size) := hid (by have := HG.out; omega)
      clear hown6 hgrow6 hgB hgb
      go_wp2
      go_ret
      refine ⟨rfl, HB6.out.setCell HG0.out _, fun b h1 h2 => ?_, by simpa using HSZ.out⟩
      rw [Below.heap_setCell _ _ _ _ (by have := HG.out; simp; omega)]
      exact HST.out b h1 h2
end Go.Proofs.YtldafoojkimdeaaDoor

namespace Go.Proofs.YtldafoojkimdeaaDoor
open Go.RowKit Lm

/-- An answer: the error that is asked for, or the integer, or nothing and the error of what is too long. -/
def AnsE (B : Nat) (w : World) (n : Bool) (ao : Option Addr) (len : Nat) (c e v : Int) : Prop :=
  (e ≠ 0 ∧ c = e ∧ n = false ∧ ao = none ∧ len = 0) ∨ (e = 0 ∧ ((bl v.natAbs ≤ 4096 ∧ c = 0 ∧ Num B w n ao len v) ∨ (4096 < bl v.natAbs ∧ c = 10 ∧ n = false ∧ ao = none ∧ len = 0)))

theorem Num.own {B : Nat} {w : World} {n : Bool} {ao : Option Addr} {len : Nat} {v : Int} (h : Num B w n ao len v) : ∀ a, ao = some a → a.block < w.heap.size ∧ B ≤ a.block := by
  obtain ⟨L, _, _, h3, _⟩ := h; exact h3.lt
/-- A call's answer, laid in new memory. -/
def AnsO (B : Nat) (w w' : World) (n : Bool) (ao : Option Addr) (len : Nat) (c e v : Int) : Prop :=
  AnsE B w' n ao len c e v ∧ ∀ a, ao = some a → w.heap.size ≤ a.block ∧ a.block < w'.heap.size

/-- An answer in a variable's block; both lie from lo on, below hi. -/
structure An (B lo hi : Nat) (w : World) (g : Nat) (n : Bool) (ao : Option Addr) (len : Nat) (c e v : Int) : Prop where
  box : Pr w g 24 (.bool n) (.slice ao len len)
  ans : AnsE B w n ao len c e v
  low : lo ≤ g
  high : g < hi
  own : ∀ a, ao = some a → lo ≤ a.block ∧ a.block < g
  top : hi ≤ w.heap.size

theorem AnsE.same {B : Nat} {w w' : World} {n : Bool} {ao : Option Addr} {len : Nat} {c e v : Int} (h : AnsE B w n ao len c e v) (hs : ∀ a, ao = some a → w'.heap[a.block]? = w.heap[a.block]?) : AnsE B w' n ao len c e v := by
  rcases h with h | ⟨h0, ⟨h1, h2, L, k1, k2, k3, k4⟩ | h⟩
  · exact .inl h
  · refine .inr ⟨h0, .inl ⟨h1, h2, L, k1, k2, ?_, k4⟩⟩
    rcases k3 with k3 | ⟨l1, l2, g, l3, l4, l5⟩
    · exact .inl k3
    · exact .inr ⟨l1, l2, g, l3, l4, ⟨by rw [hs _ l4]; exact l5.block⟩⟩
  · exact .inr ⟨h0, .inr h⟩
theorem An.keep {B lo hi : Nat} {w w' : World} {g : Nat} {n : Bool} {ao : Option Addr} {len : Nat} {c e v : Int} (h : An B lo hi w g n ao len c e v) (hb : Below w.heap.size w w') : An B lo hi w' g n ao len c e v :=
  ⟨h.box.keep hb, h.ans.same fun a ha => hb.block _ (by have := (h.own a ha).2; have := h.high; have := h.top; omega), h.low, h.high, h.own, Nat.le_trans h.top hb.size⟩
theorem An.alloc {B lo hi : Nat} {w : World} {g : Nat} {n : Bool} {ao : Option Addr} {len : Nat} {c e v : Int} (h : An B lo hi w g n ao len c e v) (o : Obj) : An B lo hi (w.alloc o) g n ao len c e v := h.keep ((Below.refl _ _).alloc (Nat.le_refl _) _)
theorem An.drew {B lo hi : Nat} {w : World} {g : Nat} {n : Bool} {ao : Option Addr} {len : Nat} {c e v : Int} (h : An B lo hi w g n ao len c e v) : An B lo hi w.drew g n ao len c e v := h.keep (Below.refl _ _).drew
/-- Another answer is written over: this one stays. -/
theorem An.keepA {B lo hi : Nat} {w w' : World} {g : Nat} {n : Bool} {ao : Option Addr} {len : Nat} {c e v : Int} (h : An B lo hi w g n ao len c e v) {ao' : Option Addr} (hz : w.heap.size ≤ w'.heap.size)
    (hs : ∀ b, b < w.heap.size → Apart ao' b → w'.heap[b]? = w.heap[b]?) (ha : ∀ a, ao' = some a → a.block < lo ∨ hi ≤ a.block) : An B lo hi w' g n ao len c e v := by
  have h1 := h.low
  have h2 := h.high
  have h3 := h.top
  refine ⟨(hs g (by omega) fun a e => by have := ha a e; omega).trans h.box, h.ans.same fun a e => ?_, h1, h2, h.own, Nat.le_trans h3 hz⟩
  have := h.own a e
  exact hs _ (by omega) fun a' e' => by have := ha a' e'; omega
theorem An.apart {B lo hi : Nat} {w : World} {g : Nat} {n : Bool} {ao : Option Addr} {len : Nat} {c e v : Int} (h : An B lo hi w g n ao len c e v) : Apart ao g := fun a e => by have := h.own a e; omega
theorem An.later {B lo hi : Nat} {w : World} {g : Nat} {n : Bool} {ao : Option Addr} {len : Nat} {c e v : Int} (h : An B lo hi w g n ao len c e v) {lo' hi' : Nat} (hh : hi ≤ lo') : ∀ a, ao = some a → a.block < lo' ∨ hi' ≤ a.block := fun a e => by have := h.own a e; have := h.high; omega
theorem An.new {B lo : Nat} {w w' : World} {n : Bool} {ao : Option Addr} {len : Nat} {c e v : Int} (h : AnsO B w w' n ao len c e v) (hlo : lo ≤ w.heap.size) (hz : w.heap.size ≤ w'.heap.size) :
    An B lo (w'.heap.size + 1) (w'.alloc (.cells #[.bool n, .slice ao len len] 24)) w'.heap.size n ao len c e v :=
  ⟨Pr.new _ _ _ _, h.1.same fun a e => Below.heap_alloc _ _ _ (h.2 a e).2, by omega, by omega, fun a e => by have := h.2 a e; omega, by simp⟩

/-- The helper is, of an answer and the document's integer. -/
theorem isA {n : Bool} {ao : Option Addr} {len : Nat} {c e v v' : Int} {nw : Bool} {wo : Option Addr} {wl wc : Nat} {w0 w : World} (hb0 : Below w0.heap.size w0 w) (hA : AnsE w0.heap.size w n ao len c e v) (hB : Big w nw wo wl wc v') (hv : e = 0 → v' = v) :
    Calls Tryd.prog 38 #[.agg #[.bool n, .slice ao len len], .int .i64 c, .agg #[.bool nw, .slice wo wl wc], .int .i64 e] w fun r w' => r = .returned (.bool true) ∧ Below w0.heap.size w0 w' ∧ (∀ b, b < w.heap.size → Apart ao b → w'.heap[b]? = w.heap[b]?) ∧ w.heap.size ≤ w'.heap.size := by
  have hl := hB.len
  rcases hA with ⟨h0, rfl, rfl, rfl, rfl⟩ | ⟨rfl, ⟨h1, rfl, hN⟩ | ⟨h1, rfl, rfl, rfl, rfl⟩⟩
  · refine (isR_bad c h0 nw wo wl wc w).mono ?_
    rintro r w' ⟨rfl, hb⟩
    exact ⟨rfl, hb0.trans (hb.mono hb0.size), fun b h1 _ => hb.block b h1, hb.size⟩
  · obtain rfl := hv rfl
    refine (isR_good n ao len v' nw wo wl wc w0 w hb0 hN hB (by omega)).mono ?_
    rintro r w' ⟨rfl, hb, hs⟩
    exact ⟨rfl, hb, hs⟩
  · obtain rfl := hv rfl
    refine (isR_long nw wo wl wc w (by omega)).mono ?_
    rintro r w' ⟨rfl, hb⟩
    exact ⟨rfl, hb0.trans (hb.mono hb0.size), fun b h1 _ => hb.block b h1, hb.size⟩

theorem AnsO.of_ans {bad : Bool} {B : Nat} {w w' : World} {n : Bool} {ao : Option Addr} {len : Nat} {c e v : Int} (h : Ans bad w w' n ao len c v) (he : e = if bad then 10 else 0) (hB : B ≤ w.heap.size) : AnsO B w w' n ao len c e v := by
  rcases h with ⟨rfl, rfl, rfl, rfl, rfl⟩ | ⟨rfl, ⟨h1, rfl, hN⟩ | ⟨h1, rfl, rfl, rfl, rfl⟩⟩
  · exact ⟨.inl ⟨by rw [he]; decide, by rw [he]; rfl, rfl, rfl, rfl⟩, fun a e => by cases e⟩
  · exact ⟨.inr ⟨he, .inl ⟨h1, rfl, hN.mono hB⟩⟩, fun a e => (hN.own a e).symm⟩
  · exact ⟨.inr ⟨he, .inr ⟨h1, rfl, rfl, rfl, rfl⟩⟩, fun a e => by cases e⟩
theorem bad_of {n m : Bool} {A B : List Nat} {va vb : Int} {xl yl : Nat} (ha : num n A = va) (hb : num m B = vb) (hx : xl = bl va.natAbs) (hy : yl = bl vb.natAbs) : (if (tooLong A || tooLong B) = true then (10 : Int) else 0) = if 4096 < xl ∨ 4096 < yl then 10 else 0 := by
  subst ha hb
  rw [num_abs] at hx hy
  unfold tooLong
  subst hx hy
  simp

theorem addE {B0 : Nat} {na : Bool} {aa : Option Addr} {la ca : Nat} {A : List Nat} {nb : Bool} {ab : Option Addr} {lb cb : Nat} {B : List Nat} {va vb e : Int} {w : World} (hA : Rd w aa la ca A) (hB : Rd w ab lb cb B) (ea : num na A = va) (eb : num nb B = vb) (he : e = if tooLong A || tooLong B then 10 else 0) (h0 : B0 ≤ w.heap.size) :
    Calls Tryd.prog 35 #[.agg #[.bool na, .slice aa la ca], .agg #[.bool nb, .slice ab lb cb]] w fun r w' => ∃ n ao len c, r = .returned (.tuple #[.agg #[.bool n, .slice ao len len], .int .i64 c]) ∧ AnsO B0 w w' n ao len c e (va + vb) ∧ Below w.heap.size w w' := by
  refine (Add_any na aa la ca A nb ab lb cb B w hA hB).mono ?_
  rintro r w' ⟨n, ao, len, c, rfl, hans, hb⟩
  rw [ea, eb] at hans
  exact ⟨_, _, _, _, rfl, AnsO.of_ans hans he h0, hb⟩
theorem subE {B0 : Nat} {na : Bool} {aa : Option Addr} {la ca : Nat} {A : List Nat} {nb : Bool} {ab : Option Addr} {lb cb : Nat} {B : List Nat} {va vb e : Int} {w : World} (hA : Rd w aa la ca A) (hB : Rd w ab lb cb B) (ea : num na A = va) (eb : num nb B = vb) (he : e = if tooLong A || tooLong B then 10 else 0) (h0 : B0 ≤ w.heap.size) :
    Calls Tryd.prog 36 #[.agg #[.bool na, .slice aa la ca], .agg #[.bool nb, .slice ab lb cb]] w fun r w' => ∃ n ao len c, r = .returned (.tuple #[.agg #[.bool n, .slice ao len len], .int .i64 c]) ∧ AnsO B0 w w' n ao len c e (va + -vb) ∧ Below w.heap.size w w' := by
  refine (Sub_any na aa la ca A nb ab lb cb B w hA hB).mono ?_
  rintro r w' ⟨n, ao, len, c, rfl, hans, hb⟩
  rw [ea, eb, Int.sub_eq_add_neg] at hans
  exact ⟨_, _, _, _, rfl, AnsO.of_ans hans he h0, hb⟩
theorem mulE {B0 : Nat} {na : Bool} {aa : Option Addr} {la ca : Nat} {A : List Nat} {nb : Bool} {ab : Option Addr} {lb cb : Nat} {B : List Nat} {va vb e : Int} {w : World} (hA : Rd w aa la ca A) (hB : Rd w ab lb cb B) (ea : num na A = va) (eb : num nb B = vb) (he : e = if tooLong A || tooLong B then 10 else 0) (h0 : B0 ≤ w.heap.size) :
    Calls Tryd.prog 37 #[.agg #[.bool na, .slice aa la ca], .agg #[.bool nb, .slice ab lb cb]] w fun r w' => ∃ n ao len c, r = .returned (.tuple #[.agg #[.bool n, .slice ao len len], .int .i64 c]) ∧ AnsO B0 w w' n ao len c e (va * vb) ∧ Below w.heap.size w w' := by
  refine (Mul_any na aa la ca A nb ab lb cb B w hA hB).mono ?_
  rintro r w' ⟨n, ao, len, c, rfl, hans, hb⟩
  rw [ea, eb] at hans
  exact ⟨_, _, _, _, rfl, AnsO.of_ans hans he h0, hb⟩
end Go.Proofs.YtldafoojkimdeaaDoor
