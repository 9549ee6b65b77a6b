/- Walks of the document's answer: Long, long, Times. No condition but those that each theorem names. Walks of the law's helper is. No condition but those that each theorem names. Answers that the laws hold against the document's, in the call's own memory: what is kept while another one is written over. No condition but those that each theorem names. Walk of the document's answer: divided. No condition but those that each theorem names. Quotient and remainder lie in memory apart: the walks of QuoRem and DivMod once more, with that. No condition but those that each theorem names. Walks of the document's answer: Quo, Div. No condition but those that each theorem names. Answers and the document's integers in memory, kept while another answer's limbs are written over, by what kind of cells their blocks hold; quotients and remainders are one. No condition but those that each theorem names. -/
import Derived.Test.YtldafoojkimdeaaDoorRefb
import Derived.Test.YtldafoojkimdeaaDoorBitmm
import Derived.RegionTactic
import Derived.BigRegion
import Derived.IntWalk
import Derived.Deep.CutBlock
import Derived.Test.YtldafoojkimdeaaDoorW51m
namespace Go.Proofs.YtldafoojkimdeaaDoor
open Go.RowKit Lm

set_option maxRecDepth 100000 in
set_option maxHeartbeats 1000000 in
theorem longR1 (n : Bool) (o : Option Addr) (l c : Nat) (w : World) :
    Calls Tryd.prog 45 #[.agg #[.bool n, .slice o l c]] w fun e w' => e = .returned (.bool (decide (4096 < l))) ∧ Below w.heap.size w w' := by
  have hd : decide ((4096 : Int) < (l : Int)) = decide (4096 < l) := by simp; omega
  go_enter Tryd.func45, Tryd.ntmps45
  go_wp2
  go_ret
  exact ⟨by simp, (Below.refl _ _).alloc (Nat.le_refl _) _⟩

set_option maxRecDepth 100000 in
set_option maxHeartbeats 1000000 in
theorem longR (nx : Bool) (xo : Option Addr) (xl xc : Nat) (ny : Bool) (yo : Option Addr) (yl yc : Nat) (w : World) :
    Calls Tryd.prog 34 #[.agg #[.bool nx, .slice xo xl xc], .agg #[.bool ny, .slice yo yl yc]] w fun e w' => e = .returned (.int .i64 (if 4096 < xl ∨ 4096 < yl then 10 else 0)) ∧ Below w.heap.size w w' := by
  by_cases h1 : 4096 < xl
  · have h0 : decide (4096 < xl) = true := decide_eq_true h1
    rw [if_pos (.inl h1)]
    go_enter Tryd.func34, Tryd.ntmps34
    go_wp2_with (go_at_call 45; refine (longR1 nx xo xl xc _).mono ?_; rintro e w1 ⟨rfl, hb1⟩; rw [h0])
    go_ret
    exact ⟨rfl, balloc2 hb1⟩
  · have h0 : decide (4096 < xl) = false := decide_eq_false h1
    by_cases h2 : 4096 < yl
    · have h3 : decide (4096 < yl) = true := decide_eq_true h2
      rw [if_pos (.inr h2)]
      go_enter Tryd.func34, Tryd.ntmps34
      go_wp2_with (first
        | (go_at_call_of 45 (Value.agg #[.bool nx, .slice xo xl xc]); refine (longR1 nx xo xl xc _).mono ?_; rintro e w1 ⟨rfl, hb1⟩; rw [h0]; have hy1 := heap_keep (heap_alloc_new (w.alloc (.cells #[.bool nx, .slice xo xl xc] 28)) (.cells #[.bool ny, .slice yo yl yc] 28)) hb1; simp only [World.size_alloc] at hy1; obtain ⟨y0, y1, _, _⟩ := two_cells hy1)
        | (go_at_call_of 45 (Value.agg #[.bool ny, .slice yo yl yc]); refine (longR1 ny yo yl yc _).mono ?_; rintro e w2 ⟨rfl, hb2⟩; rw [h3]))
      go_ret
      exact ⟨rfl, (balloc2 hb1).trans (hb2.mono (balloc2 hb1).size)⟩
    · have h3 : decide (4096 < yl) = false := decide_eq_false h2
      rw [if_neg (by omega)]
      go_enter Tryd.func34, Tryd.ntmps34
      go_wp2_with (first
        | (go_at_call_of 45 (Value.agg #[.bool nx, .slice xo xl xc]); refine (longR1 nx xo xl xc _).mono ?_; rintro e w1 ⟨rfl, hb1⟩; rw [h0]; have hy1 := heap_keep (heap_alloc_new (w.alloc (.cells #[.bool nx, .slice xo xl xc] 28)) (.cells #[.bool ny, .slice yo yl yc] 28)) hb1; simp only [World.size_alloc] at hy1; obtain ⟨y0, y1, _, _⟩ := two_cells hy1)
        | (go_at_call_of 45 (Value.agg #[.bool ny, .slice yo yl yc]); refine (longR1 ny yo yl yc _).mono ?_; rintro e w2 ⟨rfl, hb2⟩; rw [h3]))
      go_ret
      exact ⟨rfl, (balloc2 hb1).trans (hb2.mono (balloc2 hb1).size)⟩

theorem sg_mul (nx ny : Bool) {A B C : List Nat} (h : bv C = bv A * bv B) : sg (nx != ny) C = sg nx A * sg ny B := by
  unfold sg; rw [h]
  cases nx <;> cases ny <;> simp [Int.natCast_mul, Int.neg_mul, Int.mul_neg]
theorem times_end {a b n l m c s t : Nat} (h : s + 2 ^ n * c = a * b) (ha : a < 2 ^ l) (hb : b < 2 ^ m) (hn : n = l + m + 1) (e : t = s) : c = 0 ∧ t = a * b := by
  have h1 : a * b < 2 ^ (l + m) := by
    rw [Nat.pow_add]
    rcases Nat.eq_zero_or_pos b with rfl | hb0
    · rw [Nat.mul_zero]; exact Nat.mul_pos (Nat.pow_pos (by decide)) (Nat.pow_pos (by decide))
    · exact Nat.lt_of_lt_of_le (Nat.mul_lt_mul_of_pos_right ha hb0) (Nat.mul_le_mul_left _ (by omega))
  have h2 : 2 ^ n = 2 * 2 ^ (l + m) := by rw [hn, Nat.pow_succ, Nat.mul_comm]
  rcases Nat.eq_zero_or_pos c with rfl | hc
  · exact ⟨rfl, by omega⟩
  · have : 2 ^ n * 1 ≤ 2 ^ n * c := Nat.mul_le_mul_left _ hc
    omega

set_option maxRecDepth 100000 in
set_option maxHeartbeats 4000000 in
theorem timesR (nx : Bool) (xo : Option Addr) (xl xc : Nat) (vx : Int) (ny : Bool) (yo : Option Addr) (yl yc : Nat) (vy : Int) (w : World) (hX : Big w nx xo xl xc vx) (hY : Big w ny yo yl yc vy) (sx : xl ≤ 1048576) (sy : yl ≤ 1048576) :
    Calls Tryd.prog 40 #[.agg #[.bool nx, .slice xo xl xc], .agg #[.bool ny, .slice yo yl yc]] w fun e w' => ∃ n' ao len cap, e = .returned (.agg #[.bool n', .slice ao len cap]) ∧ len ≤ xl + yl + 1 ∧ Big w' n' ao len cap (vx * vy) ∧ Below w.heap.size w w' := by
  obtain ⟨i0, hi, hz0, hz1, hz2⟩ := info_parts Tryd.infoI
  obtain ⟨A, rA, bA, tA, _, ex⟩ := hX
  obtain ⟨B, rB, bB, tB, _, ey⟩ := hY
  have HX := hid ex
  have HY := hid ey
  clear ex ey
  have HA := hid rA.size
  have HB := hid rB.size
  go_enter Tryd.func40, Tryd.ntmps40
  go_wp2_with (at_make; refine wpList_make_full _ rfl _ _ 26 rfl (w.heap.size + 3) 3 i0 (.int .i64 0) 1 Tryd.underlying26 hi hz0 hz1 .i64 .i64 _ _ (xl + yl + 1) rfl rfl (by omega) (by omega) ?c1 ?c2 ?c3 ?_)
  case c1 => rw [hz2]; omega
  case c2 => unfold maxLen; omega
  case c3 => simp
  intro w1 hown hgrow
  obtain ⟨wz, hz⟩ : ∃ wz, wz = ((w.alloc (.cells #[.bool nx, .slice xo xl xc] 28)).alloc (.cells #[.bool ny, .slice yo yl yc] 28)).alloc (.cells #[.bool false, .slice none 0 0] 28) := ⟨_, rfl⟩
  have hzs : wz.heap.size = w.heap.size + 1 + 1 + 1 := by rw [hz]; simp
  obtain ⟨hpx, hpy, hpr, hzb, hzl⟩ := new3 hz
  rw [← hz] at hgrow
  clear hz
  have HPx := hid hpx
  have HPy := hid hpy
  have HPr := hid hpr
  have zA := rA.keep hzb
  have zB := rB.keep hzb
  clear hpx hpy hpr rA rB
  have HZ := hid hzs
  have hrow : Rwi w1 (w.heap.size + 1 + 1 + 1) (List.replicate (xl + yl + 1) 0) := Rwi.of_own hown (made_zeros_i _ _ (by omega))
  have hbel : Below wz.heap.size wz w1 := (Below.refl _ _).grown hgrow (Nat.le_refl _) (by intro k hk; simp at hk)
  clear hown hgrow hi hz0 hz1 hz2 hzs hzl
  go_wp2
  go_loopw [6] (fun i wr => ∃ (k : Nat) (S : List Nat), k ≤ xl ∧ i = .int .i64 (k : Int) ∧ Hid (S.length = xl + yl + 1) ∧ Hid (∀ j, dg S j ≤ k) ∧ Hid (bv S = bv (A.take k) * bv B) ∧ Rwi wr (w.heap.size + 1 + 1 + 1) S ∧ Below wz.heap.size wz wr) (fun i _ => xl - (intOf i).toNat)
  case atStart => exact ⟨0, _, by omega, rfl, hid (by simp), hid (fun j => by rw [dg_repl]; omega), hid (by rw [bv_zeros]; simp [bv]), hrow, hbel⟩
  case round =>
    obtain ⟨k, S, hk, rfl, hSl, hSb, hSv, hR, hb⟩ := hrel
    clear hrow hbel
    obtain ⟨x0, x1, _, _⟩ := two_cells (heap_keep HPx.out hb)
    obtain ⟨y0, y1, _, _⟩ := two_cells (heap_keep HPy.out hb)
    have zAr := zA.keep hb
    have zBr := zB.keep hb
    by_cases hlt : k < xl
    · obtain ⟨b, off, rfl, hc⟩ := zAr.cells (by omega)
      have hcell := hc k hlt
      have hxb := bA.dg k
      clear hc zAr
      by_cases hone : dg A k = 1
      · have ht1 : ((dg A k : Int) == 1) = true := by simp; omega
        have HONE := hid hone
        clear hone
        go_wp2
        go_loopw [7] (fun j ws => ∃ (m : Nat) (N : List Nat), m ≤ yl ∧ j = .int .i64 (m : Int) ∧ Hid (N.length = xl + yl + 1) ∧ Hid (∀ j, k + m ≤ j → dg N j ≤ k) ∧ Hid (∀ j, dg N j ≤ k + 1) ∧ Hid (bv N = bv S + 2 ^ k * bv (B.take m)) ∧ Rwi ws (w.heap.size + 1 + 1 + 1) N ∧ Below wz.heap.size wz ws) (fun j _ => yl - (intOf j).toNat)
        case atStart => exact ⟨0, S, by omega, rfl, hSl, hid (fun j _ => hSb.out j), hid (fun j => by have := hSb.out j; omega), hid (by simp [bv]), hR, hb⟩
        case round =>
          obtain ⟨m, N, hm, rfl, hNl, hNa, hNb, hNv, hRN, hb2⟩ := hrel
          clear hR x0 x1 y0 y1 zBr hcell
          obtain ⟨y0, y1, _, _⟩ := two_cells (heap_keep HPy.out hb2)
          have zBr := zB.keep hb2
          by_cases hlt2 : m < yl
          · obtain ⟨b', off', rfl, hc'⟩ := zBr.cells (by omega)
            have hcell' := hc' m hlt2
            clear hc' zBr
            have hyb := bB.dg m
            have hcur := hRN.cell (k + m) (by rw [hNl.out]; omega)
            have hfr := hRN.free (k + m)
            have hnb := hNa.out (k + m) (Nat.le_refl _)
            have s1 : IntKind.i64.wrap ((k : Int) + (m : Int)) = (k : Int) + (m : Int) := IntWalk.i64_in _ (by omega)
            have s2 : 0 ≤ (k : Int) + (m : Int) := by omega
            have s3 : ((k : Int) + (m : Int)).toNat = k + m := by omega
            have s4 : IntKind.i64.wrap ((dg N (k + m) : Int) + (dg B m : Int)) = (dg N (k + m) : Int) + (dg B m : Int) := IntWalk.i64_in _ (by omega)
            go_wp2_with fail
            go_region
            clear s1 s2 s3 s4
            go_wp2
            go_roundw
            case rel =>
              refine ⟨m + 1, N.set (k + m) (dg N (k + m) + dg B m), by omega, by go_num, hid (by rw [List.length_set, hNl.out]), hid (fun j hj => ?_), hid (fun j => ?_), hid ?_, (hRN.set' (k + m) _ (by simp)).drew, (hb2.setCell (by rw [HZ.out]; simp) _).drew⟩
              · rw [dg_set_ne _ _ _ _ (by omega)]; exact hNa.out j (by omega)
              · by_cases hj : k + m = j
                · subst hj; rw [dg_set_eq _ _ _ (by rw [hNl.out]; omega)]; omega
                · rw [dg_set_ne _ _ _ _ hj]; exact hNb.out j
              · rw [bv_set_add _ _ _ (by rw [hNl.out]; omega), hNv.out, bv_take_any, Nat.pow_add, Nat.mul_add, Nat.mul_assoc]; omega
            case measure => simp [intOf]; omega
          · obtain rfl : m = yl := by omega
            go_wp2
            go_roundw
            case rel =>
              refine ⟨k + 1, N, by omega, by go_num, hNl, hNb, hid ?_, hRN, hb2⟩
              rw [hNv.out, hSv.out, bv_take_ge B m (by rw [HB.out]; omega), bv_take_dg A k (by rw [HA.out]; omega), HONE.out, Nat.add_mul, Nat.mul_one]
            case measure => simp [intOf]; omega
      · have ht0 : ((dg A k : Int) == 1) = false := by simp; omega
        have HONE : Hid (dg A k = 0) := hid (by omega)
        clear hone
        go_wp2
        go_roundw
        case rel =>
          refine ⟨k + 1, S, by omega, by go_num, hSl, hid (fun j => by have := hSb.out j; omega), hid ?_, hR, hb⟩
          rw [hSv.out, bv_take_dg A k (by rw [HA.out]; omega), HONE.out, Nat.mul_zero, Nat.add_zero]
        case measure => simp [intOf]; omega
    · obtain rfl : k = xl := by omega
      have HV : Hid (bv S = bv A * bv B) := hid (by rw [hSv.out, bv_take_ge A k (by rw [HA.out]; omega)])
      clear hSv zAr zBr
      go_wp2
      go_loopw [8, 9] (fun c i ws => ∃ (m cv : Nat) (N : List Nat), m ≤ k + yl + 1 ∧ i = .int .i64 (m : Int) ∧ c = .int .i64 (cv : Int) ∧ cv ≤ k ∧ Hid (N.length = k + yl + 1) ∧ Hid (∀ j, m ≤ j → dg N j ≤ k) ∧ Hid (∀ j, j < m → dg N j ≤ 1) ∧ Hid (bv N + 2 ^ m * cv = bv A * bv B) ∧ Rwi ws (w.heap.size + 1 + 1 + 1) N ∧ Below wz.heap.size wz ws) (fun _ i _ => k + yl + 1 - (intOf i).toNat)
      case atStart => exact ⟨0, 0, S, by omega, rfl, rfl, by omega, hSl, hid (fun j _ => hSb.out j), hid (fun j h => by omega), hid (by rw [HV.out]; simp), hR, hb⟩
      case round =>
        obtain ⟨m, cv, N, hm, rfl, rfl, hcv, hNl, hNa, hN1, hNv, hRN, hb2⟩ := hrel
        clear hR
        by_cases hlt2 : m < k + yl + 1
        · have hcur := hRN.cell m (by rw [hNl.out]; omega)
          have hfr := hRN.free m
          have hnb := hNa.out m (Nat.le_refl _)
          go_wp2
          go_roundw
          case rel =>
            refine ⟨m + 1, (dg N m + cv) / 2, N.set m ((dg N m + cv) % 2), by omega, by go_num, congrArg (Value.int .i64) (by omega), by omega, hid (by rw [List.length_set, hNl.out]), hid (fun j hj => ?_), hid (fun j hj => ?_), hid ?_, hRN.set' m _ (by omega), hb2.setCell (by rw [HZ.out]; simp) _⟩
            · rw [dg_set_ne _ _ _ _ (by omega)]; exact hNa.out j (by omega)
            · by_cases hj2 : m = j
              · subst hj2; rw [dg_set_eq _ _ _ (by rw [hNl.out]; omega)]; omega
              · rw [dg_set_ne _ _ _ _ hj2]; exact hN1.out j (by omega)
            · exact bcarry_set (by rw [hNl.out]; omega) hNv.out (by omega)
          case measure => simp [intOf]; omega
        · obtain rfl : m = k + yl + 1 := by omega
          have hE := times_end (l := k) (m := yl) hNv.out (by have := bv_lt bA; rwa [HA.out] at this) (by have := bv_lt bB; rwa [HB.out] at this) rfl (t := bv N)
          have bN : B1 N := B1_of_dg fun j hj => hN1.out j (by rw [hNl.out] at hj; exact hj)
          have HE : Hid (bv N = bv A * bv B) := hid (by
            have h1 := hNv.out
            rcases Nat.eq_zero_or_pos cv with rfl | hp
            · simpa using h1
            · have h2 := times_end (l := k) (m := yl) h1 (by have := bv_lt bA; rwa [HA.out] at this) (by have := bv_lt bB; rwa [HB.out] at this) rfl rfl
              omega)
          clear hE
          have hRi := hRN.whole (k + yl + 1) (by rw [hNl.out]; omega) (by rw [hNl.out]; omega)
          rw [hNl.out] at hRi
          obtain ⟨x0, x1, _, _⟩ := two_cells (heap_keep HPx.out hb2)
          obtain ⟨y0, y1, _, _⟩ := two_cells (heap_keep HPy.out hb2)
          have hPr2 := heap_keep HPr.out hb2
          go_wp2_with (go_at_call 68; refine (laidR (nx != ny) _ _ _ N _ hRi bN).mono ?_; rintro e w3 ⟨n', len', rfl, hle, hbig, hb3⟩; have k0 := heap_keep hPr2 hb3; obtain ⟨c0, c1, f0, f1⟩ := two_cells k0)
          have hs3 := hb3.size
          have hs2 := hb2.size
          have HB3 := hzb.trans ((hb2.trans (hb3.mono hs2)).mono hzb.size)
          refine bodyPost_ret (v := .agg #[.bool n', .slice (some ⟨w.heap.size + 1 + 1 + 1, 0, none⟩) len' (k + yl + 1)]) (by simp [results, Tryd.results40, go_sem, c0, c1]) rfl ⟨_, _, _, _, rfl, ?_, ?_, ?_⟩
          · omega
          · exact (hbig.other k0 (by simp) (by simp) _ _).cast (by rw [sg_mul nx ny HE.out, HX.out, HY.out])
          · exact (HB3.setCell (by simp; omega) _).setCell (by simp; omega) _
end Go.Proofs.YtldafoojkimdeaaDoor

namespace Go.Proofs.YtldafoojkimdeaaDoor
open Go.RowKit Lm

set_option maxRecDepth 100000 in
set_option maxHeartbeats 1000000 in
/-- The error that is asked for, and nothing beside it. -/
theorem isR_bad (c : Int) (hc : c ≠ 0) (nw : Bool) (wo : Option Addr) (wl wc : Nat) (w : World) :
    Calls Tryd.prog 38 #[.agg #[.bool false, .slice none 0 0], .int .i64 c, .agg #[.bool nw, .slice wo wl wc], .int .i64 c] w fun e w' => e = .returned (.bool true) ∧ Below w.heap.size w w' := by
  have h1 : (c == 0) = false := by simpa using hc
  have h2 : (c != 0) = true := by simpa using hc
  have h3 : (c == c) = true := by simp
  clear hc
  go_enter Tryd.func38, Tryd.ntmps38
  go_wp2
  go_ret
  exact ⟨rfl, ((Below.refl _ _).alloc (Nat.le_refl _) _).alloc (by simp) _⟩

set_option maxRecDepth 100000 in
set_option maxHeartbeats 1000000 in
/-- What is too long is refused. -/
theorem isR_long (nw : Bool) (wo : Option Addr) (wl wc : Nat) (w : World) (hl : 4096 < wl) :
    Calls Tryd.prog 38 #[.agg #[.bool false, .slice none 0 0], .int .i64 10, .agg #[.bool nw, .slice wo wl wc], .int .i64 0] w fun e w' => e = .returned (.bool true) ∧ Below w.heap.size w w' := by
  have h0 : decide (4096 < wl) = true := decide_eq_true hl
  have HA := hid (heap_alloc_new w (.cells #[.bool false, .slice none 0 0] 24))
  go_enter Tryd.func38, Tryd.ntmps38
  go_wp2_with (go_at_call 45; refine (longR1 nw wo wl wc _).mono ?_; rintro e w1 ⟨rfl, hb1⟩; rw [h0]; obtain ⟨a0, a1, _, _⟩ := two_cells (heap_keep (hpS (.cells #[.bool nw, .slice wo wl wc] 28) HA.out) hb1))
  go_ret
  exact ⟨rfl, balloc2 hb1⟩

/-- What is in nobody's way: all blocks but an answer's own. -/
def Apart (ao : Option Addr) (b : Nat) : Prop := ∀ a, ao = some a → b ≠ a.block
theorem Own.lt {base : Nat} {w : World} {ao : Option Addr} {len : Nat} {L : List Nat} (h : Own base w ao len L) : ∀ a, ao = some a → a.block < w.heap.size ∧ base ≤ a.block := by
  intro a e
  rcases h with ⟨_, h, _⟩ | ⟨_, _, g, h3, h4, h5⟩
  · rw [h] at e; cases e
  · rw [h4] at e; cases e; exact ⟨h5.lt, h3⟩
theorem Own.cells {base : Nat} {w : World} {ao : Option Addr} {len : Nat} {L : List Nat} (h : Own base w ao len L) : len = L.length ∧ (ao = none → len = 0 ∧ len = 0) ∧ ∀ b, ao = some b → ∀ j u, (lims L)[j]? = some u → w.cell? (b.add j) = some u := by
  rcases h with ⟨rfl, h, rfl⟩ | ⟨h1, h2, g, h3, h4, h5⟩
  · exact ⟨rfl, fun _ => ⟨rfl, rfl⟩, fun b e => by rw [h] at e; cases e⟩
  · refine ⟨h2, (fun e => by (rw [h4] at e; cases e)), fun b e j u hj => ?_⟩
    rw [h4] at e; cases e
    have hlt : j < L.length := by
      rcases Nat.lt_or_ge j L.length with h | h
      · exact h
      · rw [List.getElem?_eq_none (by rw [lims_len]; exact h)] at hj; cases hj
    have := h5.cell j hlt
    rw [lims_get L j hlt] at hj
    simp only [Option.some.injEq] at hj
    rcases Nat.eq_zero_or_pos j with rfl | h0
    · simpa [Addr.add, ← hj] using this
    · simpa [Addr.add, ← hj, Nat.ne_of_gt h0] using this

theorem fives_cells (w : World) : ∀ j u, ([.int .u32 5, .int .u32 5] : List Value)[j]? = some u → (w.alloc (.cells #[.int .u32 5, .int .u32 5] 43)).cell? ((⟨w.heap.size, 0, none⟩ : Addr).add j) = some u := by
  intro j u hj
  match j, hj with
  | 0, hj => simp at hj; subst hj; simp [Addr.add]
  | 1, hj => simp at hj; subst hj; simp [Addr.add]
  | j + 2, hj => simp at hj
theorem fives_one : ∀ u ∈ ([.int .u32 5, .int .u32 5] : List Value), u.oneCell' = true := by
  intro u hu; simp at hu; subst hu; rfl

set_option maxRecDepth 100000 in
set_option maxHeartbeats 4000000 in
/-- The document's integer, not too long: the answer's limbs are written over, and nothing else that was there. -/
theorem isR_good (n : Bool) (ao : Option Addr) (len : Nat) (v : Int) (nw : Bool) (wo : Option Addr) (wl wc : Nat) (w0 w : World) (hb0 : Below w0.heap.size w0 w) (hN : Num w0.heap.size w n ao len v) (hB : Big w nw wo wl wc v) (hl : wl ≤ 4096) :
    Calls Tryd.prog 38 #[.agg #[.bool n, .slice ao len len], .int .i64 0, .agg #[.bool nw, .slice wo wl wc], .int .i64 0] w fun e w' => e = .returned (.bool true) ∧ Below w0.heap.size w0 w' ∧ (∀ b, b < w.heap.size → Apart ao b → w'.heap[b]? = w.heap[b]?) ∧ w.heap.size ≤ w'.heap.size := by
  obtain ⟨i0, hi, hz0, hz1, hz2⟩ := info_parts Tryd.info43
  have h0 : decide (4096 < wl) = false := decide_eq_false (by omega)
  have HA := hid (heap_alloc_new w (.cells #[.bool n, .slice ao len len] 24))
  have HY := hid (heap_alloc_new (w.alloc (.cells #[.bool n, .slice ao len len] 24)) (.cells #[.bool nw, .slice wo wl wc] 28))
  go_enter Tryd.func38, Tryd.ntmps38
  go_wp2_with (go_at_call 45; refine (longR1 nw wo wl wc _).mono ?_; rintro e w1 ⟨rfl, hb1⟩; rw [h0]; have p0 := heap_keep (hpS (.cells #[.bool nw, .slice wo wl wc] 28) HA.out) hb1; have p1 := heap_keep HY.out hb1; simp only [World.size_alloc] at p1; obtain ⟨a0, a1, _, _⟩ := two_cells p0; obtain ⟨y0, y1, _, _⟩ := two_cells p1)
  have P0 := hid p0
  have P1 := hid p1
  have hb2 := balloc2 hb1
  have hs1 : w.heap.size + 2 ≤ w1.heap.size := by have := hb1.size; simp at this ⊢; omega
  clear p0 p1 hb1 HA HY
  have n1 := (Nrm.of_num hN rfl).keep hb2.drew
  have d_b := (hB.keep hb2).drew
  have h_a := hid (show w1.drew.heap[w.heap.size]? = some (.cells #[.bool n, .slice ao len len] 24 (0, 0)) from P0.out)
  have h_y := hid (show w1.drew.heap[w.heap.size + 1]? = some (.cells #[.bool nw, .slice wo wl wc] 28 (0, 0)) from P1.out)
  have hacc : Below w.heap.size w w1.drew := hb2.drew
  obtain ⟨L, oL, tL, hO, hnil, hv, hlen⟩ := hN
  have HO := hid hO.lt
  have HL := hid hO.cells.1
  have hl2 : len ≤ 128 := by
    have h1 := hB.len
    rw [← hv, num_abs] at h1
    rw [HL.out, ← tL.tl]
    exact len_of_bl L 128 (by omega)
  clear hnil hv tL hB hb2
  go_region_held3 (fun w' => w'.cell? ⟨w.heap.size, 0, none⟩ = some (.bool n) ∧ w'.cell? ⟨w.heap.size, 1, none⟩ = some (.slice ao len len) ∧ w'.cell? ⟨w.heap.size + 1, 0, none⟩ = some (.bool nw) ∧ w'.cell? ⟨w.heap.size + 1, 1, none⟩ = some (.slice wo wl wc))
    (first
      | go_keep
      | (with_reducible exact ⟨(two_cells h_a.out).1, (two_cells h_a.out).2.1, (two_cells h_y.out).1, (two_cells h_y.out).2.1⟩))
    (first
      | (go_at_call 21; (with_reducible refine (intN _ _ _ _ v _ d_b (by omega)).mono ?_); rintro e w5 ⟨n2, o2, l2, c2, rfl, hI, hbk⟩; have h_a := hid (heap_keep h_a.out hbk); have h_y := hid (heap_keep h_y.out hbk); have n1 := n1.keep hbk; have hacc := hacc.trans (hbk.mono hacc.size))
      | (go_at_call 19; (with_reducible refine (sameV n1 hI).mono ?_); rintro e w5 ⟨rfl, hbk⟩; have h_a := hid (heap_keep h_a.out hbk); have h_y := hid (heap_keep h_y.out hbk); have hacc := hacc.trans (hbk.mono hacc.size)))
  generalize hwd : w5 = wd at *
  clear hwd n1 hI
  have hO2 := hO.keep hacc
  have hsd := hacc.size
  have hb3 := hb0.trans (hacc.mono hb0.size)
  clear d_b
  go_wp2
  go_loopw [11] (fun i ws => ∃ (k : Nat) (M : List Nat), k ≤ len ∧ i = .int .i64 (k : Int) ∧ Own w0.heap.size ws ao len M ∧ Hid (∀ b, b < wd.heap.size → Apart ao b → ws.heap[b]? = wd.heap[b]?) ∧ Below w0.heap.size w0 ws) (fun i _ => len - (intOf i).toNat)
  case atStart => exact ⟨0, L, by omega, rfl, hO2, hid (fun _ _ _ => rfl), hb3⟩
  case round =>
    obtain ⟨k, M, hk, rfl, hOw, hst, hb⟩ := hrel
    have hxx : wd.heap.size > w.heap.size + 1 := by have := lt_of_block h_y.out; omega
    have hp := (hst.out w.heap.size (by omega) (fun a e => by have := (HO.out a e).1; omega)).trans h_a.out
    obtain ⟨x0, x1, _, _⟩ := two_cells hp
    have HP := hid hp
    clear hp
    by_cases hgo : k < len
    · rcases hOw with ⟨_, _, h⟩ | ⟨hne, hlM, g, hg, rfl, hR⟩
      · omega
      have HM := hid hlM
      clear hlM hne
      have hck := hR.cell k (by rw [← HM.out]; exact hgo)
      have hfk := hR.free k
      go_wp2
      go_roundw
      case rel =>
        refine ⟨k + 1, M.set k 99, by omega, by go_num, .inr ⟨by intro e; have := congrArg List.length e; rw [List.length_set, ← HM.out] at this; simp at this; omega, by rw [List.length_set]; exact HM.out, g, hg, rfl, hR.set' k 99 rfl⟩, hid (fun b h1 h2 => ?_), hb.setCell (by simpa using hg) _⟩
        rw [Below.heap_setCell _ _ _ _ (by have := h2 _ rfl; simpa using this)]; exact hst.out b h1 h2
      case measure => simp [intOf]; omega
    · obtain rfl : k = len := by omega
      obtain ⟨c1, c2, c3⟩ := hOw.cells
      have HC1 := hid c1
      have HC2 := hid c2
      have HC3 : Hid (∀ b, ao = some b → ∀ j u, (lims M)[j]? = some u → (wr.alloc (.cells #[.int .u32 5, .int .u32 5] 43)).cell? (b.add j) = some u) := hid (fun b e j u hj => cell_keep (c3 b e j u hj) ((Below.refl _ _).alloc (Nat.le_refl _) _))
      clear c1 c2 c3
      go_wp2_with (at_builtin; refine wpList_append_grows _ rfl _ _ 22 rfl 43 i0 (.int .u32 0) 1 4 Tryd.underlying22 hi hz0 hz1 hz2 rfl (by decide) ao k k (lims M) rfl HC2.out (by rw [lims_len, Nat.mul_one]; exact HC1.out.symm) HC3.out ⟨wr.heap.size, 0, none⟩ 2 2 [.int .u32 5, .int .u32 5] rfl rfl (fives_cells wr) fives_one (by omega) (by unfold maxLen; omega) (by omega) ?_)
      intro v2 w6 hown6 hgrow6
      have HB6 := hid (show Below w0.heap.size w0 w6 from (hb.alloc hb.size _).grown hgrow6 (by have := hb.size; simp; omega) (by intro k hk; cases hk))
      have hsr := hb.size
      have hsp := lt_of_block HP.out
      rcases hown6.2 with ⟨_, h0⟩ | ⟨g, cap, cur, rfl, hgB, hgb, hnc, -⟩
      · omega
      have hgs := lt_of_block hgb
      have hfr6 := hown6.frozenAt 0
      have HST : Hid (∀ b, b < w.heap.size → Apart ao b → w6.heap[b]? = w.heap[b]?) := hid (fun b h1 h2 => by
        rw [hgrow6.block b (by simp; omega) (by simp)]
        rw [Below.heap_alloc _ _ _ (by omega), hst.out b (by omega) h2, hacc.block b h1])
      have HG : Hid (w.heap.size ≤ g) := hid (by first | omega | (simp at hgB; omega))
      have HG0 : Hid (w0.heap.size ≤ g) := hid (by have := hb0.size; have := HG.out; omega)
      have hc0 := hown6.cellAt 0 (by omega)
      have HSZ : Hid (w.heap.size ≤ w6.heap.size) := hid (by have := HG.out; omega)
      clear hown6 hgrow6 hgB hgb
      go_wp2
      go_ret
      refine ⟨rfl, HB6.out.setCell HG0.out _, fun b h1 h2 => ?_, by simpa using HSZ.out⟩
      rw [Below.heap_setCell _ _ _ _ (by have := HG.out; simp; omega)]
      exact HST.out b h1 h2
end Go.Proofs.YtldafoojkimdeaaDoor

namespace Go.Proofs.YtldafoojkimdeaaDoor
open Go.RowKit Lm

/-- An answer: the error that is asked for, or the integer, or nothing and the error of what is too long. -/
def AnsE (B : Nat) (w : World) (n : Bool) (ao : Option Addr) (len : Nat) (c e v : Int) : Prop :=
  (e ≠ 0 ∧ c = e ∧ n = false ∧ ao = none ∧ len = 0) ∨ (e = 0 ∧ ((bl v.natAbs ≤ 4096 ∧ c = 0 ∧ Num B w n ao len v) ∨ (4096 < bl v.natAbs ∧ c = 10 ∧ n = false ∧ ao = none ∧ len = 0)))

theorem Num.own {B : Nat} {w : World} {n : Bool} {ao : Option Addr} {len : Nat} {v : Int} (h : Num B w n ao len v) : ∀ a, ao = some a → a.block < w.heap.size ∧ B ≤ a.block := by
  obtain ⟨L, _, _, h3, _⟩ := h; exact h3.lt
/-- A call's answer, laid in new memory. -/
def AnsO (B : Nat) (w w' : World) (n : Bool) (ao : Option Addr) (len : Nat) (c e v : Int) : Prop :=
  AnsE B w' n ao len c e v ∧ ∀ a, ao = some a → w.heap.size ≤ a.block ∧ a.block < w'.heap.size

/-- An answer in a variable's block; both lie from lo on, below hi. -/
structure An (B lo hi : Nat) (w : World) (g : Nat) (n : Bool) (ao : Option Addr) (len : Nat) (c e v : Int) : Prop where
  box : Pr w g 24 (.bool n) (.slice ao len len)
  ans : AnsE B w n ao len c e v
  low : lo ≤ g
  high : g < hi
  own : ∀ a, ao = some a → lo ≤ a.block ∧ a.block < g
  top : hi ≤ w.heap.size

theorem AnsE.same {B : Nat} {w w' : World} {n : Bool} {ao : Option Addr} {len : Nat} {c e v : Int} (h : AnsE B w n ao len c e v) (hs : ∀ a, ao = some a → w'.heap[a.block]? = w.heap[a.block]?) : AnsE B w' n ao len c e v := by
  rcases h with h | ⟨h0, ⟨h1, h2, L, k1, k2, k3, k4⟩ | h⟩
  · exact .inl h
  · refine .inr ⟨h0, .inl ⟨h1, h2, L, k1, k2, ?_, k4⟩⟩
    rcases k3 with k3 | ⟨l1, l2, g, l3, l4, l5⟩
    · exact .inl k3
    · exact .inr ⟨l1, l2, g, l3, l4, ⟨by rw [hs _ l4]; exact l5.block⟩⟩
  · exact .inr ⟨h0, .inr h⟩
theorem An.keep {B lo hi : Nat} {w w' : World} {g : Nat} {n : Bool} {ao : Option Addr} {len : Nat} {c e v : Int} (h : An B lo hi w g n ao len c e v) (hb : Below w.heap.size w w') : An B lo hi w' g n ao len c e v :=
  ⟨h.box.keep hb, h.ans.same fun a ha => hb.block _ (by have := (h.own a ha).2; have := h.high; have := h.top; omega), h.low, h.high, h.own, Nat.le_trans h.top hb.size⟩
theorem An.alloc {B lo hi : Nat} {w : World} {g : Nat} {n : Bool} {ao : Option Addr} {len : Nat} {c e v : Int} (h : An B lo hi w g n ao len c e v) (o : Obj) : An B lo hi (w.alloc o) g n ao len c e v := h.keep ((Below.refl _ _).alloc (Nat.le_refl _) _)
theorem An.drew {B lo hi : Nat} {w : World} {g : Nat} {n : Bool} {ao : Option Addr} {len : Nat} {c e v : Int} (h : An B lo hi w g n ao len c e v) : An B lo hi w.drew g n ao len c e v := h.keep (Below.refl _ _).drew
/-- Another answer is written over: this one stays. -/
theorem An.keepA {B lo hi : Nat} {w w' : World} {g : Nat} {n : Bool} {ao : Option Addr} {len : Nat} {c e v : Int} (h : An B lo hi w g n ao len c e v) {ao' : Option Addr} (hz : w.heap.size ≤ w'.heap.size)
    (hs : ∀ b, b < w.heap.size → Apart ao' b → w'.heap[b]? = w.heap[b]?) (ha : ∀ a, ao' = some a → a.block < lo ∨ hi ≤ a.block) : An B lo hi w' g n ao len c e v := by
  have h1 := h.low
  have h2 := h.high
  have h3 := h.top
  refine ⟨(hs g (by omega) fun a e => by have := ha a e; omega).trans h.box, h.ans.same fun a e => ?_, h1, h2, h.own, Nat.le_trans h3 hz⟩
  have := h.own a e
  exact hs _ (by omega) fun a' e' => by have := ha a' e'; omega
theorem An.apart {B lo hi : Nat} {w : World} {g : Nat} {n : Bool} {ao : Option Addr} {len : Nat} {c e v : Int} (h : An B lo hi w g n ao len c e v) : Apart ao g := fun a e => by have := h.own a e; omega
theorem An.later {B lo hi : Nat} {w : World} {g : Nat} {n : Bool} {ao : Option Addr} {len : Nat} {c e v : Int} (h : An B lo hi w g n ao len c e v) {lo' hi' : Nat} (hh : hi ≤ lo') : ∀ a, ao = some a → a.block < lo' ∨ hi' ≤ a.block := fun a e => by have := h.own a e; have := h.high; omega
theorem An.new {B lo : Nat} {w w' : World} {n : Bool} {ao : Option Addr} {len : Nat} {c e v : Int} (h : AnsO B w w' n ao len c e v) (hlo : lo ≤ w.heap.size) (hz : w.heap.size ≤ w'.heap.size) :
    An B lo (w'.heap.size + 1) (w'.alloc (.cells #[.bool n, .slice ao len len] 24)) w'.heap.size n ao len c e v :=
  ⟨Pr.new _ _ _ _, h.1.same fun a e => Below.heap_alloc _ _ _ (h.2 a e).2, by omega, by omega, fun a e => by have := h.2 a e; omega, by simp⟩

/-- The helper is, of an answer and the document's integer. -/
theorem isA {n : Bool} {ao : Option Addr} {len : Nat} {c e v v' : Int} {nw : Bool} {wo : Option Addr} {wl wc : Nat} {w0 w : World} (hb0 : Below w0.heap.size w0 w) (hA : AnsE w0.heap.size w n ao len c e v) (hB : Big w nw wo wl wc v') (hv : e = 0 → v' = v) :
    Calls Tryd.prog 38 #[.agg #[.bool n, .slice ao len len], .int .i64 c, .agg #[.bool nw, .slice wo wl wc], .int .i64 e] w fun r w' => r = .returned (.bool true) ∧ Below w0.heap.size w0 w' ∧ (∀ b, b < w.heap.size → Apart ao b → w'.heap[b]? = w.heap[b]?) ∧ w.heap.size ≤ w'.heap.size := by
  have hl := hB.len
  rcases hA with ⟨h0, rfl, rfl, rfl, rfl⟩ | ⟨rfl, ⟨h1, rfl, hN⟩ | ⟨h1, rfl, rfl, rfl, rfl⟩⟩
  · refine (isR_bad c h0 nw wo wl wc w).mono ?_
    rintro r w' ⟨rfl, hb⟩
    exact ⟨rfl, hb0.trans (hb.mono hb0.size), fun b h1 _ => hb.block b h1, hb.size⟩
  · obtain rfl := hv rfl
    refine (isR_good n ao len v' nw wo wl wc w0 w hb0 hN hB (by omega)).mono ?_
    rintro r w' ⟨rfl, hb, hs⟩
    exact ⟨rfl, hb, hs⟩
  · obtain rfl := hv rfl
    refine (isR_long nw wo wl wc w (by omega)).mono ?_
    rintro r w' ⟨rfl, hb⟩
    exact ⟨rfl, hb0.trans (hb.mono hb0.size), fun b h1 _ => hb.block b h1, hb.size⟩

theorem AnsO.of_ans {bad : Bool} {B : Nat} {w w' : World} {n : Bool} {ao : Option Addr} {len : Nat} {c e v : Int} (h : Ans bad w w' n ao len c v) (he : e = if bad then 10 else 0) (hB : B ≤ w.heap.size) : AnsO B w w' n ao len c e v := by
  rcases h with ⟨rfl, rfl, rfl, rfl, rfl⟩ | ⟨rfl, ⟨h1, rfl, hN⟩ | ⟨h1, rfl, rfl, rfl, rfl⟩⟩
  · exact ⟨.inl ⟨by rw [he]; decide, by rw [he]; rfl, rfl, rfl, rfl⟩, fun a e => by cases e⟩
  · exact ⟨.inr ⟨he, .inl ⟨h1, rfl, hN.mono hB⟩⟩, fun a e => (hN.own a e).symm⟩
  · exact ⟨.inr ⟨he, .inr ⟨h1, rfl, rfl, rfl, rfl⟩⟩, fun a e => by cases e⟩
theorem bad_of {n m : Bool} {A B : List Nat} {va vb : Int} {xl yl : Nat} (ha : num n A = va) (hb : num m B = vb) (hx : xl = bl va.natAbs) (hy : yl = bl vb.natAbs) : (if (tooLong A || tooLong B) = true then (10 : Int) else 0) = if 4096 < xl ∨ 4096 < yl then 10 else 0 := by
  subst ha hb
  rw [num_abs] at hx hy
  unfold tooLong
  subst hx hy
  simp

theorem addE {B0 : Nat} {na : Bool} {aa : Option Addr} {la ca : Nat} {A : List Nat} {nb : Bool} {ab : Option Addr} {lb cb : Nat} {B : List Nat} {va vb e : Int} {w : World} (hA : Rd w aa la ca A) (hB : Rd w ab lb cb B) (ea : num na A = va) (eb : num nb B = vb) (he : e = if tooLong A || tooLong B then 10 else 0) (h0 : B0 ≤ w.heap.size) :
    Calls Tryd.prog 35 #[.agg #[.bool na, .slice aa la ca], .agg #[.bool nb, .slice ab lb cb]] w fun r w' => ∃ n ao len c, r = .returned (.tuple #[.agg #[.bool n, .slice ao len len], .int .i64 c]) ∧ AnsO B0 w w' n ao len c e (va + vb) ∧ Below w.heap.size w w' := by
  refine (Add_any na aa la ca A nb ab lb cb B w hA hB).mono ?_
  rintro r w' ⟨n, ao, len, c, rfl, hans, hb⟩
  rw [ea, eb] at hans
  exact ⟨_, _, _, _, rfl, AnsO.of_ans hans he h0, hb⟩
theorem subE {B0 : Nat} {na : Bool} {aa : Option Addr} {la ca : Nat} {A : List Nat} {nb : Bool} {ab : Option Addr} {lb cb : Nat} {B : List Nat} {va vb e : Int} {w : World} (hA : Rd w aa la ca A) (hB : Rd w ab lb cb B) (ea : num na A = va) (eb : num nb B = vb) (he : e = if tooLong A || tooLong B then 10 else 0) (h0 : B0 ≤ w.heap.size) :
    Calls Tryd.prog 36 #[.agg #[.bool na, .slice aa la ca], .agg #[.bool nb, .slice ab lb cb]] w fun r w' => ∃ n ao len c, r = .returned (.tuple #[.agg #[.bool n, .slice ao len len], .int .i64 c]) ∧ AnsO B0 w w' n ao len c e (va + -vb) ∧ Below w.heap.size w w' := by
  refine (Sub_any na aa la ca A nb ab lb cb B w hA hB).mono ?_
  rintro r w' ⟨n, ao, len, c, rfl, hans, hb⟩
  rw [ea, eb, Int.sub_eq_add_neg] at hans
  exact ⟨_, _, _, _, rfl, AnsO.of_ans hans he h0, hb⟩
theorem mulE {B0 : Nat} {na : Bool} {aa : Option Addr} {la ca : Nat} {A : List Nat} {nb : Bool} {ab : Option Addr} {lb cb : Nat} {B : List Nat} {va vb e : Int} {w : World} (hA : Rd w aa la ca A) (hB : Rd w ab lb cb B) (ea : num na A = va) (eb : num nb B = vb) (he : e = if tooLong A || tooLong B then 10 else 0) (h0 : B0 ≤ w.heap.size) :
    Calls Tryd.prog 37 #[.agg #[.bool na, .slice aa la ca], .agg #[.bool nb, .slice ab lb cb]] w fun r w' => ∃ n ao len c, r = .returned (.tuple #[.agg #[.bool n, .slice ao len len], .int .i64 c]) ∧ AnsO B0 w w' n ao len c e (va * vb) ∧ Below w.heap.size w w' := by
  refine (Mul_any na aa la ca A nb ab lb cb B w hA hB).mono ?_
  rintro r w' ⟨n, ao, len, c, rfl, hans, hb⟩
  rw [ea, eb] at hans
  exact ⟨_, _, _, _, rfl, AnsO.of_ans hans he h0, hb⟩
end Go.Proofs.YtldafoojkimdeaaDoor

namespace Go.Proofs.YtldafoojkimdeaaDoor
open Go.RowKit Lm

theorem Gri.cells {B : Nat} {w : World} {g n cap : Nat} {C : List Nat} (h : Gri B w (.slice (some ⟨g, 0, none⟩) n cap) C) : B ≤ g ∧ n = C.length ∧ n ≤ cap ∧ (∀ k, k < C.length → w.cell? ⟨g, k, none⟩ = some (.int .i64 (dg C k : Int))) ∧ (∀ k, w.frozen? ⟨g, k, none⟩ = false) ∧ g < w.heap.size := by
  rcases h.2 with ⟨h', _⟩ | ⟨g', cap', cur, h', hb, hg, hnc, hcm, hcs, htk⟩
  · simp at h'
  · simp only [Value.slice.injEq, Option.some.injEq, Addr.mk.injEq, and_true, true_and] at h'
    obtain ⟨rfl, rfl, rfl⟩ := h'
    refine ⟨hb, rfl, hnc, fun k hk => ?_, fun k => by simp [World.frozen?, hg], lt_of_block hg⟩
    have h1 := ints_get C k hk
    rw [← htk, List.getElem?_take_of_lt (by omega)] at h1
    simpa [World.cell?, hg] using h1
theorem Gri.put {B : Nat} {w : World} {g cap : Nat} {C : List Nat} (h : Gri B w (.slice (some ⟨g, 0, none⟩) C.length cap) C) (k : Nat) {z : Int} (x : Nat) (hz : z = (x : Int)) :
    Gri B (w.setCell ⟨g, k, none⟩ (.int .i64 z)) (.slice (some ⟨g, 0, none⟩) C.length cap) (C.set k x) := by
  subst hz
  unfold Gri at *
  rw [List.length_set]
  rcases h.2 with ⟨h', _⟩ | ⟨g', cap', cur, h', hb, hg, hnc, hcm, hcs, htk⟩
  · simp at h'
  · simp only [Value.slice.injEq, Option.some.injEq, Addr.mk.injEq, and_true, true_and] at h'
    obtain ⟨rfl, rfl⟩ := h'
    refine ⟨by simp [ints_len], .inr ⟨g, cap, cur.setIfInBounds k (.int .i64 (x : Int)), rfl, hb, heap_setCell_same w g k cur 3 _ hg, hnc, hcm, by simpa using hcs, ?_⟩⟩
    rw [Array.toList_setIfInBounds, List.take_set, htk, ints_set _ _ _ rfl]
theorem Gri.mark {B : Nat} {w : World} {g n cap : Nat} {C : List Nat} (h : Gri B w (.slice (some ⟨g, 0, none⟩) n cap) C) (hn : C.length = n) (k x : Nat) {z : Int} (hz : z = (x : Int)) : Gri B (w.setCell ⟨g, k, none⟩ (.int .i64 z)) (.slice (some ⟨g, 0, none⟩) n cap) (C.set k x) := by
  subst hn; exact h.put k x hz
theorem Gri.other {B : Nat} {w : World} {g n cap : Nat} {C : List Nat} (h : Gri B w (.slice (some ⟨g, 0, none⟩) n cap) C) {p : Addr} (hp : g ≠ p.block) (u : Value) : Gri B (w.setCell p u) (.slice (some ⟨g, 0, none⟩) n cap) C := by
  unfold Gri at *
  rcases h.2 with ⟨h', _⟩ | ⟨g', cap', cur, h', hb, hg, r⟩
  · simp at h'
  · have h2 := h'
    simp only [Value.slice.injEq, Option.some.injEq, Addr.mk.injEq, and_true, true_and] at h2
    obtain ⟨rfl, _⟩ := h2
    exact ⟨h.1, .inr ⟨g, cap', cur, h', hb, by rw [Below.heap_setCell _ _ _ _ hp]; exact hg, r⟩⟩
theorem Gri.at {B : Nat} {w : World} {g n cap : Nat} {C : List Nat} (h : Gri B w (.slice (some ⟨g, 0, none⟩) n cap) C) (hm : C.length ≤ 4294967296) {i t : Nat} (hi : i ≤ t) (ht : t ≤ C.length) :
    Ri w (some ⟨g, i, none⟩) (t - i) (cap - i) ((C.drop i).take (t - i)) := by
  obtain ⟨_, h2, h3, h4, _⟩ := h.cells
  exact ⟨by rw [List.length_take, List.length_drop]; omega, by omega, by omega, fun _ => ⟨g, i, rfl, fun j hj => by
    rw [dg_take _ _ _ hj, dg_drop]; exact h4 _ (by omega)⟩⟩
theorem fresh_i (B g : Nat) (w : World) (hB : B ≤ w.heap.size) (hg : w.heap.size = g) : (w.alloc (.cells #[] 3)).ownsRow B 3 1 (.slice (some ⟨g, 0, none⟩) 0 0) 0 [] := by
  subst hg; exact World.ownsRow_made (base := B) (e := 3) (size := 1) w #[] 0 hB (by unfold maxLen; omega) rfl
theorem ints_one (L : List Nat) : ∀ u ∈ ints L, u.oneCell' = true := by
  intro u hu; simp [ints] at hu; obtain ⟨x, _, rfl⟩ := hu; rfl
theorem Ri.srcs {w : World} {ad : Addr} {len cap : Nat} {A : List Nat} (h : Ri w (some ad) len cap A) (h0 : 0 < len) : ∀ j u, (ints A)[j]? = some u → w.cell? (ad.add j) = some u := by
  intro j u hj
  obtain ⟨b, off, e, hc⟩ := h.cells h0
  cases e
  have hlt : j < A.length := by
    rcases Nat.lt_or_ge j A.length with h | h
    · exact h
    · rw [List.getElem?_eq_none (by rw [ints_len]; exact h)] at hj; cases hj
  have := hc j (by rw [← h.size]; exact hlt)
  rw [ints_get A j hlt] at hj
  simp only [Option.some.injEq] at hj
  rcases Nat.eq_zero_or_pos j with rfl | h0
  · simpa [Addr.add, ← hj] using this
  · simpa [Addr.add, ← hj, Nat.ne_of_gt h0] using this
theorem bitR_z (ao : Option Addr) (len cap : Nat) (A : List Nat) (i : Nat) (z : Int) (w : World) (hz : z = (i : Int)) (h : Ri w ao len cap A) :
    Calls Tryd.prog 105 #[.slice ao len cap, .int .i64 z] w fun e w' => e = .returned (.int .i64 (dg A i : Int)) ∧ w' = w := by
  subst hz; exact bitR_q ao len cap A i w h

set_option maxRecDepth 100000 in
set_option maxHeartbeats 8000000 in
theorem dividedR_pos (aa : Option Addr) (la ca : Nat) (A : List Nat) (ab : Option Addr) (lb cb : Nat) (B : List Nat) (w : World) (hA : Ri w aa la ca A) (hB : Ri w ab lb cb B) (bA : B1 A) (bB : B1 B) (tB : Top B) (hb0 : 0 < bv B) (sa : la ≤ 1073741824) (h0 : 0 < la) :
    Calls Tryd.prog 86 #[.slice aa la ca, .slice ab lb cb] w fun e w' => ∃ qo ql qc Q ro rl rc R, e = .returned (.tuple #[.slice qo ql qc, .slice ro rl rc]) ∧ ql ≤ la ∧ rl ≤ la ∧ Ri w' qo ql qc Q ∧ B1 Q ∧ Top Q ∧ Ri w' ro rl rc R ∧ B1 R ∧ Top R ∧ Hid (bv Q = bv A / bv B) ∧ Hid (bv R = bv A % bv B) ∧ Below w.heap.size w w' := by
  obtain ⟨i0, hi, hz0, hz1, hz2⟩ := info_parts Tryd.infoI
  have HA := hid hA.size
  have HB := hid hB.size
  obtain ⟨b, off, rfl, -⟩ := hA.cells h0
  have hnews := hid (hA.srcs h0)
  have HD := hid (Dv.start bA hb0)
  have HLB : Hid (0 < lb) := hid (by
    rcases Nat.eq_zero_or_pos lb with h | h
    · have e := List.eq_nil_of_length_eq_zero (hB.size.trans h)
      rw [e] at hb0; simp [bv] at hb0
    · exact h)
  clear hb0
  go_enter Tryd.func86, Tryd.ntmps86
  go_wp2_with (first
    | (at_make; (refine wpList_make_full _ rfl _ _ 26 rfl w.heap.size 3 i0 (.int .i64 0) 1 Tryd.underlying26 hi hz0 hz1 .i64 .i64 _ _ la rfl rfl (by omega) (by omega) (by rw [hz2]; omega) (by unfold maxLen; omega) (Nat.le_refl _) ?_); intro w1 hown hgrow; have hsz1 := hgrow.size)
    | (at_builtin; (refine wpList_append_own _ (o := ⟨some 19, _, _, _, _, _⟩) rfl _ _ 26 rfl w1.heap.size 3 i0 (.int .i64 0) 1 8 Tryd.underlying26 hi hz0 hz1 hz2 rfl (by decide) (.slice (some ⟨w1.heap.size, 0, none⟩) 0 0) 0 [] (by rfl) (fresh_i _ _ w1 (Nat.le_refl _) rfl) ⟨b, off, none⟩ la ca (ints A) (by rfl) (by rw [ints_len, HA.out, Nat.mul_one]) (fun j u hj => cell_keep (cell_keep (hnews.out j u hj) ((Below.refl _ _).grown hgrow (Nat.le_refl _) (by intro k hk; simp at hk))) ((Below.refl _ _).alloc (Nat.le_refl _) _)) (ints_one A) (by unfold maxLen; omega) (by omega) (by first | omega | (simp; done) | (simp; omega)) ?_); intro v1 w5 hown5 hgrow5 _))
  have hq1 : Rwi w1 w.heap.size (List.replicate la 0) := Rwi.of_own hown (made_zeros_i _ _ (by omega))
  have hb1 : Below w.heap.size w w1 := (Below.refl _ _).grown hgrow (Nat.le_refl _) (by intro k hk; simp at hk)
  have hb5 : Below w1.heap.size w1 w5 := ((Below.refl _ _).alloc (Nat.le_refl _) _).grown hgrow5 (by simp) (by intro k hk; simp [Value.ownBlock] at hk; omega)
  have hG5 : Gri w1.heap.size w5 v1 A := by
    unfold Gri; rw [HA.out]; simpa using hown5
  have hq5 := hq1.keep' hb5
  have hw1 : w.heap.size < w1.heap.size := hq1.lt
  have hb0 := hb1.trans (hb5.mono (by omega))
  obtain ⟨g, cap, hv1, hgB, hnc⟩ : ∃ g cap, v1 = .slice (some ⟨g, 0, none⟩) la cap ∧ w1.heap.size ≤ g ∧ la ≤ cap := by
    rcases hG5.2 with ⟨_, h0'⟩ | ⟨g, cap, cur, h1, h2, -, h3, -⟩
    · have := HA.out; omega
    · rw [HA.out] at h1 h3; exact ⟨g, cap, h1, h2, h3⟩
  subst hv1
  have HG : Hid (w.heap.size < g) := hid (by omega)
  have HCAP : Hid (la ≤ cap) := hid hnc
  have HD2 : Hid (Dv A B la (List.replicate la 0) A) := hid (by have := HD.out; rwa [HA.out] at this)
  have hG := hG5.base (B' := w.heap.size) (by omega)
  clear hq1 hb1 hb5 hgrow hgrow5 hown hown5 hi hz0 hz1 hz2 hG5 hnc hgB hnews HD hw1 hsz1
  go_wp2
  go_loopw [8, 9] (fun tp i wr => ∃ (m T : Nat) (Q R : List Nat), m ≤ la ∧ i = .int .i64 ((m : Int) - 1) ∧ tp = .int .i64 (T : Int) ∧ m ≤ T ∧ T ≤ la ∧ Hid (∀ j, T ≤ j → j < R.length → dg R j = 0) ∧ Hid (Dv A B m Q R) ∧ Rwi wr w.heap.size Q ∧ Gri w.heap.size wr (.slice (some ⟨g, 0, none⟩) la cap) R ∧ Below w.heap.size w wr) (fun _ i _ => (intOf i + 1).toNat)
  case atStart => exact ⟨la, la, _, A, Nat.le_refl _, rfl, rfl, Nat.le_refl _, Nat.le_refl _, hid (fun j h1 h2 => by rw [HA.out] at h2; omega), HD2, hq5, hG, hb0⟩
  case round =>
    obtain ⟨m, T, Q, R, hm, rfl, rfl, hmT, hTl, hz, hD, hq, hR, hb⟩ := hrel
    clear hq5 hG hb0 HD2
    cases m with
    | zero =>
      have bQ := hD.out.bq
      have bR := hD.out.br
      have HDn := hid hD.out.done
      have HQl := hid hD.out.lq
      have HRl := hid hD.out.lr
      have rQ := hq.whole la (by rw [HQl.out, HA.out]; omega) (by rw [HQl.out, HA.out]; omega)
      rw [HQl.out, HA.out] at rQ
      obtain ⟨ao, cp, e1, rR⟩ := hR.rd (by rw [HRl.out, HA.out]; omega)
      rw [HRl.out, HA.out] at e1 rR
      simp only [Value.slice.injEq, true_and] at e1
      obtain ⟨e2, e3⟩ := e1
      subst e3
      rw [← e2] at rR
      clear e2
      go_wp2_with (first
        | (go_at_call 98; ((with_reducible refine (cutR _ _ _ Q _ rQ).mono ?_); rintro e w' ⟨rfl, rfl⟩))
        | (go_at_call 98; ((with_reducible refine (cutR _ _ _ R _ rR).mono ?_); rintro e w' ⟨rfl, rfl⟩)))
      go_ret2
      refine ⟨_, _, _, tl Q, _, _, _, tl R, rfl, ?_, ?_, rQ.tl, bQ.tl, tl_top Q, rR.tl, bR.tl, tl_top R, hid (by rw [tl_bv]; exact HDn.out.1), hid (by rw [tl_bv]; exact HDn.out.2), hb⟩
      · have := tl_length_le Q; rw [HQl.out, HA.out] at this; exact this
      · have := tl_length_le R; rw [HRl.out, HA.out] at this; exact this
    | succ m =>
      have hi : ((m + 1 : Nat) : Int) - 1 = (m : Int) := by omega
      rw [hi]; clear hi
      have HRl := hid hD.out.lr
      have bR := hD.out.br
      obtain ⟨-, -, -, hcell, hfree, hglt⟩ := hR.cells
      have hcl := hid hcell
      clear hcell
      go_upto_block 2 with fail
      go_cut [8] (fun tp wx => ∃ T' : Nat, tp = .int .i64 (T' : Int) ∧ m ≤ T' ∧ T' ≤ la ∧ Hid (∀ j, T' ≤ j → j < R.length → dg R j = 0) ∧ Hid (m < T' → dg R (T' - 1) ≠ 0) ∧ wr = wx)
      case first =>
        go_wp2_with fail
        go_loop [8] (fun tp => ∃ T' : Nat, tp = .int .i64 (T' : Int) ∧ m ≤ T' ∧ T' ≤ la ∧ Hid (∀ j, T' ≤ j → j < R.length → dg R j = 0)) (fun tp => (intOf tp).toNat)
        case atStart => exact ⟨T, rfl, by omega, hTl, hz⟩
        case round =>
          obtain ⟨T', rfl, hmT', hTl', hz'⟩ := hrel
          clear hz hmT hTl
          by_cases hgt : m < T'
          · have hck := hcl.out (T' - 1) (by rw [HRl.out, HA.out]; omega)
            have s1 : ((T' : Int) - 1).toNat = T' - 1 := by omega
            by_cases hz0 : dg R (T' - 1) = 0
            · have ht1 : ((dg R (T' - 1) : Int) == 0) = true := by simp; exact hz0
              have HZ0 := hid hz0
              clear hz0
              go_wp2
              go_round
              case rel => exact ⟨T' - 1, by go_num, by omega, by omega, hid (fun j h1 h2 => by
                rcases Nat.eq_or_lt_of_le h1 with h3 | h3
                · rw [← h3]; exact HZ0.out
                · exact hz'.out j (by omega) h2)⟩
              case measure => simp [intOf]; omega
            · have ht1 : ((dg R (T' - 1) : Int) == 0) = false := by simp; exact hz0
              have HTT : Hid (m < T' → dg R (T' - 1) ≠ 0) := hid (fun _ => hz0)
              clear hz0
              go_wp2
              go_meet
              exact ⟨T', rfl, hmT', hTl', hz', HTT, rfl⟩
          · have HTT : Hid (m < T' → dg R (T' - 1) ≠ 0) := hid (fun h => absurd h hgt)
            go_wp2
            go_meet
            exact ⟨T', rfl, hmT', hTl', hz', HTT, rfl⟩
      case rest =>
        obtain ⟨T', rfl, hmT', hTl', hz', HTT, rfl⟩ := hcut
        clear hz hmT hTl
        have hBr := hB.keep hb
        have bCH : B1 ((R.drop m).take (T' - m)) := (bR.drop m).take _
        have tCH : Top ((R.drop m).take (T' - m)) := top_chunk (by rw [HRl.out, HA.out]; exact hTl') HTT.out
        have HCV : Hid (bv ((R.drop m).take (T' - m)) = bv (R.drop m)) := hid (bv_chunk hz'.out m hmT')
        have hAt := hR.at (by rw [HRl.out, HA.out]; omega) hmT' (by rw [HRl.out, HA.out]; exact hTl')
        have HSH : Hid (T' - m < lb → bv (R.drop m) < bv B) := hid (fun h => by rw [← HCV.out]; exact bv_shorter bCH tB (by rw [hAt.size, HB.out]; exact h))
        have HLO : Hid (lb < T' - m → ¬ bv (R.drop m) < bv B) := hid (fun h => by have := bv_shorter bB tCH (by rw [hAt.size, HB.out]; exact h); rw [HCV.out] at this; omega)
        go_upto_region 9 with fail
        go_cut [10] (fun ls wx => ls = .bool (decide (bv (R.drop m) < bv B)) ∧ Below wr.heap.size wr wx)
        case first =>
          rcases (show T' - m < lb ∨ T' - m = lb ∨ lb < T' - m by omega) with hc | hc | hc
          · have d1 : decide ((T' : Int) - (m : Int) < (lb : Int)) = true := by simp; omega
            have HP := hid (decide_eq_true (HSH.out hc))
            go_wp2
            go_meet
            exact ⟨by rw [HP.out], Below.refl _ _⟩
          · have d1 : decide ((T' : Int) - (m : Int) < (lb : Int)) = false := by simp; omega
            have d2 : (((T' : Int) - (m : Int)) == (lb : Int)) = true := by simp; omega
            have hmc : m < cap := by have := HLB.out; have := HCAP.out; omega
            have hTc : T' ≤ cap := by have := HCAP.out; omega
            clear hc
            go_wp2_with (go_at_call 81; refine (lessR _ _ _ ((R.drop m).take (T' - m)) _ _ _ B _ ?_ hBr bCH bB tCH tB).mono ?_; (first | exact hAt | (simp; exact hAt)); rintro e w7 ⟨rfl, hb7⟩; rw [HCV.out])
            go_meet
            exact ⟨rfl, hb7⟩
          · have d1 : decide ((T' : Int) - (m : Int) < (lb : Int)) = false := by simp; omega
            have d2 : (((T' : Int) - (m : Int)) == (lb : Int)) = false := by simp; omega
            have HP := hid (decide_eq_false (HLO.out hc))
            go_wp2
            go_meet
            exact ⟨by rw [HP.out], Below.refl _ _⟩
        case rest =>
          obtain ⟨rfl, hb7⟩ := hcut
          have hq7 := hq.keep' hb7
          have hR7 := hR.keep hb7
          have hb8 := hb.trans (hb7.mono hb.size)
          clear hAt hBr hfree hglt hcl HLO HCV bCH tCH
          by_cases hP : bv (R.drop m) < bv B
          · have hd : decide (bv (R.drop m) < bv B) = true := decide_eq_true hP
            have HDS := hid (hD.out.skip hP)
            rw [hd]
            clear hP hd hD
            go_wp2
            go_roundw
            case rel => exact ⟨m, T', Q, R, by omega, rfl, rfl, hmT', hTl', hz', HDS, hq7, hR7, hb8⟩
            case measure => simp [intOf]
          · have hd : decide (bv (R.drop m) < bv B) = false := decide_eq_false hP
            have HNP := hid (show bv B ≤ bv (R.drop m) by omega)
            have HLE : Hid (lb ≤ T' - m) := hid (by
              rcases Nat.lt_or_ge (T' - m) lb with h | h
              · exact absurd (HSH.out h) hP
              · exact h)
            have HQl := hid hD.out.lq
            have hfq := hq7.free m
            have hcq := hq7.cell m (by rw [HQl.out, HA.out]; omega)
            rw [hd]
            clear hP hd
            go_wp2
            go_loopw [11, 12] (fun bo k ws => ∃ (kk c : Nat) (R' : List Nat), m ≤ kk ∧ kk ≤ T' ∧ k = .int .i64 (kk : Int) ∧ bo = .int .i64 (c : Int) ∧ c ≤ 1 ∧ Hid (R'.length = la) ∧ B1 R' ∧ Hid (∀ j, j < m → dg R' j = dg R j) ∧ Hid (∀ j, kk ≤ j → dg R' j = dg R j) ∧ Hid (bv R' + 2 ^ m * bv (B.take (kk - m)) = bv R + 2 ^ kk * c) ∧ Rwi ws w.heap.size (Q.set m 1) ∧ Gri w.heap.size ws (.slice (some ⟨g, 0, none⟩) la cap) R' ∧ Below w.heap.size w ws) (fun _ k _ => T' - (intOf k).toNat)
            case atStart => exact ⟨m, 0, R, Nat.le_refl _, hmT', rfl, rfl, by omega, hid (by rw [HRl.out, HA.out]), bR, hid (fun _ _ => rfl), hid (fun _ _ => rfl), hid (by simp [bv]), hq7.set' m 1 rfl, hR7.other (by have := HG.out; simp; omega) _, hb8.setCell (Nat.le_refl _) _⟩
            case round =>
              obtain ⟨kk, c, R', hmk, hkT, rfl, rfl, hc1, hRl', bR', hlow, hhigh, hv, hq8, hR8, hb9⟩ := hrel
              clear hq7 hR7 hb8 hfq hcq
              have HRc := hid hR8.cells
              by_cases hgo : kk < T'
              · have hck := HRc.out.2.2.2.1 kk (by rw [hRl'.out]; omega)
                have hfk := HRc.out.2.2.2.2.1 kk
                have hx : dg R' kk = dg R kk := hhigh.out kk (Nat.le_refl _)
                have HX := hid hx
                clear hx
                have hxb := bR'.dg kk
                have hyb := bB.dg (kk - m)
                have hBr := hB.keep hb9
                have HZ : Hid ((kk : Int) - (m : Int) = ((kk - m : Nat) : Int)) := hid (by omega)
                have hG9 := HG.out
                by_cases hneg : dg R' kk < dg B (kk - m) + c
                · have hn1 : (dg R' kk : Int) - (dg B (kk - m) : Int) - (c : Int) < 0 := by omega
                  go_wp2
                  go_quiet ((go_at_call 105; go_must (refine Calls.quiet_of_same (bitR_z ab lb cb B (kk - m) _ _ HZ.out ?_); (repeat (first | exact hBr | apply Ri.drewN | apply Ri.drew)))))
                  go_wp2
                  go_roundw
                  case rel =>
                    refine ⟨kk + 1, 1, R'.set kk (dg R' kk + 2 - dg B (kk - m) - c), by omega, by omega, by go_num, rfl, by omega, hid (by rw [List.length_set, hRl'.out]), bR'.set kk (by omega), hid (fun j hj => ?_), hid (fun j hj => ?_), hid ?_, (hq8.drewN _).other (by simp; omega) _, (hR8.keep (bdrew (Below.refl _ _) _)).mark hRl'.out kk _ (by omega), (bdrew hb9 _).setCell (by simp; omega) _⟩
                    · rw [dg_set_ne _ _ _ _ (by omega)]; exact hlow.out j hj
                    · rw [dg_set_ne _ _ _ _ (by omega)]; exact hhigh.out j (by omega)
                    · rw [show kk + 1 - m = (kk - m) + 1 by omega, bv_take_any]
                      exact bsub_set (by rw [hRl'.out]; omega) hmk rfl hv.out (by omega)
                  case measure => simp [intOf]; omega
                · have hn1 : ¬ (dg R' kk : Int) - (dg B (kk - m) : Int) - (c : Int) < 0 := by omega
                  go_wp2
                  go_quiet ((go_at_call 105; go_must (refine Calls.quiet_of_same (bitR_z ab lb cb B (kk - m) _ _ HZ.out ?_); (repeat (first | exact hBr | apply Ri.drewN | apply Ri.drew)))))
                  go_wp2
                  go_roundw
                  case rel =>
                    refine ⟨kk + 1, 0, R'.set kk (dg R' kk - dg B (kk - m) - c), by omega, by omega, by go_num, rfl, by omega, hid (by rw [List.length_set, hRl'.out]), bR'.set kk (by omega), hid (fun j hj => ?_), hid (fun j hj => ?_), hid ?_, (hq8.drewN _).other (by simp; omega) _, (hR8.keep (bdrew (Below.refl _ _) _)).mark hRl'.out kk _ (by omega), (bdrew hb9 _).setCell (by simp; omega) _⟩
                    · rw [dg_set_ne _ _ _ _ (by omega)]; exact hlow.out j hj
                    · rw [dg_set_ne _ _ _ _ (by omega)]; exact hhigh.out j (by omega)
                    · rw [show kk + 1 - m = (kk - m) + 1 by omega, bv_take_any]
                      exact bsub_set (by rw [hRl'.out]; omega) hmk rfl hv.out (by omega)
                  case measure => simp [intOf]; omega
              · have HK : Hid (kk = T') := hid (by omega)
                have HFIN : Hid (Dv A B m (Q.set m 1) R') := hid (by
                  have hk := HK.out
                  subst hk
                  have h1 := hv.out
                  rw [bv_take_ge B _ (by rw [HB.out]; exact HLE.out)] at h1
                  exact (hD.out.take (by rw [HA.out]; omega) HNP.out hmk hz'.out (by rw [hRl'.out, HRl.out, HA.out]) bR' hlow.out hhigh.out h1 hc1).1)
                go_wp2
                go_roundw
                case rel => exact ⟨m, T', Q.set m 1, R', by omega, rfl, rfl, hmT', hTl', hid (fun j h1 h2 => by rw [hhigh.out j (by have := HK.out; omega)]; exact hz'.out j h1 (by rw [HRl.out, HA.out]; rw [hRl'.out] at h2; exact h2)), HFIN, hq8, hR8, hb9⟩
                case measure => simp [intOf]

set_option maxRecDepth 100000 in
set_option maxHeartbeats 2000000 in
theorem dividedR_zero (aa : Option Addr) (ca : Nat) (ab : Option Addr) (lb cb : Nat) (w : World) :
    Calls Tryd.prog 86 #[.slice aa 0 ca, .slice ab lb cb] w fun e w' => ∃ qo qc ro rc, e = .returned (.tuple #[.slice qo 0 qc, .slice ro 0 rc]) ∧ Below w.heap.size w w' := by
  obtain ⟨i0, hi, hz0, hz1, hz2⟩ := info_parts Tryd.infoI
  have R0 : ∀ ao cp wv, Ri wv ao 0 cp [] := fun _ _ _ => ⟨rfl, Nat.zero_le _, by omega, fun h => by omega⟩
  cases aa with
  | none =>
    go_enter Tryd.func86, Tryd.ntmps86
    go_wp2_with (first
      | (at_make; (refine wpList_make_full _ rfl _ _ 26 rfl w.heap.size 3 i0 (.int .i64 0) 1 Tryd.underlying26 hi hz0 hz1 .i64 .i64 _ _ 0 rfl rfl (by omega) (by omega) (by rw [hz2]; omega) (by unfold maxLen; omega) (Nat.le_refl _) ?_); intro w1 hown hgrow; have hsz1 := hgrow.size)
      | (at_builtin; refine wpList_append_own_none (o := ⟨some 19, _, _, _, _, _⟩) rfl _ _ 26 rfl w1.heap.size 3 i0 1 Tryd.underlying26 hi (.slice (some ⟨w1.heap.size, 0, none⟩) 0 0) 0 [] (by rfl) (fresh_i _ _ w1 (Nat.le_refl _) rfl) (by rfl) ?_))
    have HB := hid (((Below.refl w.heap.size w).grown hgrow (Nat.le_refl _) (by intro k hk; simp at hk)).alloc hsz1 (.cells #[] 3))
    clear hown hgrow hi hz0 hz1 hz2
    go_loop [9] (fun i => i = .int .i64 (-1)) (fun _ => 0)
    case atStart => rfl
    case round =>
      obtain rfl := hrel
      go_wp2_with (go_at_call 98; ((with_reducible refine (cutR _ _ _ [] _ (R0 _ _ _)).mono ?_); rintro e w' ⟨rfl, rfl⟩))
      go_ret2
      exact ⟨_, _, _, _, rfl, HB.out⟩
  | some ad =>
    go_enter Tryd.func86, Tryd.ntmps86
    go_wp2_with (first
      | (at_make; (refine wpList_make_full _ rfl _ _ 26 rfl w.heap.size 3 i0 (.int .i64 0) 1 Tryd.underlying26 hi hz0 hz1 .i64 .i64 _ _ 0 rfl rfl (by omega) (by omega) (by rw [hz2]; omega) (by unfold maxLen; omega) (Nat.le_refl _) ?_); intro w1 hown hgrow; have hsz1 := hgrow.size)
      | (at_builtin; (refine wpList_append_own _ (o := ⟨some 19, _, _, _, _, _⟩) rfl _ _ 26 rfl w1.heap.size 3 i0 (.int .i64 0) 1 8 Tryd.underlying26 hi hz0 hz1 hz2 rfl (by decide) (.slice (some ⟨w1.heap.size, 0, none⟩) 0 0) 0 [] (by rfl) (fresh_i _ _ w1 (Nat.le_refl _) rfl) ad 0 ca [] (by rfl) (by rfl) (fun j u hj => by simp at hj) (fun u hu => by cases hu) (by unfold maxLen; omega) (by omega) (by first | omega | (simp; done) | (simp; omega)) ?_); intro v1 w5 hown5 hgrow5 _))
    have hb5 : Below w1.heap.size w1 w5 := ((Below.refl _ _).alloc (Nat.le_refl _) _).grown hgrow5 (by simp) (by intro k hk; simp [Value.ownBlock] at hk; omega)
    have HB := hid (((Below.refl w.heap.size w).grown hgrow (Nat.le_refl _) (by intro k hk; simp at hk)).trans (hb5.mono hsz1))
    obtain ⟨vo, vc, hv1⟩ : ∃ vo vc, v1 = .slice vo 0 vc := by
      rcases hown5.2 with ⟨h1, _⟩ | ⟨g, cap, cur, h1, -⟩
      · exact ⟨none, 0, h1⟩
      · exact ⟨_, _, h1⟩
    subst hv1
    clear hown hgrow hi hz0 hz1 hz2 hown5 hgrow5 hb5
    go_wp2
    go_loop [9] (fun i => i = .int .i64 (-1)) (fun _ => 0)
    case atStart => rfl
    case round =>
      obtain rfl := hrel
      go_wp2_with (go_at_call 98; ((with_reducible refine (cutR _ _ _ [] _ (R0 _ _ _)).mono ?_); rintro e w' ⟨rfl, rfl⟩))
      go_ret2
      exact ⟨_, _, _, _, rfl, HB.out⟩

theorem dividedR (aa : Option Addr) (la ca : Nat) (A : List Nat) (ab : Option Addr) (lb cb : Nat) (B : List Nat) (w : World) (hA : Ri w aa la ca A) (hB : Ri w ab lb cb B) (bA : B1 A) (bB : B1 B) (tB : Top B) (hb0 : 0 < bv B) (sa : la ≤ 1073741824) :
    Calls Tryd.prog 86 #[.slice aa la ca, .slice ab lb cb] w fun e w' => ∃ qo ql qc Q ro rl rc R, e = .returned (.tuple #[.slice qo ql qc, .slice ro rl rc]) ∧ ql ≤ la ∧ rl ≤ la ∧ Ri w' qo ql qc Q ∧ B1 Q ∧ Top Q ∧ Ri w' ro rl rc R ∧ B1 R ∧ Top R ∧ Hid (bv Q = bv A / bv B) ∧ Hid (bv R = bv A % bv B) ∧ Below w.heap.size w w' := by
  rcases Nat.eq_zero_or_pos la with rfl | h0
  · have hA0 := List.eq_nil_of_length_eq_zero hA.size
    subst hA0
    refine (dividedR_zero aa ca ab lb cb w).mono ?_
    rintro e w' ⟨qo, qc, ro, rc, rfl, hb⟩
    have R0 : ∀ ao cp, Ri w' ao 0 cp [] := fun _ _ => ⟨rfl, Nat.zero_le _, by omega, fun h => by omega⟩
    exact ⟨qo, 0, qc, [], ro, 0, rc, [], rfl, Nat.le_refl _, Nat.le_refl _, R0 _ _, B1.nil, fun h => absurd rfl h, R0 _ _, B1.nil, fun h => absurd rfl h, hid (by simp [bv]), hid (by simp [bv]), hb⟩
  · exact dividedR_pos aa la ca A ab lb cb B w hA hB bA bB tB hb0 sa h0
end Go.Proofs.YtldafoojkimdeaaDoor

namespace Go.Proofs.YtldafoojkimdeaaDoor
open Go.RowKit Lm

set_option maxRecDepth 100000 in
set_option maxHeartbeats 2000000 in
theorem divMod_apart (na : Bool) (aa : Option Addr) (la ca : Nat) (A : List Nat) (nb : Bool) (ab : Option Addr) (lb cb : Nat) (B : List Nat) (w : World) (hA : Rd w aa la ca A) (hB : Rd w ab lb cb B) (hbad : (tooLong A || tooLong B) = false) (hb0 : 0 < val B) :
    Calls Tryd.prog 42 #[.agg #[.bool na, .slice aa la ca], .agg #[.bool nb, .slice ab lb cb]] w fun e w' => ∃ nq qo ql nr ro rl q r, e = .returned (.tuple #[.agg #[.bool nq, .slice qo ql ql], .agg #[.bool nr, .slice ro rl rl], .int .i64 0]) ∧
      Num w.heap.size w' nq qo ql q ∧ Num w.heap.size w' nr ro rl r ∧ (∀ a b, qo = some a → ro = some b → a.block ≠ b.block) ∧ FloorDiv (num na A) (num nb B) q r nb ∧ Below w.heap.size w w' := by
  have hsB := small_len B (by simp at hbad; exact hbad.2)
  have HB0 := hid hb0
  have hvB := hid (tl_val B)
  go_enter Tryd.func42, Tryd.ntmps42
  go_wp2_with (go_at_call 83; refine (divideBoth_full na aa la ca A nb ab lb cb B _ ((((hA.alloc _).alloc _).alloc _).alloc _) ((((hB.alloc _).alloc _).alloc _).alloc _) hbad hb0).mono ?_; rintro e w1 ⟨qo, ql, qc, ro, rl, rc, rfl, ⟨Q, R, hQ, hR, tR, hval, hlt, hql, hrl⟩, hb1⟩; obtain ⟨p1, p2, p3, p4, hbw, hlt1⟩ := hp4c _ _ _ _ _ hb1; obtain ⟨a0, _, _, _⟩ := two_cells p1; obtain ⟨b0, b1, _, _⟩ := two_cells p2; have hB1 := hB.keep hbw; have P3 := hid p3; have P4 := hid p4; have HV := hid hval; have HLT := hid hlt; have ca0 := a0; have cb0 := b0; clear p1 p2 p3 p4 hval hlt hb1 a0 b0)
  · have hna : na = nb := by assumption
    subst hna
    have ca0d := show w1.drew.cell? ⟨w.heap.size, 0, none⟩ = _ from ca0
    have cb0d := show w1.drew.cell? ⟨w.heap.size + 1, 0, none⟩ = _ from cb0
    go_region_held3 (fun w' => w'.cell? ⟨w.heap.size, 0, none⟩ = some (.bool na) ∧ w'.cell? ⟨w.heap.size + 1, 0, none⟩ = some (.bool na)) (first | (with_reducible exact ⟨ca0, cb0⟩) | (with_reducible exact ⟨ca0d, cb0d⟩) | (with_reducible exact ⟨a03, b03⟩) | (with_reducible exact ⟨a04, b04⟩) | (simp [go_sem, a04, b04]; done))
      (first
        | (go_at_call 69; (with_reducible refine (give_any _ qo ql qc Q _ ?_).mono ?_); (first | exact hQ | exact hQ.drew); rintro e w2 ⟨n1, ao1, len1, rfl, hn1, hb2⟩; have a03 := cell_keep ca0 (undrew hb2); have b03 := cell_keep cb0 (undrew hb2); have q3 := hid (heap_keep P3.out (undrew hb2)); have q4 := hid (heap_keep P4.out (undrew hb2)); have hR2 := hR.keep (undrew hb2))
        | (go_at_call 69; (with_reducible refine (give_any _ ro rl rc R _ hR2).mono ?_); rintro e w3 ⟨n2, ao2, len2, rfl, hn2, hb3⟩; have a04 := cell_keep a03 hb3; have b04 := cell_keep b03 hb3; obtain ⟨c0, c1, f0, f1⟩ := two_cells (heap_keep q3.out hb3); obtain ⟨d0, d1, g0, g1⟩ := two_cells (heap_keep q4.out hb3)))
    have hs2 := (undrew hb2).size
    have hs3 := hb3.size
    have hfd := floor_same na A B Q R HV.out HLT.out
    go_wp2
    refine bodyPost_ret (v := .tuple #[.agg #[.bool n1, .slice ao1 len1 len1], .agg #[.bool n2, .slice ao2 len2 len2], .int .i64 0]) (by simp [results, Tryd.results42, go_sem, c0, c1, d0, d1]) rfl ⟨_, _, _, _, _, _, _, _, rfl, ?_, ?_, (fun a b ea eb => Nat.ne_of_lt (Nat.lt_of_lt_of_le (hn1.own a ea).1 (hn2.own b eb).2)), hfd, ?_⟩
    · exact (((((hn1.keep hb3).set (by simp; omega) _).set (by simp; omega) _).set (by simp; omega) _).set (by simp; omega) _).mono (by simp; omega)
    · exact ((((hn2.set (by simp; omega) _).set (by simp; omega) _).set (by simp; omega) _).set (by simp; omega) _).mono (by omega)
    · exact ((((((hbw).trans ((undrew hb2).mono (by simp; omega))).trans (hb3.mono (by omega))).setCell (by simp; omega) _).setCell (by simp; omega) _).setCell (by simp; omega) _).setCell (by simp; omega) _
    
  · have hcond : (!na == nb) = true ∧ 0 < rl := by assumption
    have hrl0 := hcond.2
    have hnn : ¬na = nb := by assumption
    have hna := bool_ne hnn
    clear hnn hcond
    subst hna
    have hR0 : 0 < val R := by
      rcases Nat.eq_zero_or_pos (val R) with h | h
      · have := top_zero tR h
        have h2 := hR.size
        rw [this] at h2; simp at h2; omega
      · exact h
    have hlen : rl ≤ (tl B).length := by
      have h1 := hR.size
      have h2 := fun k => top_length tR (tl_ok hB.ok) k
      rw [tl_val] at h2
      have := HLT.out
      omega
    have hle : val R ≤ val (tl B) := by rw [tl_val]; exact Nat.le_of_lt HLT.out
    have HR0 := hid hR0
    have HLE := hid hle
    have cb1 := b1
    have cb1d := show w1.drew.cell? ⟨w.heap.size + 1, 1, none⟩ = _ from b1
    clear hR0 hle
    go_region_held3 (fun w' => w'.cell? ⟨w.heap.size + 1, 1, none⟩ = some (.slice ab lb cb)) (first | (with_reducible exact cb1) | (with_reducible exact cb1d) | (with_reducible exact b12) | (with_reducible exact b13) | (with_reducible exact b14) | (simp [go_sem, b14]; done))
      (first
        | (go_at_call 70; refine (limbsOf_one _).mono ?_; rintro e w2 ⟨gl, rfl, hgl, hL1, hb2⟩; have b12 := cell_keep cb1 (undrew hb2); have hQ2 := hQ.keep (undrew hb2); have hL1' := (show Rd w2 (some ⟨gl, 0, none⟩) 2 2 [1, 0] from hL1.whole ok_one 2 (by simp) (by omega)))
        | (go_at_call 84; refine (sum_any _ _ _ Q _ _ _ [1, 0] _ hQ2 hL1' (by omega) (by omega)).mono ?_; rintro e w3 ⟨gs, S, rfl, hgs, hS, hSl, hSo, hSv, hb3⟩; have HSL := hid hSl; have HSV := hid hSv; have hSs : S.length ≤ 301 := (by omega); clear hSl hSv; have b13 := cell_keep b12 hb3)
        | (go_at_call 71; refine (trim_any _ _ _ B _ ((hB1.keep (undrew hb2)).keep hb3)).mono ?_; rintro e w5 ⟨rfl, rfl⟩)
        | (go_at_call 85; refine (difference_any _ _ _ (tl B) _ _ _ R _ ((hB1.keep (undrew hb2)).keep hb3).tl ((hR.keep (undrew hb2)).keep hb3) hlen (by omega) HLE.out).mono ?_; rintro e w4 ⟨gd, D, rfl, hgd, hD, hDl, hDo, hDv, hb4⟩; have HDL := hid hDl; have HDV := hid hDv; have hDs : D.length ≤ 128 := (by omega); clear hDl hDv; have b14 := cell_keep b13 hb4))
    have hwv : Below w1.heap.size w1 w4 := ((undrew hb2).trans (hb3.mono (undrew hb2).size)).trans (hb4.mono (Nat.le_trans (undrew hb2).size hb3.size))
    have hQ5 : Rd w4 (some ⟨gs, 0, none⟩) S.length S.length S := (hS.keep' hb4).whole hSo _ (Nat.le_refl _) (by omega)
    have hR5 : Rd w4 (some ⟨gd, 0, none⟩) D.length D.length D := hD.whole hDo _ (Nat.le_refl _) (by omega)
    have ca05 := cell_keep ca0 hwv
    have cb05 := cell_keep cb0 hwv
    have P35 := hid (heap_keep P3.out hwv)
    have P45 := hid (heap_keep P4.out hwv)
    have hbw5 := hbw.trans (hwv.mono (by omega))
    have hlt5 : w.heap.size + 4 ≤ w4.heap.size := Nat.le_trans hlt1 hwv.size
    have hSV2 : val S = val Q + 1 := by rw [HSV.out]; simp [val]
    have hDV2 : val D + val R = val B := by rw [HDV.out, tl_val]
    have HS2 := hid hSV2
    have HD2 := hid hDV2
    clear hSV2 hDV2 ca0 cb0 cb1 cb1d P3 P4 hQ hR hbw hlt1 b12 b13 b14 hL1' hQ2 hB1 b1
    have ca0 := ca05
    have cb0 := cb05
    have P3 := P35
    have P4 := P45
    have hQ := hQ5
    have hR := hR5
    have hbw := hbw5
    have hlt1 := hlt5
    clear ca05 cb05 P35 P45 hQ5 hR5 hbw5 hlt5
    clear hb2 hb3 hb4 hwv
    go_wp2
    have ca0d := show w4.drew.cell? ⟨w.heap.size, 0, none⟩ = _ from ca0
    have cb0d := show w4.drew.cell? ⟨w.heap.size + 1, 0, none⟩ = _ from cb0
    go_region_held3 (fun w' => w'.cell? ⟨w.heap.size, 0, none⟩ = some (.bool (!nb)) ∧ w'.cell? ⟨w.heap.size + 1, 0, none⟩ = some (.bool nb)) (first | (with_reducible exact ⟨ca0, cb0⟩) | (with_reducible exact ⟨ca0d, cb0d⟩) | (with_reducible exact ⟨a03, b03⟩) | (with_reducible exact ⟨a04, b04⟩) | (simp [go_sem, a04, b04]; done))
      (first
        | (go_at_call 69; (with_reducible refine (give_any _ (some ⟨gs, 0, none⟩) S.length S.length S _ ?_).mono ?_); (first | exact hQ | exact hQ.drew); rintro e w2 ⟨n1, ao1, len1, rfl, hn1, hb2⟩; have a03 := cell_keep ca0 (undrew hb2); have b03 := cell_keep cb0 (undrew hb2); have q3 := hid (heap_keep P3.out (undrew hb2)); have q4 := hid (heap_keep P4.out (undrew hb2)); have hR2 := hR.keep (undrew hb2))
        | (go_at_call 69; (with_reducible refine (give_any _ (some ⟨gd, 0, none⟩) D.length D.length D _ hR2).mono ?_); rintro e w3 ⟨n2, ao2, len2, rfl, hn2, hb3⟩; have a04 := cell_keep a03 hb3; have b04 := cell_keep b03 hb3; obtain ⟨c0, c1, f0, f1⟩ := two_cells (heap_keep q3.out hb3); obtain ⟨d0, d1, g0, g1⟩ := two_cells (heap_keep q4.out hb3)))
    have hs2 := (undrew hb2).size
    have hs3 := hb3.size
    have hfd := floor_up nb A B Q R S D HV.out HR0.out HLT.out HS2.out HD2.out
    have hx : (!(!nb) == nb) = true := by cases nb <;> rfl
    try rw [hx] at hn1
    go_wp2
    refine bodyPost_ret (v := .tuple #[.agg #[.bool n1, .slice ao1 len1 len1], .agg #[.bool n2, .slice ao2 len2 len2], .int .i64 0]) (by simp [results, Tryd.results42, go_sem, c0, c1, d0, d1]) rfl ⟨_, _, _, _, _, _, _, _, rfl, ?_, ?_, (fun a b ea eb => Nat.ne_of_lt (Nat.lt_of_lt_of_le (hn1.own a ea).1 (hn2.own b eb).2)), hfd, ?_⟩
    · exact (((((hn1.keep hb3).set (by simp; omega) _).set (by simp; omega) _).set (by simp; omega) _).set (by simp; omega) _).mono (by simp; omega)
    · exact ((((hn2.set (by simp; omega) _).set (by simp; omega) _).set (by simp; omega) _).set (by simp; omega) _).mono (by omega)
    · exact ((((((hbw).trans ((undrew hb2).mono (by simp; omega))).trans (hb3.mono (by omega))).setCell (by simp; omega) _).setCell (by simp; omega) _).setCell (by simp; omega) _).setCell (by simp; omega) _
    
  · have hcond : (!na == nb) = false ∨ ¬0 < rl := by assumption
    have hnn : ¬na = nb := by assumption
    have hna := bool_ne hnn
    clear hnn
    subst hna
    have hrl0 : rl = 0 := by
      rcases hcond with h | h
      · exact (bool_no nb h).elim
      · omega
    have hR0 : val R = 0 := by rw [List.eq_nil_of_length_eq_zero (hR.size.trans hrl0)]; rfl
    have HR0 := hid hR0
    clear hcond hR0 hrl0
    have ca0d := show w1.drew.cell? ⟨w.heap.size, 0, none⟩ = _ from ca0
    have cb0d := show w1.drew.cell? ⟨w.heap.size + 1, 0, none⟩ = _ from cb0
    go_region_held3 (fun w' => w'.cell? ⟨w.heap.size, 0, none⟩ = some (.bool (!nb)) ∧ w'.cell? ⟨w.heap.size + 1, 0, none⟩ = some (.bool nb)) (first | (with_reducible exact ⟨ca0, cb0⟩) | (with_reducible exact ⟨ca0d, cb0d⟩) | (with_reducible exact ⟨a03, b03⟩) | (with_reducible exact ⟨a04, b04⟩) | (simp [go_sem, a04, b04]; done))
      (first
        | (go_at_call 69; (with_reducible refine (give_any _ qo ql qc Q _ ?_).mono ?_); (first | exact hQ | exact hQ.drew); rintro e w2 ⟨n1, ao1, len1, rfl, hn1, hb2⟩; have a03 := cell_keep ca0 (undrew hb2); have b03 := cell_keep cb0 (undrew hb2); have q3 := hid (heap_keep P3.out (undrew hb2)); have q4 := hid (heap_keep P4.out (undrew hb2)); have hR2 := hR.keep (undrew hb2))
        | (go_at_call 69; (with_reducible refine (give_any _ ro rl rc R _ hR2).mono ?_); rintro e w3 ⟨n2, ao2, len2, rfl, hn2, hb3⟩; have a04 := cell_keep a03 hb3; have b04 := cell_keep b03 hb3; obtain ⟨c0, c1, f0, f1⟩ := two_cells (heap_keep q3.out hb3); obtain ⟨d0, d1, g0, g1⟩ := two_cells (heap_keep q4.out hb3)))
    have hs2 := (undrew hb2).size
    have hs3 := hb3.size
    have hfd := floor_zero nb A B Q R HV.out HR0.out HB0.out
    have hx : (!(!nb) == nb) = true := by cases nb <;> rfl
    try rw [hx] at hn1
    go_wp2
    refine bodyPost_ret (v := .tuple #[.agg #[.bool n1, .slice ao1 len1 len1], .agg #[.bool n2, .slice ao2 len2 len2], .int .i64 0]) (by simp [results, Tryd.results42, go_sem, c0, c1, d0, d1]) rfl ⟨_, _, _, _, _, _, _, _, rfl, ?_, ?_, (fun a b ea eb => Nat.ne_of_lt (Nat.lt_of_lt_of_le (hn1.own a ea).1 (hn2.own b eb).2)), hfd, ?_⟩
    · exact (((((hn1.keep hb3).set (by simp; omega) _).set (by simp; omega) _).set (by simp; omega) _).set (by simp; omega) _).mono (by simp; omega)
    · exact ((((hn2.set (by simp; omega) _).set (by simp; omega) _).set (by simp; omega) _).set (by simp; omega) _).mono (by omega)
    · exact ((((((hbw).trans ((undrew hb2).mono (by simp; omega))).trans (hb3.mono (by omega))).setCell (by simp; omega) _).setCell (by simp; omega) _).setCell (by simp; omega) _).setCell (by simp; omega) _
    


set_option maxRecDepth 100000 in
set_option maxHeartbeats 2000000 in
theorem quoRem_apart (na : Bool) (aa : Option Addr) (la ca : Nat) (A : List Nat) (nb : Bool) (ab : Option Addr) (lb cb : Nat) (B : List Nat) (w : World) (hA : Rd w aa la ca A) (hB : Rd w ab lb cb B) (hbad : (tooLong A || tooLong B) = false) (hb0 : 0 < val B) :
    Calls Tryd.prog 41 #[.agg #[.bool na, .slice aa la ca], .agg #[.bool nb, .slice ab lb cb]] w fun e w' => ∃ nq qo ql nr ro rl q r, e = .returned (.tuple #[.agg #[.bool nq, .slice qo ql ql], .agg #[.bool nr, .slice ro rl rl], .int .i64 0]) ∧
      Num w.heap.size w' nq qo ql q ∧ Num w.heap.size w' nr ro rl r ∧ (∀ a b, qo = some a → ro = some b → a.block ≠ b.block) ∧ TruncDiv (num na A) (num nb B) q r ∧ Below w.heap.size w w' := by
  have HB0 := hid hb0
  go_enter Tryd.func41, Tryd.ntmps41
  go_wp2_with (go_at_call 83; refine (divideBoth_full na aa la ca A nb ab lb cb B _ ((((hA.alloc _).alloc _).alloc _).alloc _) ((((hB.alloc _).alloc _).alloc _).alloc _) hbad hb0).mono ?_; rintro e w1 ⟨qo, ql, qc, ro, rl, rc, rfl, ⟨Q, R, hQ, hR, tR, hval, hlt, hql, hrl⟩, hb1⟩; obtain ⟨p1, p2, p3, p4, hbw, hlt1⟩ := hp4c _ _ _ _ _ hb1; obtain ⟨a0, _, _, _⟩ := two_cells p1; obtain ⟨b0, b1, _, _⟩ := two_cells p2; have P3 := hid p3; have P4 := hid p4; have HV := hid hval; have HLT := hid hlt; have ca0 := a0; have cb0 := b0; clear p1 p2 p3 p4 hval hlt hb1 a0 b0)
  have ca0d := show w1.drew.cell? ⟨w.heap.size, 0, none⟩ = _ from ca0
  have cb0d := show w1.drew.cell? ⟨w.heap.size + 1, 0, none⟩ = _ from cb0
  go_region_held3 (fun w' => w'.cell? ⟨w.heap.size, 0, none⟩ = some (.bool na) ∧ w'.cell? ⟨w.heap.size + 1, 0, none⟩ = some (.bool nb)) (first | (with_reducible exact ⟨ca0, cb0⟩) | (with_reducible exact ⟨ca0d, cb0d⟩) | (with_reducible exact ⟨a03, b03⟩) | (with_reducible exact ⟨a04, b04⟩) | (simp [go_sem, a04, b04]; done))
    (first
      | (go_at_call_of 69 qc; (with_reducible refine (give_any _ qo ql qc Q _ ?_).mono ?_); (first | exact hQ | exact hQ.drew); rintro e w2 ⟨n1, ao1, len1, rfl, hn1, hb2⟩; have a03 := cell_keep ca0 (undrew hb2); have b03 := cell_keep cb0 (undrew hb2); have q3 := hid (heap_keep P3.out (undrew hb2)); have q4 := hid (heap_keep P4.out (undrew hb2)); have hR2 := hR.keep (undrew hb2))
      | (go_at_call_of 69 rc; (with_reducible refine (give_any _ ro rl rc R _ hR2).mono ?_); rintro e w3 ⟨n2, ao2, len2, rfl, hn2, hb3⟩; have a04 := cell_keep a03 hb3; have b04 := cell_keep b03 hb3; obtain ⟨c0, c1, f0, f1⟩ := two_cells (heap_keep q3.out hb3); obtain ⟨d0, d1, g0, g1⟩ := two_cells (heap_keep q4.out hb3)))
  all_goals
    have hs2 := (undrew hb2).size
    have hs3 := hb3.size
    have hfd := trunc_of na nb A B Q R HV.out HLT.out
    go_wp2
    refine bodyPost_ret (v := .tuple #[.agg #[.bool n1, .slice ao1 len1 len1], .agg #[.bool n2, .slice ao2 len2 len2], .int .i64 0]) (by simp [results, Tryd.results41, go_sem, c0, c1, d0, d1]) rfl ⟨_, _, _, _, _, _, _, _, rfl, ?_, ?_, (fun a b ea eb => Nat.ne_of_lt (Nat.lt_of_lt_of_le (hn1.own a ea).1 (hn2.own b eb).2)), hfd, ?_⟩
    · exact (((((hn1.keep hb3).set (by simp; omega) _).set (by simp; omega) _).set (by simp; omega) _).set (by simp; omega) _).mono (by simp; omega)
    · exact ((((hn2.set (by simp; omega) _).set (by simp; omega) _).set (by simp; omega) _).set (by simp; omega) _).mono (by omega)
    · exact ((((((hbw).trans ((undrew hb2).mono (by simp; omega))).trans (hb3.mono (by omega))).setCell (by simp; omega) _).setCell (by simp; omega) _).setCell (by simp; omega) _).setCell (by simp; omega) _
end Go.Proofs.YtldafoojkimdeaaDoor

namespace Go.Proofs.YtldafoojkimdeaaDoor
open Go.RowKit Lm

theorem trunc_sg (nx ny : Bool) (A B Q R : List Nat) (h : bv A = bv Q * bv B + bv R) (hl : bv R < bv B) : TruncDiv (sg nx A) (sg ny B) (sg (nx != ny) Q) (sg nx R) := by
  have e : (bv A : Int) = bv Q * bv B + bv R := by rw [h]; simp [Int.natCast_mul]
  unfold TruncDiv sg
  cases nx <;> cases ny <;> simp [Int.neg_mul, Int.mul_neg] <;> omega

set_option maxRecDepth 100000 in
set_option maxHeartbeats 4000000 in
theorem quoR (nx : Bool) (xo : Option Addr) (xl xc : Nat) (vx : Int) (ny : Bool) (yo : Option Addr) (yl yc : Nat) (vy : Int) (w : World) (hX : Big w nx xo xl xc vx) (hY : Big w ny yo yl yc vy) (sx : xl ≤ 1048576) (h0 : vy ≠ 0) :
    Calls Tryd.prog 43 #[.agg #[.bool nx, .slice xo xl xc], .agg #[.bool ny, .slice yo yl yc]] w fun e w' => ∃ nq qo ql qc nr ro rl rc q r, e = .returned (.tuple #[.agg #[.bool nq, .slice qo ql qc], .agg #[.bool nr, .slice ro rl rc]]) ∧ ql ≤ xl ∧ rl ≤ xl ∧ Big w' nq qo ql qc q ∧ Big w' nr ro rl rc r ∧ Hid (TruncDiv vx vy q r) ∧ Below w.heap.size w w' := by
  obtain ⟨A, rA, bA, tA, _, ex⟩ := hX
  obtain ⟨B, rB, bB, tB, _, ey⟩ := hY
  have hb0 : 0 < bv B := by
    rcases Nat.eq_zero_or_pos (bv B) with h | h
    · exact absurd (by rw [← ey]; unfold sg; rw [h]; cases ny <;> rfl) h0
    · exact h
  have HX := hid ex
  have HY := hid ey
  clear ex ey h0
  have HB0 := hid hb0
  clear hb0
  have hz4 : Below w.heap.size w ((((w.alloc (.cells #[.bool nx, .slice xo xl xc] 28)).alloc (.cells #[.bool ny, .slice yo yl yc] 28)).alloc (.cells #[.bool false, .slice none 0 0] 28)).alloc (.cells #[.bool false, .slice none 0 0] 28)) := ((((Below.refl _ _).alloc (Nat.le_refl _) _).alloc (by simp) _).alloc (by simp; omega) _).alloc (by simp; omega) _
  go_enter Tryd.func43, Tryd.ntmps43
  go_wp2_with (go_at_call 86; refine (dividedR _ _ _ A _ _ _ B _ (rA.keep hz4) (rB.keep hz4) bA bB tB HB0.out (by omega)).mono ?_; rintro e w1 ⟨qo, ql, qc, Q, ro, rl, rc, R, rfl, hql, hrl, hQ, bQ, tQ, hR, bR, tR, hvq, hvr, hb1⟩; obtain ⟨p1, p2, p3, p4, hbw, hlt1⟩ := hp4c _ _ _ _ _ hb1; obtain ⟨a0, a1, _, _⟩ := two_cells p1; obtain ⟨b0, b1, _, _⟩ := two_cells p2; have P3 := hid p3; have P4 := hid p4; have ca0 := a0; have cb0 := b0; clear p1 p2 p3 p4 hb1 a0 b0 hz4)
  have ca0d := show w1.drew.cell? ⟨w.heap.size, 0, none⟩ = _ from ca0
  have cb0d := show w1.drew.cell? ⟨w.heap.size + 1, 0, none⟩ = _ from cb0
  go_region_held3 (fun w' => w'.cell? ⟨w.heap.size, 0, none⟩ = some (.bool nx) ∧ w'.cell? ⟨w.heap.size + 1, 0, none⟩ = some (.bool ny)) (first | (with_reducible exact ⟨ca0, cb0⟩) | (with_reducible exact ⟨ca0d, cb0d⟩) | (with_reducible exact ⟨a03, b03⟩) | (with_reducible exact ⟨a04, b04⟩) | (simp [go_sem, a04, b04]; done))
    (first
      | (go_at_call_of 68 qc; (with_reducible refine (laidR _ qo ql qc Q _ ?_ bQ).mono ?_); (first | exact hQ | exact hQ.drew); rintro e w2 ⟨n1, len1, rfl, hle1, hn1, hb2⟩; have a03 := cell_keep ca0 (undrew hb2); have b03 := cell_keep cb0 (undrew hb2); have q3 := hid (heap_keep P3.out (undrew hb2)); have q4 := hid (heap_keep P4.out (undrew hb2)); have hR2 := hR.keep (undrew hb2))
      | (go_at_call_of 68 rc; (with_reducible refine (laidR _ ro rl rc R _ hR2 bR).mono ?_); rintro e w3 ⟨n2, len2, rfl, hle2, hn2, hb3⟩; have a04 := cell_keep a03 hb3; have b04 := cell_keep b03 hb3; have z3 := hid (heap_keep q3.out hb3); have z4 := hid (heap_keep q4.out hb3); obtain ⟨c0, c1, f0, f1⟩ := two_cells z3.out; obtain ⟨d0, d1, g0, g1⟩ := two_cells z4.out))
  all_goals
    have hs2 := (undrew hb2).size
    have hs3 := hb3.size
    have htd := hid (trunc_sg nx ny A B Q R (by rw [hvq.out, hvr.out, Nat.mul_comm]; exact (Nat.div_add_mod _ _).symm) (by rw [hvr.out]; exact Nat.mod_lt _ HB0.out))
    rw [HX.out, HY.out] at htd
    go_wp2
    refine bodyPost_ret (v := .tuple #[.agg #[.bool n1, .slice qo len1 qc], .agg #[.bool n2, .slice ro len2 rc]]) (by simp [results, Tryd.results43, go_sem, c0, c1, d0, d1]) rfl ⟨_, _, _, _, _, _, _, _, _, _, rfl, Nat.le_trans hle1 hql, Nat.le_trans hle2 hrl, ?_, ?_, htd, ?_⟩
    · exact ((hn1.keep hb3).other z3.out (by simp) (by simp) _ _).other (heap_set (heap_set z4.out (by simp)) (by simp)) (by simp) (by simp) _ _
    · exact (hn2.other z3.out (by simp) (by simp) _ _).other (heap_set (heap_set z4.out (by simp)) (by simp)) (by simp) (by simp) _ _
    · exact ((((((hbw).trans ((undrew hb2).mono (by simp; omega))).trans (hb3.mono (by omega))).setCell (by simp; omega) _).setCell (by simp; omega) _).setCell (by simp; omega) _).setCell (by simp; omega) _

theorem floor_trunc_up {a b q r : Int} (h : TruncDiv a b q r) (h1 : r ≠ 0) (h2 : (r < 0) ≠ (b < 0)) : Floors a b (q + -1) (r + b) := by
  obtain ⟨e, hl, k1, k2⟩ := h
  refine ⟨by rw [e, Int.add_mul]; omega, ?_, ?_, ?_⟩ <;> (by_cases x : r < 0 <;> by_cases y : b < 0 <;> simp [x, y] at h2 <;> omega)
theorem floor_trunc_same {a b q r : Int} (h : TruncDiv a b q r) (h1 : r = 0 ∨ ((r < 0) ↔ (b < 0))) : Floors a b q r := by
  obtain ⟨e, hl, k1, k2⟩ := h
  refine ⟨e, hl, ?_, ?_⟩ <;> (rcases h1 with x | x <;> omega)

set_option maxRecDepth 100000 in
set_option maxHeartbeats 4000000 in
theorem divR (nx : Bool) (xo : Option Addr) (xl xc : Nat) (vx : Int) (ny : Bool) (yo : Option Addr) (yl yc : Nat) (vy : Int) (w : World) (hX : Big w nx xo xl xc vx) (hY : Big w ny yo yl yc vy) (sx : xl ≤ 1048576) (sy : yl ≤ 1048576) (h0 : vy ≠ 0) :
    Calls Tryd.prog 44 #[.agg #[.bool nx, .slice xo xl xc], .agg #[.bool ny, .slice yo yl yc]] w fun e w' => ∃ nq qo ql qc nr ro rl rc q r, e = .returned (.tuple #[.agg #[.bool nq, .slice qo ql qc], .agg #[.bool nr, .slice ro rl rc]]) ∧ Big w' nq qo ql qc q ∧ Big w' nr ro rl rc r ∧ Hid (Floors vx vy q r) ∧ Below w.heap.size w w' := by
  have hz4 : Below w.heap.size w ((((w.alloc (.cells #[.bool nx, .slice xo xl xc] 28)).alloc (.cells #[.bool ny, .slice yo yl yc] 28)).alloc (.cells #[.bool false, .slice none 0 0] 28)).alloc (.cells #[.bool false, .slice none 0 0] 28)) := ((((Below.refl _ _).alloc (Nat.le_refl _) _).alloc (by simp) _).alloc (by simp; omega) _).alloc (by simp; omega) _
  have HSY := hid hY.sign
  go_enter Tryd.func44, Tryd.ntmps44
  go_upto_region 2 with (go_at_call 43; refine (quoR _ _ _ _ vx _ _ _ _ vy _ (hX.keep hz4) (hY.keep hz4) sx h0).mono ?_; rintro e w1 ⟨nq, qo, ql, qc, nr, ro, rl, rc, q, r, rfl, hql, hrl, hQ, hR, hT, hb1⟩; obtain ⟨p1, p2, p3, p4, hbw, hlt1⟩ := hp4c _ _ _ _ _ hb1; have P2 := hid p2; have P3 := hid p3; have P4 := hid p4; clear p1 p2 p3 p4 hb1 hz4)
  obtain ⟨wv, hwv⟩ : ∃ wv, wv = (w1.alloc (.cells #[.bool nq, .slice qo ql qc] 28)).alloc (.cells #[.bool nr, .slice ro rl rc] 28) := ⟨_, rfl⟩
  obtain ⟨hp6, hp7, hvb, hvl⟩ := new2 hwv
  rw [← hwv]
  clear hwv
  have hQ2 := hQ.keep hvb
  have hR2 := hR.keep hvb
  have hY2 := (hY.keep hbw).keep hvb
  have V2 := hid (heap_keep P2.out hvb)
  have V3 := hid (heap_keep P3.out hvb)
  have V4 := hid (heap_keep P4.out hvb)
  have hbv := hbw.trans (hvb.mono hbw.size)
  have HSR := hid hR2.sign
  have HLR := hid hR2.len
  obtain ⟨c60, c61, _, _⟩ := two_cells hp6
  obtain ⟨c70, c71, _, _⟩ := two_cells hp7
  obtain ⟨c30, c31, _, _⟩ := two_cells V2.out
  obtain ⟨e40, e41, _, _⟩ := two_cells V3.out
  obtain ⟨e50, e51, _, _⟩ := two_cells V4.out
  have HP6 := hid hp6
  have HP7 := hid hp7
  clear hQ hR P2 P3 P4 hbw hvb hp6 hp7
  have HRN : Hid (0 < rl ↔ r ≠ 0) := hid (by
    rw [HLR.out]
    constructor
    · intro h e; subst e; exact absurd h (by decide)
    · intro h
      rcases Nat.eq_zero_or_pos (bl r.natAbs) with e | e
      · have := (bl_le r.natAbs 0).1 (by omega)
        omega
      · exact e)
  have hl4 : w.heap.size + 4 ≤ wv.heap.size := by omega
  by_cases hup : 0 < rl ∧ nr ≠ ny
  · obtain ⟨hu1, hu2⟩ := hup
    have d1 : (nr != ny) = true := by simpa using hu2
    have d2 : (!nr == ny) = true := by cases nr <;> cases ny <;> simp_all
    have d3 : (nr == ny) = false := by simpa using hu2
    have d4 : ¬ nr = ny := hu2
    have HFL := hid (floor_trunc_up hT.out (HRN.out.1 hu1) (by have := HSR.out; have := HSY.out; intro h; apply hu2; rw [HSR.out, HSY.out, decide_eq_decide]; exact Iff.of_eq h))
    clear hu2
    have m1 : ¬ w.heap.size + 1 + 1 = w1.heap.size := by omega
    have m2 : ¬ w.heap.size + 1 + 1 = w1.heap.size + 1 := by omega
    have m3 : ¬ w.heap.size + 1 + 1 + 1 = w1.heap.size := by omega
    have m4 : ¬ w.heap.size + 1 + 1 + 1 = w1.heap.size + 1 := by omega
    have h6 := hid (heap_keep HP6.out (Below.refl _ _).drew)
    have h7 := hid (heap_keep HP7.out (Below.refl _ _).drew)
    have h2 := hid (heap_keep V2.out (Below.refl _ _).drew)
    have h3 := hid (heap_keep V3.out (Below.refl _ _).drew)
    have h4 := hid (heap_keep V4.out (Below.refl _ _).drew)
    have hQ2 := hQ2.drew
    have hR2 := hR2.drew
    have hY2 := hY2.drew
    have hacc : Below wv.heap.size wv wv.drew := (Below.refl _ _).drew
    go_wp2_with fail
    go_region_held3 (fun w' => w'.cell? ⟨w1.heap.size, 0, none⟩ = some (.bool nq) ∧ w'.cell? ⟨w1.heap.size, 1, none⟩ = some (.slice qo ql qc) ∧ w'.cell? ⟨w1.heap.size + 1, 0, none⟩ = some (.bool nr) ∧ w'.cell? ⟨w1.heap.size + 1, 1, none⟩ = some (.slice ro rl rc) ∧ w'.cell? ⟨w.heap.size + 1, 0, none⟩ = some (.bool ny) ∧ w'.cell? ⟨w.heap.size + 1, 1, none⟩ = some (.slice yo yl yc))
      (first
        | (with_reducible exact ⟨c60, c61, c70, c71, c30, c31⟩)
        | (with_reducible exact ⟨(two_cells h6.out).1, (two_cells h6.out).2.1, (two_cells h7.out).1, (two_cells h7.out).2.1, (two_cells h2.out).1, (two_cells h2.out).2.1⟩)
        | (simp [go_sem, s60, s61, s70, s71, s20, s21, m1, m2, m3, m4]; done))
      (first
        | (go_at_call 25; (with_reducible refine (smallR (-1) _ (by omega) (by omega)).mono ?_); rintro e w2 ⟨n5, o5, l5, k5, rfl, hl5, hS5, hkk⟩; have h6 := hid (heap_keep h6.out hkk); have h7 := hid (heap_keep h7.out hkk); have h2 := hid (heap_keep h2.out hkk); have h3 := hid (heap_keep h3.out hkk); have h4 := hid (heap_keep h4.out hkk); have hQ2 := hQ2.keep hkk; have hR2 := hR2.keep hkk; have hY2 := hY2.keep hkk; have hacc := hacc.trans (hkk.mono hacc.size))
        | (go_at_call 39; (with_reducible refine (sumR _ _ _ _ q _ _ _ _ (-1) _ hQ2 hS5 (by omega) (by omega)).mono ?_); rintro e w2 ⟨n3, o3, l3, k3, rfl, hl3, hS3, hkk⟩; have h6 := hid (heap_keep h6.out hkk); have h7 := hid (heap_keep h7.out hkk); have h2 := hid (heap_keep h2.out hkk); have h3 := hid (heap_keep h3.out hkk); have h4 := hid (heap_keep h4.out hkk); have hQ2 := hQ2.keep hkk; have hR2 := hR2.keep hkk; have hY2 := hY2.keep hkk; have hacc := hacc.trans (hkk.mono hacc.size))
        | (go_at_call 39; (with_reducible refine (sumR _ _ _ _ r _ _ _ _ vy _ hR2 hY2 (by omega) (by omega)).mono ?_); rintro e w2 ⟨n4, o4, l4, k4, rfl, hl4', hS4, hkk⟩; have h6 := hid (heap_keep h6.out hkk); have h7 := hid (heap_keep h7.out hkk); have h2 := hid (heap_keep h2.out hkk); have h3 := hid (heap_keep h3.out hkk); have h4 := hid (heap_keep h4.out hkk); have hQ2 := hQ2.keep hkk; have hR2 := hR2.keep hkk; have hY2 := hY2.keep hkk; have hacc := hacc.trans (hkk.mono hacc.size); have hS3 := hS3.keep hkk; obtain ⟨z30, z31, _, _⟩ := two_cells h3.out; obtain ⟨z40, z41, _, _⟩ := two_cells h4.out; obtain ⟨s60, s61, _, _⟩ := two_cells h6.out; obtain ⟨s70, s71, _, _⟩ := two_cells h7.out; obtain ⟨s20, s21, _, _⟩ := two_cells h2.out))
    all_goals
      have hsa := hacc.size
      go_wp2
      refine bodyPost_ret (v := .tuple #[.agg #[.bool n3, .slice o3 l3 k3], .agg #[.bool n4, .slice o4 l4 k4]]) (by simp [results, Tryd.results44, go_sem, z30, z31, z40, z41]) rfl ⟨_, _, _, _, _, _, _, _, _, _, rfl, ?_, ?_, HFL, ?_⟩
      · exact (hS3.other h3.out (by simp) (by simp) _ _).other (heap_set (heap_set h4.out (by simp)) (by simp)) (by simp) (by simp) _ _
      · exact (hS4.other h3.out (by simp) (by simp) _ _).other (heap_set (heap_set h4.out (by simp)) (by simp)) (by simp) (by simp) _ _
      · exact ((((hbv.trans (hacc.mono (by omega))).setCell (by simp; omega) _).setCell (by simp; omega) _).setCell (by simp; omega) _).setCell (by simp; omega) _
  · have HFL := hid (floor_trunc_same hT.out (by
      by_cases h : r = 0
      · exact .inl h
      · refine .inr ?_
        have h1 : nr = ny := by
          by_cases h2 : nr = ny
          · exact h2
          · exact absurd ⟨HRN.out.2 h, h2⟩ hup
        rw [HSR.out, HSY.out, decide_eq_decide] at h1
        exact h1))
    by_cases hu1 : 0 < rl
    · have hnn : nr = ny := by
        by_cases h2 : nr = ny
        · exact h2
        · exact absurd ⟨hu1, h2⟩ hup
      subst hnn
      have d1 : (nr != nr) = false := by simp
      have d2 : (!nr == nr) = false := by cases nr <;> rfl
      have d3 : (nr == nr) = true := by simp
      clear hup
      go_wp2_with fail
      go_region
      go_wp2
      refine bodyPost_ret (v := .tuple #[.agg #[.bool nq, .slice qo ql qc], .agg #[.bool nr, .slice ro rl rc]]) (by simp [results, Tryd.results44, go_sem, e40, e41, e50, e51]) rfl ⟨_, _, _, _, _, _, _, _, _, _, rfl, ?_, ?_, HFL, ?_⟩
      · exact ((hQ2.other V3.out (by simp) (by simp) _ _).other (heap_set (heap_set V4.out (by simp)) (by simp)) (by simp) (by simp) _ _).drew
      · exact ((hR2.other V3.out (by simp) (by simp) _ _).other (heap_set (heap_set V4.out (by simp)) (by simp)) (by simp) (by simp) _ _).drew
      · exact ((((hbv.setCell (by simp; omega) _).setCell (by simp; omega) _).setCell (by simp; omega) _).setCell (by simp; omega) _).drew
    · clear hup
      go_wp2_with fail
      go_region
      go_wp2
      refine bodyPost_ret (v := .tuple #[.agg #[.bool nq, .slice qo ql qc], .agg #[.bool nr, .slice ro rl rc]]) (by simp [results, Tryd.results44, go_sem, e40, e41, e50, e51]) rfl ⟨_, _, _, _, _, _, _, _, _, _, rfl, ?_, ?_, HFL, ?_⟩
      · exact ((hQ2.other V3.out (by simp) (by simp) _ _).other (heap_set (heap_set V4.out (by simp)) (by simp)) (by simp) (by simp) _ _).drew
      · exact ((hR2.other V3.out (by simp) (by simp) _ _).other (heap_set (heap_set V4.out (by simp)) (by simp)) (by simp) (by simp) _ _).drew
      · exact ((((hbv.setCell (by simp; omega) _).setCell (by simp; omega) _).setCell (by simp; omega) _).setCell (by simp; omega) _).drew
end Go.Proofs.YtldafoojkimdeaaDoor

namespace Go.Proofs.YtldafoojkimdeaaDoor
open Go.RowKit Lm

/-- The slice lies in a block of limbs. -/
def U32 (w : World) (ao : Option Addr) : Prop := ∀ a, ao = some a → ∃ L, Rw w a.block L
def Disj (a b : Option Addr) : Prop := ∀ x y, a = some x → b = some y → x.block ≠ y.block
theorem Disj.symm {a b : Option Addr} (h : Disj a b) : Disj b a := fun x y hx hy => (h y x hy hx).symm
theorem AnsE.u32 {B : Nat} {w : World} {n : Bool} {ao : Option Addr} {len : Nat} {c e v : Int} (h : AnsE B w n ao len c e v) : U32 w ao := by
  intro a ha
  rcases h with ⟨_, _, _, h, _⟩ | ⟨_, ⟨_, _, L, _, _, h, _⟩ | ⟨_, _, _, h, _⟩⟩
  · rw [h] at ha; cases ha
  · rcases h with ⟨_, h, _⟩ | ⟨_, _, g, _, h, hR⟩
    · rw [h] at ha; cases ha
    · rw [h] at ha; cases ha; exact ⟨L, hR⟩
  · rw [h] at ha; cases ha
theorem U32.lt {w : World} {ao : Option Addr} (h : U32 w ao) : ∀ a, ao = some a → a.block < w.heap.size := fun a ha => (h a ha).elim fun _ hR => hR.lt
theorem U32.pair {w : World} {ao : Option Addr} (h : U32 w ao) {g : Nat} {t : TypeId} {x y : Value} (hp : Pr w g t x y) (ht : t ≠ 43) : Apart ao g := by
  intro a ha e
  obtain ⟨L, hR⟩ := h a ha
  have h1 := hR.block
  rw [← e] at h1
  have := Option.some.inj (hp.symm.trans h1)
  simp only [Obj.cells.injEq] at this
  exact ht this.2.1
theorem Pr.keepA {w w' : World} {g : Nat} {t : TypeId} {x y : Value} {ao : Option Addr} (h : Pr w g t x y) (ht : t ≠ 43) (hu : U32 w ao) (hs : ∀ b, b < w.heap.size → Apart ao b → w'.heap[b]? = w.heap[b]?) : Pr w' g t x y :=
  (hs g h.lt (hu.pair h ht)).trans h
theorem Big.keepA {w w' : World} {n : Bool} {o : Option Addr} {l c : Nat} {v : Int} {ao : Option Addr} (h : Big w n o l c v) (hu : U32 w ao) (hs : ∀ b, b < w.heap.size → Apart ao b → w'.heap[b]? = w.heap[b]?) : Big w' n o l c v := by
  obtain ⟨L, hR, r⟩ := h
  refine ⟨L, ⟨hR.size, hR.room, hR.most, fun h0 => ?_⟩, r⟩
  obtain ⟨b, off, e, hc⟩ := hR.cells h0
  refine ⟨b, off, e, fun i hi => ?_⟩
  have h1 := hc i hi
  have hb : b < w.heap.size := World.block_lt_of_cell? w _ h1
  have hap : Apart ao b := by
    intro a ha e
    obtain ⟨M, hM⟩ := hu a ha
    have h2 := hM.block
    rw [← e] at h2
    simp only [World.cell?, h2] at h1
    have h3 : (u32s M)[off + i]? = some (.int .i64 (dg L i : Int)) := by simpa using h1
    by_cases hi2 : off + i < M.length
    · rw [u32s_get M _ hi2] at h3; simp at h3
    · rw [Array.getElem?_eq_none (by rw [u32s_size]; omega)] at h3; cases h3
  have h4 := hs b hb hap
  simp only [World.cell?, h4]
  simpa only [World.cell?] using h1

/-- An answer and the variable's block that holds it. -/
structure Aw (B : Nat) (w : World) (g : Nat) (n : Bool) (ao : Option Addr) (len : Nat) (c e v : Int) : Prop where
  box : Pr w g 24 (.bool n) (.slice ao len len)
  ans : AnsE B w n ao len c e v
theorem Aw.keep {B : Nat} {w w' : World} {g : Nat} {n : Bool} {ao : Option Addr} {len : Nat} {c e v : Int} (h : Aw B w g n ao len c e v) (hb : Below w.heap.size w w') : Aw B w' g n ao len c e v :=
  ⟨h.box.keep hb, h.ans.same fun a ha => hb.block _ (h.ans.u32.lt a ha)⟩
theorem Aw.alloc {B : Nat} {w : World} {g : Nat} {n : Bool} {ao : Option Addr} {len : Nat} {c e v : Int} (h : Aw B w g n ao len c e v) (o : Obj) : Aw B (w.alloc o) g n ao len c e v := h.keep ((Below.refl _ _).alloc (Nat.le_refl _) _)
theorem Aw.drew {B : Nat} {w : World} {g : Nat} {n : Bool} {ao : Option Addr} {len : Nat} {c e v : Int} (h : Aw B w g n ao len c e v) : Aw B w.drew g n ao len c e v := h.keep (Below.refl _ _).drew
theorem Aw.keepA {B : Nat} {w w' : World} {g : Nat} {n : Bool} {ao ao' : Option Addr} {len : Nat} {c e v : Int} (h : Aw B w g n ao len c e v) (hu : U32 w ao') (hs : ∀ b, b < w.heap.size → Apart ao' b → w'.heap[b]? = w.heap[b]?) (hd : Disj ao' ao) : Aw B w' g n ao len c e v :=
  ⟨h.box.keepA (by decide) hu hs, h.ans.same fun a ha => hs _ (h.ans.u32.lt a ha) fun a' ha' => (hd a' a ha' ha).symm⟩
theorem Aw.apart {B : Nat} {w : World} {g : Nat} {n : Bool} {ao : Option Addr} {len : Nat} {c e v : Int} (h : Aw B w g n ao len c e v) : Apart ao g := h.ans.u32.pair h.box (by decide)
theorem Aw.new {B : Nat} {w' : World} {n : Bool} {ao : Option Addr} {len : Nat} {c e v : Int} (h : AnsE B w' n ao len c e v) :
    Aw B (w'.alloc (.cells #[.bool n, .slice ao len len] 24)) w'.heap.size n ao len c e v :=
  ⟨Pr.new _ _ _ _, h.same fun a ha => Below.heap_alloc _ _ _ (h.u32.lt a ha)⟩
theorem Aw.new2 {B : Nat} {w' : World} {o : Obj} {n : Bool} {ao : Option Addr} {len : Nat} {c e v : Int} (h : AnsE B w' n ao len c e v) :
    Aw B ((w'.alloc o).alloc (.cells #[.bool n, .slice ao len len] 24)) (w'.heap.size + 1) n ao len c e v := by
  have h1 : AnsE B (w'.alloc o) n ao len c e v := h.same fun a ha => Below.heap_alloc _ _ _ (h.u32.lt a ha)
  have := Aw.new h1
  simpa only [World.size_alloc] using this
theorem new4 {w wz : World} {o1 o2 o3 o4 : Obj} (hz : wz = (((w.alloc o1).alloc o2).alloc o3).alloc o4) : wz.heap[w.heap.size]? = some o1 ∧ wz.heap[w.heap.size + 1]? = some o2 ∧ wz.heap[w.heap.size + 2]? = some o3 ∧ wz.heap[w.heap.size + 3]? = some o4 ∧ Below w.heap.size w wz ∧ w.heap.size + 4 ≤ wz.heap.size := by
  obtain ⟨h1, h2, h3, h4, h5⟩ := new3 (wz := ((w.alloc o1).alloc o2).alloc o3) rfl
  subst hz
  refine ⟨hpS _ h1, hpS _ h2, hpS _ h3, ?_, h4.alloc h4.size _, by simp⟩
  have := heap_alloc_new (((w.alloc o1).alloc o2).alloc o3) o4
  simpa using this
theorem Disj.later {B B' : Nat} {w w' : World} {n m : Bool} {ao bo : Option Addr} {len lem : Nat} {c e v c' e' v' : Int} (h : AnsE B w n ao len c e v) (k : AnsO B' w w' m bo lem c' e' v') : Disj ao bo :=
  fun x y hx hy => by have := h.u32.lt x hx; have := (k.2 y hy).1; omega

/-! ### One quotient, one remainder -/
theorem mul_small {x b : Int} (h : (x * b).natAbs < b.natAbs) : x = 0 := by
  by_cases hx : x = 0
  · exact hx
  · have := mul_ge b x hx
    rw [Int.mul_comm] at this; omega
theorem trunc_one {a b q r q' r' : Int} (h : TruncDiv a b q r) (k : TruncDiv a b q' r') : q' = q ∧ r' = r := by
  obtain ⟨e, h1, h2, h3⟩ := h
  obtain ⟨e', k1, k2, k3⟩ := k
  have hd : (q - q') * b = r' - r := by rw [Int.sub_mul]; omega
  have hz : q - q' = 0 := mul_small (b := b) (by rw [hd]; rcases Int.lt_or_le a 0 with x | x <;> omega)
  rw [hz, Int.zero_mul] at hd
  omega
theorem floors_one {a b q r q' r' : Int} (h : Floors a b q r) (k : Floors a b q' r') : q' = q ∧ r' = r := by
  obtain ⟨e, h1, h2, h3⟩ := h
  obtain ⟨e', k1, k2, k3⟩ := k
  have hd : (q - q') * b = r' - r := by rw [Int.sub_mul]; omega
  have hz : q - q' = 0 := mul_small (b := b) (by rw [hd]; rcases Int.lt_or_le b 0 with x | x <;> omega)
  rw [hz, Int.zero_mul] at hd
  omega
theorem trunc_le {a b q r : Int} (h0 : b ≠ 0) (h : TruncDiv a b q r) : q.natAbs ≤ a.natAbs ∧ r.natAbs ≤ b.natAbs := by
  obtain ⟨e, h1, h2, h3⟩ := h
  have h4 := mul_ge q b h0
  refine ⟨?_, by omega⟩
  have hs : ((q * b).natAbs : Int) ≤ a.natAbs := by
    rcases Int.lt_or_le a 0 with x | x
    · have := h3 (by omega)
      have hle : a ≤ r := by
        rcases Int.lt_or_le r a with y | y
        · -- the rest would be longer than what is divided
          exfalso
          have hq : (q * b).natAbs < b.natAbs := by omega
          have := mul_small hq
          subst this; omega
        · exact y
      omega
    · have := h2 x
      have hle : r ≤ a := by
        rcases Int.lt_or_le a r with y | y
        · exfalso
          have hq : (q * b).natAbs < b.natAbs := by omega
          have := mul_small hq
          subst this; omega
        · exact y
      omega
  omega
theorem floors_le {a b q r : Int} (h0 : b ≠ 0) (h : Floors a b q r) : q.natAbs ≤ a.natAbs ∧ r.natAbs ≤ b.natAbs := by
  obtain ⟨e, h1, h2, h3⟩ := h
  refine ⟨?_, by omega⟩
  rcases Int.lt_or_le b 0 with x | x
  · rcases Nat.lt_or_ge a.natAbs q.natAbs with y | y
    · exfalso
      rcases Int.lt_or_le q 0 with z | z
      · have : (-q - 1) * (-b) ≥ (-q - 1) * 1 := Int.mul_le_mul_of_nonneg_left (by omega) (by omega)
        rw [Int.sub_mul, Int.neg_mul_neg] at this
        have := h2 (by omega); omega
      · have : q * (-b) ≥ q * 1 := Int.mul_le_mul_of_nonneg_left (by omega) (by omega)
        rw [Int.mul_neg] at this
        have := h2 (by omega); omega
    · exact y
  · rcases Nat.lt_or_ge a.natAbs q.natAbs with y | y
    · exfalso
      rcases Int.lt_or_le q 0 with z | z
      · have : (-q - 1) * b ≥ (-q - 1) * 1 := Int.mul_le_mul_of_nonneg_left (by omega) (by omega)
        rw [Int.sub_mul, Int.neg_mul] at this
        have := h3 (by omega); omega
      · have : q * b ≥ q * 1 := Int.mul_le_mul_of_nonneg_left (by omega) (by omega)
        have := h3 (by omega); omega
    · exact y
theorem bl_mono {x y : Nat} (h : x ≤ y) : bl x ≤ bl y := (bl_le _ _).2 (Nat.lt_of_le_of_lt h ((bl_le y (bl y)).1 (Nat.le_refl _)))

theorem quoRemE {B0 : Nat} {na : Bool} {aa : Option Addr} {la ca : Nat} {A : List Nat} {nb : Bool} {ab : Option Addr} {lb cb : Nat} {B : List Nat} {va vb e : Int} {w : World} (hA : Rd w aa la ca A) (hB : Rd w ab lb cb B) (ea : num na A = va) (eb : num nb B = vb) (he : e = if tooLong A || tooLong B then 10 else if vb = 0 then 11 else 0) (h0 : B0 ≤ w.heap.size) :
    Calls Tryd.prog 41 #[.agg #[.bool na, .slice aa la ca], .agg #[.bool nb, .slice ab lb cb]] w fun r w' => ∃ n ao len m bo lem c q s, r = .returned (.tuple #[.agg #[.bool n, .slice ao len len], .agg #[.bool m, .slice bo lem lem], .int .i64 c]) ∧ AnsO B0 w w' n ao len c e q ∧ AnsO B0 w w' m bo lem c e s ∧ Disj ao bo ∧ Hid (e = 0 → TruncDiv va vb q s) ∧ Below w.heap.size w w' := by
  by_cases hf : (tooLong A || tooLong B) = true ∨ val B = 0
  · refine (quoRem_fail na aa la ca A nb ab lb cb B w hA hB hf).mono ?_
    rintro r w' ⟨rfl, hb⟩
    have hv : (val B = 0) ↔ vb = 0 := by rw [val_of_num eb]; omega
    have hc : e = if (tooLong A || tooLong B) = true then 10 else 11 := by
      rw [he]; rcases hf with h | h
      · rw [if_pos h, if_pos h]
      · rw [if_pos (hv.1 h)]
    have hne : e ≠ 0 := by rw [hc]; split <;> decide
    rw [← hc]
    exact ⟨_, _, _, _, _, _, _, 0, 0, rfl, ⟨.inl ⟨hne, rfl, rfl, rfl, rfl⟩, fun a h => by cases h⟩, ⟨.inl ⟨hne, rfl, rfl, rfl, rfl⟩, fun a h => by cases h⟩, (fun x y hx _ => by cases hx), hid (fun h => absurd h hne), hb⟩
  · have hb1 : (tooLong A || tooLong B) = false := by
      cases h : (tooLong A || tooLong B)
      · rfl
      · exact absurd (.inl h) hf
    have hb2 : 0 < val B := Nat.pos_of_ne_zero fun h => hf (.inr h)
    refine (quoRem_apart na aa la ca A nb ab lb cb B w hA hB hb1 hb2).mono ?_
    rintro r w' ⟨n, ao, len, m, bo, lem, q, s, rfl, h1, h2, h3, h4, h5⟩
    have hv : vb ≠ 0 := by have := val_of_num eb; omega
    have he0 : e = 0 := by rw [he, hb1, if_neg (by decide), if_neg hv]
    rw [ea, eb] at h4
    have hle := trunc_le hv h4
    simp only [Bool.or_eq_false_iff, tooLong, decide_eq_false_iff_not] at hb1
    rw [val_of_num ea, val_of_num eb] at hb1
    have k1 := bl_mono hle.1
    have k2 := bl_mono hle.2
    exact ⟨_, _, _, _, _, _, _, q, s, rfl, ⟨.inr ⟨he0, .inl ⟨by omega, rfl, h1.mono h0⟩⟩, fun a ha => (h1.own a ha).symm⟩, ⟨.inr ⟨he0, .inl ⟨by omega, rfl, h2.mono h0⟩⟩, fun a ha => (h2.own a ha).symm⟩, h3, hid (fun _ => h4), h5⟩
theorem floor_floors {a b q r : Int} {n : Bool} {B : List Nat} (eb : num n B = b) (h : FloorDiv a b q r n) : Floors a b q r := by
  obtain ⟨k1, k2, k3, k4⟩ := h
  refine ⟨k1, k2, ?_, ?_⟩
  · intro hb
    cases n with
    | true => exact k3 rfl
    | false => unfold num at eb; simp only [Bool.false_eq_true, if_false] at eb; omega
  · intro hb
    cases n with
    | true => unfold num at eb; simp only [if_true] at eb; omega
    | false => exact k4 rfl
theorem divModE {B0 : Nat} {na : Bool} {aa : Option Addr} {la ca : Nat} {A : List Nat} {nb : Bool} {ab : Option Addr} {lb cb : Nat} {B : List Nat} {va vb e : Int} {w : World} (hA : Rd w aa la ca A) (hB : Rd w ab lb cb B) (ea : num na A = va) (eb : num nb B = vb) (he : e = if tooLong A || tooLong B then 10 else if vb = 0 then 11 else 0) (h0 : B0 ≤ w.heap.size) :
    Calls Tryd.prog 42 #[.agg #[.bool na, .slice aa la ca], .agg #[.bool nb, .slice ab lb cb]] w fun r w' => ∃ n ao len m bo lem c q s, r = .returned (.tuple #[.agg #[.bool n, .slice ao len len], .agg #[.bool m, .slice bo lem lem], .int .i64 c]) ∧ AnsO B0 w w' n ao len c e q ∧ AnsO B0 w w' m bo lem c e s ∧ Disj ao bo ∧ Hid (e = 0 → Floors va vb q s) ∧ Below w.heap.size w w' := by
  by_cases hf : (tooLong A || tooLong B) = true ∨ val B = 0
  · refine (divMod_fail na aa la ca A nb ab lb cb B w hA hB hf).mono ?_
    rintro r w' ⟨rfl, hb⟩
    have hv : (val B = 0) ↔ vb = 0 := by rw [val_of_num eb]; omega
    have hc : e = if (tooLong A || tooLong B) = true then 10 else 11 := by
      rw [he]; rcases hf with h | h
      · rw [if_pos h, if_pos h]
      · rw [if_pos (hv.1 h)]
    have hne : e ≠ 0 := by rw [hc]; split <;> decide
    rw [← hc]
    exact ⟨_, _, _, _, _, _, _, 0, 0, rfl, ⟨.inl ⟨hne, rfl, rfl, rfl, rfl⟩, fun a h => by cases h⟩, ⟨.inl ⟨hne, rfl, rfl, rfl, rfl⟩, fun a h => by cases h⟩, (fun x y hx _ => by cases hx), hid (fun h => absurd h hne), hb⟩
  · have hb1 : (tooLong A || tooLong B) = false := by
      cases h : (tooLong A || tooLong B)
      · rfl
      · exact absurd (.inl h) hf
    have hb2 : 0 < val B := Nat.pos_of_ne_zero fun h => hf (.inr h)
    refine (divMod_apart na aa la ca A nb ab lb cb B w hA hB hb1 hb2).mono ?_
    rintro r w' ⟨n, ao, len, m, bo, lem, q, s, rfl, h1, h2, h3, h4, h5⟩
    have hv : vb ≠ 0 := by have := val_of_num eb; omega
    have he0 : e = 0 := by rw [he, hb1, if_neg (by decide), if_neg hv]
    rw [ea, eb] at h4
    have h4' := floor_floors eb h4
    have hle := floors_le hv h4'
    simp only [Bool.or_eq_false_iff, tooLong, decide_eq_false_iff_not] at hb1
    rw [val_of_num ea, val_of_num eb] at hb1
    have k1 := bl_mono hle.1
    have k2 := bl_mono hle.2
    exact ⟨_, _, _, _, _, _, _, q, s, rfl, ⟨.inr ⟨he0, .inl ⟨by omega, rfl, h1.mono h0⟩⟩, fun a ha => (h1.own a ha).symm⟩, ⟨.inr ⟨he0, .inl ⟨by omega, rfl, h2.mono h0⟩⟩, fun a ha => (h2.own a ha).symm⟩, h3, hid (fun _ => h4'), h5⟩
end Go.Proofs.YtldafoojkimdeaaDoor
