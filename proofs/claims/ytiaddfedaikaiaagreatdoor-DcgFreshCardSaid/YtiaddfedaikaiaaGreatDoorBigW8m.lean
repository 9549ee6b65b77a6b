/- Walks: bits; give, fit and the small functions upon them. Walks: give, fit. Walks: fit, Sign, Bits, Cmp. -/
import Derived.Test.YtiaddfedaikaiaaGreatDoorBigW1
import Derived.Test.YtiaddfedaikaiaaGreatDoorShelf
import Derived.Deep.QuietTactic
import Derived.BigQuiet
namespace Go.Proofs.YtiaddfedaikaiaaGreatDoor
open Go.RowKit Lm

theorem bl_half (x : Nat) (h : x ≠ 0) : bl x = 1 + bl (x / 2) := by
  have h1 := (bl_le (x / 2) (bl (x / 2))).1 (Nat.le_refl _)
  apply bl_unique
  · rw [Nat.add_comm, Nat.pow_succ]; omega
  · by_cases h2 : x / 2 = 0
    · have : bl (x / 2) = 0 := by rw [h2]; rfl
      rw [this]; simp; omega
    · have hp : bl (x / 2) ≠ 0 := by unfold bl; rw [if_neg h2]; omega
      have h3 := mt (bl_le (x / 2) (bl (x / 2) - 1)).2 (by omega)
      have e : 2 ^ (1 + bl (x / 2)) = 2 * (2 * 2 ^ (bl (x / 2) - 1)) := by rw [← Nat.pow_succ', ← Nat.pow_succ']; congr 1; omega
      rw [e]; omega
theorem bl_aux (f : Nat) : ∀ x : Nat, x < 2 ^ f → Lib.bitLenAux f x = bl x := by
  induction f with
  | zero => intro x h; have : x = 0 := by simpa using h
            subst this; rfl
  | succ f ih =>
    intro x h
    rw [Lib.bitLenAux]
    split
    · rename_i h0; subst h0; rfl
    · rename_i h0; rw [ih (x / 2) (by rw [Nat.pow_succ] at h; omega), bl_half x h0]
theorem bl_lib (n : Nat) (h : n < 18446744073709551616) : Lib.bitLen n = bl n := bl_aux 64 n h

theorem len32_any (x : Nat) (w : World) (h : x < 4294967296) :
    Calls Tryz.prog 204 #[.int .u32 (x : Int)] w fun e w' => e = .returned (.int .i64 (bl x : Int)) ∧ w = w' := by
  refine (Tryz.bits_Len32 _ w (by omega) (by omega)).mono ?_
  rintro e w' ⟨rfl, rfl⟩
  rw [← bl_lib x (by omega)]; exact ⟨by simp, rfl⟩
theorem bl_32 (x : Nat) (h : x < 4294967296) : bl x ≤ 32 := (bl_le x 32).2 (by simpa using h)

set_option maxHeartbeats 400000 in
theorem bitsOf_any (ao : Option Addr) (len cap : Nat) (A : List Nat) (w : World) (h : Rd w ao len cap A) (ht : Top A) :
    Calls Tryz.prog 195 #[.slice ao len cap] w fun e w' => e = .returned (.int .i64 (bl (val A) : Int)) ∧ w = w' := by
  have hl := h.size
  have hr := h.room
  have hm := h.most
  have hb := bl_dg h.ok ht
  cases len with
  | zero =>
    have e : bl (val A) = 0 := by rw [List.eq_nil_of_length_eq_zero hl]; rfl
    rw [e]; clear e hl
    go_enter Tryz.func195, Tryz.ntmps195
    go_wp2
    go_ret
    exact ⟨rfl, rfl⟩
  | succ m =>
    obtain ⟨b, off, rfl, hc⟩ := h.cells (by omega)
    have hcm := hc m (by omega)
    have hx := h.ok.dg m
    have hx2 := bl_32 _ hx
    have hlast := hid (hb (by intro e; subst e; simp at hl))
    have HL := hid hl
    clear hl hb hc h ht
    go_enter Tryz.func195, Tryz.ntmps195
    go_wp2_with (go_at_call 204; refine (len32_any _ _ hx).mono ?_; rintro e w' ⟨rfl, rfl⟩)
    go_ret
    refine ⟨?_, rfl⟩
    rw [hlast.out, HL.out]
    exact congrArg (fun z => Ending.returned (.int .i64 z)) (by simp)
end Go.Proofs.YtiaddfedaikaiaaGreatDoor

namespace Go.Proofs.YtiaddfedaikaiaaGreatDoor
open Go.RowKit Lm

set_option maxRecDepth 100000 in
set_option maxHeartbeats 1000000 in
theorem give_any (n : Bool) (ao : Option Addr) (len cap : Nat) (A : List Nat) (w : World) (h : Rd w ao len cap A) :
    Calls Tryz.prog 197 #[.bool n, .slice ao len cap] w fun e w' => ∃ n' ao' len', e = .returned (.agg #[.bool n', .slice ao' len' len']) ∧ Num w.heap.size w' n' ao' len' (num n A) ∧ Below w.heap.size w w' := by
  obtain ⟨i0, hi, hz0, hz1, hz2⟩ := info_parts Tryz.info220
  have ht := h.tl
  have hm := ht.most
  have hr := ht.room
  have htop := tl_top A
  have htv := hid (num_tl n A)
  have hto := ht.ok
  by_cases h0 : tl A = []
  · have e0 : (tl A).length = 0 := by rw [h0]; rfl
    have H0 := hid h0; clear h0
    go_enter Tryz.func197, Tryz.ntmps197
    go_wp2_with (go_at_call 196; refine (trim_any _ _ _ A _ (h.alloc _)).mono ?_; rintro e w' ⟨rfl, rfl⟩)
    refine bodyPost_ret (v := .agg #[.bool false, .slice none 0 0]) (by simp [results, Tryz.results197, go_sem]) rfl ⟨false, none, 0, rfl, ?_, (Below.refl _ _).alloc (Nat.le_refl _) _⟩
    rw [← htv.out, H0.out, num_nil]
    exact Num.zero _ _
  · obtain ⟨m, hlen⟩ : ∃ m, (tl A).length = m + 1 := ⟨(tl A).length - 1, by have := List.length_pos_iff.2 h0; omega⟩
    have H0 := hid h0; clear h0
    have hR := ht.alloc (.cells #[.bool false, .slice none 0 0] 196)
    rw [hlen] at ht hR hr
    obtain ⟨b, off, rfl, hcA⟩ := ht.cells (by omega)
    have hcA' := hid hcA; clear hcA
    have HL := hid hlen
    have hsz2 : (Tryz.prog.info? 220).map (·.size) = some 1 := by rw [hi]; simp [hz1]
    have HSZ := hid hsz2; clear hsz2
    go_enter Tryz.func197, Tryz.ntmps197
    go_wp2_with (first
      | (go_at_call 196; refine (trim_any _ _ _ A _ (h.alloc _)).mono ?_; rintro e w' ⟨rfl, rfl⟩)
      | (at_make; refine wpList_make_full _ rfl _ _ 194 rfl w.heap.size 220 i0 (.int .u32 0) 1 Tryz.underlying194 hi hz0 hz1 .i64 .i64 _ _ (m + 1) rfl rfl (by omega) (by omega) ?c1 ?c2 ?c3 ?_))
    case c1 => rw [hz2]; omega
    case c2 => unfold maxLen; omega
    case c3 => simp
    intro w1 hown hgrow
    have hrow : Rw w1 (w.heap.size + 1) (List.replicate (m + 1) 0) := Rw.of_own hown (made_zeros _ _ (by omega))
    have hb1 : Below (w.heap.size + 1) (w.alloc (.cells #[.bool false, .slice none 0 0] 196)) w1 := (Below.refl _ _).grown hgrow (by simp) (by intro k hk; simp at hk)
    have hb0 : Below w.heap.size w w1 := ((Below.refl _ _).alloc (Nat.le_refl _) _).trans (hb1.mono (by omega))
    have hblk : w1.heap[w.heap.size]? = some (.cells #[.bool false, .slice none 0 0] 196 (0, 0)) := by rw [hb1.block _ (by omega)]; exact heap_alloc_new w _
    have Hblk := hid hblk
    clear hown hgrow hi hz0 hz1 hz2
    have hsrc : ∀ j v, ((tl A).map fun x : Nat => Value.int .u32 (x : Int))[j]? = some v → w1.cell? ((⟨b, off, none⟩ : Addr).add j) = some v := by
      intro j v hj
      have hj' : j < m + 1 := by
        have := (List.getElem?_eq_some_iff.1 hj).1
        rw [List.length_map, HL.out] at this; exact this
      rw [Addr.add_lit, ((hb0.cell (p := ⟨b, off + j, none⟩) (World.block_lt_of_cell? w _ (hcA'.out j hj'))).trans (hcA'.out j hj'))]
      have := u32s_get (tl A) j (by rw [HL.out]; exact hj')
      unfold u32s at this
      simp only [List.getElem?_toArray] at this
      rw [← this, hj]
    have Hsrc := hid hsrc
    clear hsrc hblk
    have Hpos : Hid (0 < ((tl A).map fun x : Nat => Value.int .u32 (x : Int)).length → (some (⟨w.heap.size + 1, 0, none⟩ : Addr)) = some ⟨w.heap.size + 1, 0, none⟩ ∧ ∃ ad, (some (⟨b, off, none⟩ : Addr)) = some ad ∧ ∀ j v, ((tl A).map fun x : Nat => Value.int .u32 (x : Int))[j]? = some v → w1.cell? (ad.add j) = some v) := hid (fun _ => ⟨rfl, _, rfl, Hsrc.out⟩)
    have Hrow : Hid (w1.heap[w.heap.size + 1]? = some (.cells ((List.replicate (m + 1) 0).map fun x : Nat => Value.int .u32 (x : Int)).toArray 220 (0, 0))) := hid hrow.block
    go_wp2_with (with_reducible refine wpList_copy_splice (o := ⟨some 17, _, _, _, _, _⟩) rfl (.tmp 15) (.tmp 16) 194 194 rfl 220 Tryz.underlying194 HSZ.out (some ⟨w.heap.size + 1, 0, none⟩) (some ⟨b, off, none⟩) (m + 1) (m + 1) (m + 1) cap ?e1 ?e2 (w.heap.size + 1) 0 ((List.replicate (m + 1) 0).map fun x : Nat => Value.int .u32 (x : Int)) 220 Hrow.out ((tl A).map fun x : Nat => Value.int .u32 (x : Int)) ?d1 Hpos.out ?d2 ?d3 (w.heap.size + 1) w1 (Below.refl _ _) (Nat.le_refl _) ?_)
    case d3 =>
      intro v hv
      rfl
    intro w2 hw2 hb2
    have hrow2 : Rw w2 (w.heap.size + 1) (tl A) := by
      refine ⟨?_⟩
      rw [hw2.out]
      simp [splice, u32s, HL.out]
    have hblk2 : w2.heap[w.heap.size]? = some (.cells #[.bool false, .slice none 0 0] 196 (0, 0)) := by rw [hb2.block _ (by omega)]; exact Hblk.out
    clear hw2 hrow hb1 Hsrc Hblk Hpos Hrow
    have hc0 : w2.cell? ⟨w.heap.size, 0, none⟩ = some (.bool false) := by simp [World.cell?, hblk2]
    have hc1 : w2.cell? ⟨w.heap.size, 1, none⟩ = some (.slice none 0 0) := by simp [World.cell?, hblk2]
    have hf0 : w2.frozen? ⟨w.heap.size, 0, none⟩ = false := by simp [World.frozen?, hblk2]
    have hf1 : w2.frozen? ⟨w.heap.size, 1, none⟩ = false := by simp [World.frozen?, hblk2]
    have Hblk2 := hid hblk2
    clear hblk2
    go_wp2
    have hB3 : Below (w.heap.size + 1) w2 w2 := Below.refl _ _
    refine bodyPost_ret (v := .agg #[.bool n, .slice (some ⟨w.heap.size + 1, 0, none⟩) (m + 1) (m + 1)]) (by simp [results, Tryz.results197, go_sem, hc0, hc1]) rfl ⟨n, _, _, rfl, ?_, ?_⟩
    · rw [← htv.out]
      exact ⟨tl A, hto, htop, .inr ⟨H0.out, HL.out.symm, _, by omega, rfl, (hrow2.other (by simp) _).other (by simp) _⟩, fun h => absurd h H0.out, rfl, by rw [HL.out]; omega⟩
    · exact ((hb0.trans (hb2.mono (by omega))).setCell (by simp) _).setCell (by simp) _
end Go.Proofs.YtiaddfedaikaiaaGreatDoor

namespace Go.Proofs.YtiaddfedaikaiaaGreatDoor
open Go.RowKit Lm

set_option maxRecDepth 100000 in
set_option maxHeartbeats 1000000 in
theorem fit_any (n : Bool) (ao : Option Addr) (len cap : Nat) (A : List Nat) (w : World) (h : Rd w ao len cap A) :
    Calls Tryz.prog 186 #[.bool n, .slice ao len cap] w fun e w' => ∃ n' ao' len' c, e = .returned (.tuple #[.agg #[.bool n', .slice ao' len' len'], .int .i64 c]) ∧ Fits w w' n' ao' len' c (num n A) ∧ Below w.heap.size w w' := by
  have HV := hid (num_abs n A)
  have HT := hid (tl_val A)
  by_cases hbl : bl (val A) ≤ 4096
  · have hbl' : bl (val (tl A)) ≤ 4096 := by rw [HT.out]; exact hbl
    go_enter Tryz.func186, Tryz.ntmps186
    go_wp2_with (first
      | (go_at_call 196; refine (trim_any _ _ _ A _ (h.alloc _)).mono ?_; rintro e w' ⟨rfl, rfl⟩)
      | (go_at_call 195; refine (bitsOf_any _ _ _ _ _ (h.alloc _).tl (tl_top A)).mono ?_; rintro e w' ⟨rfl, rfl⟩)
      | (go_at_call 197; refine (give_any _ _ _ _ A _ (h.alloc _)).mono ?_; rintro e w1 ⟨n', ao', len', rfl, hnum, hb⟩; obtain ⟨c0, c1, f0, f1⟩ := two_cells (blk_keep hb)))
    refine bodyPost_ret (v := .tuple #[.agg #[.bool n', .slice ao' len' len'], .int .i64 0]) (by simp [results, Tryz.results186, go_sem, c0, c1]) rfl ⟨_, _, _, _, rfl, ?_, ?_⟩
    · refine .inl ⟨by rw [HV.out]; exact hbl, rfl, ?_⟩
      exact ((hnum.set (by simp) _).set (by simp) _).mono (by simp)
    · exact ((balloc hb).setCell (by simp) _).setCell (by simp) _
  · have hbl' : ¬ bl (val (tl A)) ≤ 4096 := by rw [HT.out]; exact hbl
    go_enter Tryz.func186, Tryz.ntmps186
    go_wp2_with (first
      | (go_at_call 196; refine (trim_any _ _ _ A _ (h.alloc _)).mono ?_; rintro e w' ⟨rfl, rfl⟩)
      | (go_at_call 195; refine (bitsOf_any _ _ _ _ _ (h.alloc _).tl (tl_top A)).mono ?_; rintro e w' ⟨rfl, rfl⟩))
    refine bodyPost_ret (v := .tuple #[.agg #[.bool false, .slice none 0 0], .int .i64 10]) (by simp [results, Tryz.results186, go_sem]) rfl ⟨_, _, _, _, rfl, ?_, ?_⟩
    · exact .inr ⟨by rw [HV.out]; omega, rfl, rfl, rfl, rfl⟩
    · exact (Below.refl _ _).alloc (Nat.le_refl _) _

theorem balloc2 {w w1 : World} {o o2 : Obj} (hb : Below ((w.alloc o).alloc o2).heap.size ((w.alloc o).alloc o2) w1) : Below w.heap.size w w1 := balloc (balloc hb)
end Go.Proofs.YtiaddfedaikaiaaGreatDoor
