/- Walks: give, fit. Walks: comparing two lists of limbs. Walks: fit, Sign, Bits, Cmp. Walks: Cmp, long. Walks: long. Walks: add, Add, Sub. Walks: divideSmall. Walks: divide, by one limb; divideBoth. Walks: divideBoth where nothing is wrong. Walks: DivMod where nothing is wrong. -/
import Derived.Test.YtldafoojkimdeaaDoorDividesM1
import Derived.Deep.QuietTactic
import Derived.BigQuiet
import Derived.Deep.RegionHeld3
namespace Go.Proofs.YtldafoojkimdeaaDoor
open Go.RowKit Lm

set_option maxRecDepth 100000 in
set_option maxHeartbeats 1000000 in
theorem give_any (n : Bool) (ao : Option Addr) (len cap : Nat) (A : List Nat) (w : World) (h : Rd w ao len cap A) :
    Calls Tryd.prog 69 #[.bool n, .slice ao len cap] w fun e w' => ∃ n' ao' len', e = .returned (.agg #[.bool n', .slice ao' len' len']) ∧ Num w.heap.size w' n' ao' len' (num n A) ∧ Below w.heap.size w w' := by
  obtain ⟨i0, hi, hz0, hz1, hz2⟩ := info_parts Tryd.info43
  have ht := h.tl
  have hm := ht.most
  have hr := ht.room
  have htop := tl_top A
  have htv := hid (num_tl n A)
  have hto := ht.ok
  by_cases h0 : tl A = []
  · have e0 : (tl A).length = 0 := by rw [h0]; rfl
    have H0 := hid h0; clear h0
    go_enter Tryd.func69, Tryd.ntmps69
    go_wp2_with (go_at_call 71; refine (trim_any _ _ _ A _ (h.alloc _)).mono ?_; rintro e w' ⟨rfl, rfl⟩)
    refine bodyPost_ret (v := .agg #[.bool false, .slice none 0 0]) (by simp [results, Tryd.results69, go_sem]) rfl ⟨false, none, 0, rfl, ?_, (Below.refl _ _).alloc (Nat.le_refl _) _⟩
    rw [← htv.out, H0.out, num_nil]
    exact Num.zero _ _
  · obtain ⟨m, hlen⟩ : ∃ m, (tl A).length = m + 1 := ⟨(tl A).length - 1, by have := List.length_pos_iff.2 h0; omega⟩
    have H0 := hid h0; clear h0
    have hR := ht.alloc (.cells #[.bool false, .slice none 0 0] 24)
    rw [hlen] at ht hR hr
    obtain ⟨b, off, rfl, hcA⟩ := ht.cells (by omega)
    have hcA' := hid hcA; clear hcA
    have HL := hid hlen
    have hsz2 : (Tryd.prog.info? 43).map (·.size) = some 1 := by rw [hi]; simp [hz1]
    have HSZ := hid hsz2; clear hsz2
    go_enter Tryd.func69, Tryd.ntmps69
    go_wp2_with (first
      | (go_at_call 71; refine (trim_any _ _ _ A _ (h.alloc _)).mono ?_; rintro e w' ⟨rfl, rfl⟩)
      | (at_make; refine wpList_make_full _ rfl _ _ 22 rfl w.heap.size 43 i0 (.int .u32 0) 1 Tryd.underlying22 hi hz0 hz1 .i64 .i64 _ _ (m + 1) rfl rfl (by omega) (by omega) ?c1 ?c2 ?c3 ?_))
    case c1 => rw [hz2]; omega
    case c2 => unfold maxLen; omega
    case c3 => simp
    intro w1 hown hgrow
    have hrow : Rw w1 (w.heap.size + 1) (List.replicate (m + 1) 0) := Rw.of_own hown (made_zeros _ _ (by omega))
    have hb1 : Below (w.heap.size + 1) (w.alloc (.cells #[.bool false, .slice none 0 0] 24)) w1 := (Below.refl _ _).grown hgrow (by simp) (by intro k hk; simp at hk)
    have hb0 : Below w.heap.size w w1 := ((Below.refl _ _).alloc (Nat.le_refl _) _).trans (hb1.mono (by omega))
    have hblk : w1.heap[w.heap.size]? = some (.cells #[.bool false, .slice none 0 0] 24 (0, 0)) := by rw [hb1.block _ (by omega)]; exact heap_alloc_new w _
    have Hblk := hid hblk
    clear hown hgrow hi hz0 hz1 hz2
    have hsrc : ∀ j v, ((tl A).map fun x : Nat => Value.int .u32 (x : Int))[j]? = some v → w1.cell? ((⟨b, off, none⟩ : Addr).add j) = some v := by
      intro j v hj
      have hj' : j < m + 1 := by
        have := (List.getElem?_eq_some_iff.1 hj).1
        rw [List.length_map, HL.out] at this; exact this
      rw [Addr.add_lit, ((hb0.cell (p := ⟨b, off + j, none⟩) (World.block_lt_of_cell? w _ (hcA'.out j hj'))).trans (hcA'.out j hj'))]
      have := u32s_get (tl A) j (by rw [HL.out]; exact hj')
      unfold u32s at this
      simp only [List.getElem?_toArray] at this
      rw [← this, hj]
    have Hsrc := hid hsrc
    clear hsrc hblk
    have Hpos : Hid (0 < ((tl A).map fun x : Nat => Value.int .u32 (x : Int)).length → (some (⟨w.heap.size + 1, 0, none⟩ : Addr)) = some ⟨w.heap.size + 1, 0, none⟩ ∧ ∃ ad, (some (⟨b, off, none⟩ : Addr)) = some ad ∧ ∀ j v, ((tl A).map fun x : Nat => Value.int .u32 (x : Int))[j]? = some v → w1.cell? (ad.add j) = some v) := hid (fun _ => ⟨rfl, _, rfl, Hsrc.out⟩)
    have Hrow : Hid (w1.heap[w.heap.size + 1]? = some (.cells ((List.replicate (m + 1) 0).map fun x : Nat => Value.int .u32 (x : Int)).toArray 43 (0, 0))) := hid hrow.block
    go_wp2_with (with_reducible refine wpList_copy_splice (o := ⟨some 17, _, _, _, _, _⟩) rfl (.tmp 15) (.tmp 16) 22 22 rfl 43 Tryd.underlying22 HSZ.out (some ⟨w.heap.size + 1, 0, none⟩) (some ⟨b, off, none⟩) (m + 1) (m + 1) (m + 1) cap ?e1 ?e2 (w.heap.size + 1) 0 ((List.replicate (m + 1) 0).map fun x : Nat => Value.int .u32 (x : Int)) 43 Hrow.out ((tl A).map fun x : Nat => Value.int .u32 (x : Int)) ?d1 Hpos.out ?d2 ?d3 (w.heap.size + 1) w1 (Below.refl _ _) (Nat.le_refl _) ?_)
    case d3 =>
      intro v hv
      rfl
    intro w2 hw2 hb2
    have hrow2 : Rw w2 (w.heap.size + 1) (tl A) := by
      refine ⟨?_⟩
      rw [hw2.out]
      simp [splice, u32s, HL.out]
    have hblk2 : w2.heap[w.heap.size]? = some (.cells #[.bool false, .slice none 0 0] 24 (0, 0)) := by rw [hb2.block _ (by omega)]; exact Hblk.out
    clear hw2 hrow hb1 Hsrc Hblk Hpos Hrow
    have hc0 : w2.cell? ⟨w.heap.size, 0, none⟩ = some (.bool false) := by simp [World.cell?, hblk2]
    have hc1 : w2.cell? ⟨w.heap.size, 1, none⟩ = some (.slice none 0 0) := by simp [World.cell?, hblk2]
    have hf0 : w2.frozen? ⟨w.heap.size, 0, none⟩ = false := by simp [World.frozen?, hblk2]
    have hf1 : w2.frozen? ⟨w.heap.size, 1, none⟩ = false := by simp [World.frozen?, hblk2]
    have Hblk2 := hid hblk2
    clear hblk2
    go_wp2
    have hB3 : Below (w.heap.size + 1) w2 w2 := Below.refl _ _
    refine bodyPost_ret (v := .agg #[.bool n, .slice (some ⟨w.heap.size + 1, 0, none⟩) (m + 1) (m + 1)]) (by simp [results, Tryd.results69, go_sem, hc0, hc1]) rfl ⟨n, _, _, rfl, ?_, ?_⟩
    · rw [← htv.out]
      exact ⟨tl A, hto, htop, .inr ⟨H0.out, HL.out.symm, _, by omega, rfl, (hrow2.other (by simp) _).other (by simp) _⟩, fun h => absurd h H0.out, rfl, by rw [HL.out]; omega⟩
    · exact ((hb0.trans (hb2.mono (by omega))).setCell (by simp) _).setCell (by simp) _
end Go.Proofs.YtldafoojkimdeaaDoor

namespace Go.Proofs.YtldafoojkimdeaaDoor
open Go.RowKit Lm

theorem drew2 (w : World) (a b : Nat) : ∃ q, (w.drewN a).drewN b = w.drewN q := ⟨a + b, World.drewN_drewN _ _ _⟩
theorem drew3 (w : World) (a b c : Nat) : ∃ q, ((w.drewN a).drewN b).drewN c = w.drewN q := ⟨a + b + c, by rw [World.drewN_drewN, World.drewN_drewN, Nat.add_assoc]⟩

set_option maxRecDepth 100000 in
set_option maxHeartbeats 1000000 in
theorem compare_any (aa : Option Addr) (la ca : Nat) (A : List Nat) (ab : Option Addr) (lb cb : Nat) (B : List Nat) (w : World) (hA : Rd w aa la ca A) (hB : Rd w ab lb cb B) (tA : Top A) (tB : Top B) :
    Calls Tryd.prog 74 #[.slice aa la ca, .slice ab lb cb] w fun e w' => e = .returned (.int .i64 (cmp (val A) (val B))) ∧ ∃ q, w' = w.drewN q := by
  have hla := hid hA.size
  have hlb := hid hB.size
  have hm := hA.most
  have hm' := hB.most
  have hr := hA.room
  have hr' := hB.room
  rcases (show la < lb ∨ lb < la ∨ la = lb by omega) with hlt | hlt | rfl
  · have e : cmp (val A) (val B) = -1 := by
      have := top_length tB hA.ok (by rw [hla.out, hlb.out]; exact hlt)
      unfold cmp; rw [if_pos this]
    rw [e]; clear e
    go_enter Tryd.func74, Tryd.ntmps74
    go_wp2
    go_ret
    exact ⟨rfl, 0, rfl⟩
  · have e : cmp (val A) (val B) = 1 := by
      have := top_length tA hB.ok (by rw [hla.out, hlb.out]; exact hlt)
      unfold cmp; rw [if_neg (by omega), if_pos this]
    rw [e]; clear e
    go_enter Tryd.func74, Tryd.ntmps74
    go_wp2
    go_ret
    exact ⟨rfl, 0, rfl⟩
  · go_enter Tryd.func74, Tryd.ntmps74
    go_wp2
    go_loopw [5] (fun i wr => ∃ k : Nat, k ≤ la ∧ i = .int .i64 ((k : Int) - 1) ∧ Hid (∀ j, k ≤ j → j < la → dg A j = dg B j) ∧ ∃ q, wr = w.drewN q) (fun i _ => (intOf i + 1).toNat)
    case atStart => exact ⟨la, by omega, rfl, hid (by intro j h1 h2; omega), 0, rfl⟩
    case round =>
      obtain ⟨k, hk, rfl, hsame, q, rfl⟩ := hrel
      cases k with
      | zero =>
        have e : cmp (val A) (val B) = 0 := by
          have e := val_eq_above A B 0 (by rw [hla.out, hlb.out]) (by omega) (fun j h1 h2 => hsame.out j h1 (by rw [← hla.out]; exact h2))
          simp at e
          subst e; unfold cmp; simp
        have HE := hid e; clear e
        go_wp2
        go_ret
        exact ⟨by rw [HE.out]; rfl, q, rfl⟩
      | succ m =>
        obtain ⟨b, off, rfl, hc⟩ := hA.cells (by omega)
        obtain ⟨b', off', rfl, hc'⟩ := hB.cells (by omega)
        have hcell := hc m (by omega)
        have hcell' := hc' m (by omega)
        clear hc hc'
        have hi1 : (0 : Int) ≤ (m : Int) := by omega
        have hi2 : (m : Int) < (la : Int) := by omega
        rcases (show dg A m < dg B m ∨ dg B m < dg A m ∨ dg A m = dg B m by omega) with hlt | hlt | heq
        · have e : cmp (val A) (val B) = -1 := by
            have := cmp_at A B m hA.ok hB.ok (by rw [hla.out, hlb.out]) (by rw [hla.out]; omega) (fun j h1 h2 => hsame.out j h1 (by rw [← hla.out]; exact h2)) hlt
            unfold cmp; rw [if_pos this]
          have HE := hid e; clear e
          go_wp2
          go_quiet (fail)
          go_wp2
          go_ret
          exact ⟨by rw [HE.out]; rfl, drew2 _ _ _⟩
        · have e : cmp (val A) (val B) = 1 := by
            have := cmp_at B A m hB.ok hA.ok (by rw [hla.out, hlb.out]) (by rw [hlb.out]; omega) (fun j h1 h2 => (hsame.out j h1 (by rw [← hlb.out]; exact h2)).symm) hlt
            unfold cmp; rw [if_neg (by omega), if_pos this]
          have HE := hid e; clear e
          go_wp2
          go_quiet (fail)
          go_wp2
          go_quiet (fail)
          go_wp2
          go_ret
          exact ⟨by rw [HE.out]; rfl, drew3 _ _ _ _⟩
        · have h1 : ¬ dg A m < dg B m := by omega
          have h2 : ¬ dg B m < dg A m := by omega
          have HE := hid heq; clear heq
          go_wp2
          go_quiet (fail)
          go_wp2
          go_quiet (fail)
          go_wp2
          go_roundw
          case rel =>
            refine ⟨m, by omega, by go_num, hid ?_, _, rfl⟩
            intro j h1 h2
            by_cases hj : j = m
            · subst hj; exact HE.out
            · exact hsame.out j (by omega) h2
          case measure => simp [intOf]
end Go.Proofs.YtldafoojkimdeaaDoor

namespace Go.Proofs.YtldafoojkimdeaaDoor
open Go.RowKit Lm

set_option maxRecDepth 100000 in
set_option maxHeartbeats 1000000 in
theorem fit_any (n : Bool) (ao : Option Addr) (len cap : Nat) (A : List Nat) (w : World) (h : Rd w ao len cap A) :
    Calls Tryd.prog 78 #[.bool n, .slice ao len cap] w fun e w' => ∃ n' ao' len' c, e = .returned (.tuple #[.agg #[.bool n', .slice ao' len' len'], .int .i64 c]) ∧ Fits w w' n' ao' len' c (num n A) ∧ Below w.heap.size w w' := by
  have HV := hid (num_abs n A)
  have HT := hid (tl_val A)
  by_cases hbl : bl (val A) ≤ 4096
  · have hbl' : bl (val (tl A)) ≤ 4096 := by rw [HT.out]; exact hbl
    go_enter Tryd.func78, Tryd.ntmps78
    go_wp2_with (first
      | (go_at_call 71; refine (trim_any _ _ _ A _ (h.alloc _)).mono ?_; rintro e w' ⟨rfl, rfl⟩)
      | (go_at_call 75; refine (bitsOf_any _ _ _ _ _ (h.alloc _).tl (tl_top A)).mono ?_; rintro e w' ⟨rfl, rfl⟩)
      | (go_at_call 69; refine (give_any _ _ _ _ A _ (h.alloc _)).mono ?_; rintro e w1 ⟨n', ao', len', rfl, hnum, hb⟩; obtain ⟨c0, c1, f0, f1⟩ := two_cells (blk_keep hb)))
    refine bodyPost_ret (v := .tuple #[.agg #[.bool n', .slice ao' len' len'], .int .i64 0]) (by simp [results, Tryd.results78, go_sem, c0, c1]) rfl ⟨_, _, _, _, rfl, ?_, ?_⟩
    · refine .inl ⟨by rw [HV.out]; exact hbl, rfl, ?_⟩
      exact ((hnum.set (by simp) _).set (by simp) _).mono (by simp)
    · exact ((balloc hb).setCell (by simp) _).setCell (by simp) _
  · have hbl' : ¬ bl (val (tl A)) ≤ 4096 := by rw [HT.out]; exact hbl
    go_enter Tryd.func78, Tryd.ntmps78
    go_wp2_with (first
      | (go_at_call 71; refine (trim_any _ _ _ A _ (h.alloc _)).mono ?_; rintro e w' ⟨rfl, rfl⟩)
      | (go_at_call 75; refine (bitsOf_any _ _ _ _ _ (h.alloc _).tl (tl_top A)).mono ?_; rintro e w' ⟨rfl, rfl⟩))
    refine bodyPost_ret (v := .tuple #[.agg #[.bool false, .slice none 0 0], .int .i64 10]) (by simp [results, Tryd.results78, go_sem]) rfl ⟨_, _, _, _, rfl, ?_, ?_⟩
    · exact .inr ⟨by rw [HV.out]; omega, rfl, rfl, rfl, rfl⟩
    · exact (Below.refl _ _).alloc (Nat.le_refl _) _

theorem tl_nil (A : List Nat) : tl A = [] ↔ val A = 0 := by
  constructor
  · intro h; rw [← tl_val, h]; rfl
  · intro h; exact top_zero (tl_top A) (by rw [tl_val]; exact h)
theorem tl_len (A : List Nat) : (tl A).length = 0 ↔ val A = 0 := by rw [← tl_nil, List.length_eq_zero_iff]

set_option maxRecDepth 100000 in
set_option maxHeartbeats 1000000 in
theorem sign_any (n : Bool) (ao : Option Addr) (len cap : Nat) (A : List Nat) (w : World) (h : Rd w ao len cap A) :
    Calls Tryd.prog 28 #[.agg #[.bool n, .slice ao len cap]] w fun e w' => e = .returned (.int .i64 (num n A).sign) ∧ w.alloc (.cells #[.bool n, .slice ao len cap] 24) = w' := by
  by_cases h0 : val A = 0
  · have e : (num n A).sign = 0 := by unfold num; rw [h0]; cases n <;> rfl
    have hz := (tl_len A).2 h0
    rw [e]; clear e h0
    go_enter Tryd.func28, Tryd.ntmps28
    go_wp2_with (go_at_call 71; refine (trim_any _ _ _ A _ (h.alloc _)).mono ?_; rintro e w' ⟨rfl, rfl⟩)
    go_ret
    exact ⟨rfl, rfl⟩
  · have hz := mt (tl_len A).1 h0
    have hz' : (((tl A).length : Int) == 0) = false := by simp; exact fun e => hz (by rw [e]; rfl)
    cases n with
    | true =>
      have e : (num true A).sign = -1 := by
        show (-(val A : Int)).sign = -1
        rw [Int.sign_neg, Int.sign_eq_one_of_pos (by omega)]
      rw [e]; clear e
      go_enter Tryd.func28, Tryd.ntmps28
      go_wp2_with (go_at_call 71; refine (trim_any _ _ _ A _ (h.alloc _)).mono ?_; rintro e w' ⟨rfl, rfl⟩)
      go_ret
      exact ⟨rfl, rfl⟩
    | false =>
      have e : (num false A).sign = 1 := by
        show ((val A : Int)).sign = 1
        rw [Int.sign_eq_one_of_pos (by omega)]
      rw [e]; clear e
      go_enter Tryd.func28, Tryd.ntmps28
      go_wp2_with (go_at_call 71; refine (trim_any _ _ _ A _ (h.alloc _)).mono ?_; rintro e w' ⟨rfl, rfl⟩)
      go_ret
      exact ⟨rfl, rfl⟩

set_option maxRecDepth 100000 in
theorem bits_any (n : Bool) (ao : Option Addr) (len cap : Nat) (A : List Nat) (w : World) (h : Rd w ao len cap A) :
    Calls Tryd.prog 32 #[.agg #[.bool n, .slice ao len cap]] w fun e w' => e = .returned (.int .i64 (bl (val A) : Int)) ∧ Below w.heap.size w w' := by
  have HT := hid (tl_val A)
  go_enter Tryd.func32, Tryd.ntmps32
  go_wp2_with (first
    | (go_at_call 71; refine (trim_any _ _ _ A _ (h.alloc _)).mono ?_; rintro e w' ⟨rfl, rfl⟩)
    | (go_at_call 75; refine (bitsOf_any _ _ _ _ _ (h.alloc _).tl (tl_top A)).mono ?_; rintro e w' ⟨rfl, rfl⟩))
  go_ret
  exact ⟨by rw [HT.out]; rfl, (Below.refl _ _).alloc (Nat.le_refl _) _⟩

theorem balloc2 {w w1 : World} {o o2 : Obj} (hb : Below ((w.alloc o).alloc o2).heap.size ((w.alloc o).alloc o2) w1) : Below w.heap.size w w1 := balloc (balloc hb)
theorem blk_keep2 {w w1 : World} {o o2 : Obj} (hb : Below ((w.alloc o).alloc o2).heap.size ((w.alloc o).alloc o2) w1) : w1.heap[w.heap.size + 1]? = some o2 := by
  have := blk_keep (w := w.alloc o) hb; simpa using this

set_option maxRecDepth 100000 in
set_option maxHeartbeats 1000000 in
theorem norm_any (n : Bool) (ao : Option Addr) (len cap : Nat) (A : List Nat) (w : World) (h : Rd w ao len cap A) :
    Calls Tryd.prog 20 #[.agg #[.bool n, .slice ao len cap]] w fun e w' => ∃ n' ao' len', e = .returned (.agg #[.bool n', .slice ao' len' len']) ∧ Num w.heap.size w' n' ao' len' (num n A) ∧ Below w.heap.size w w' := by
  go_enter Tryd.func20, Tryd.ntmps20
  go_wp2_with (go_at_call 69; refine (give_any _ _ _ _ A _ ((h.alloc _).alloc _)).mono ?_; rintro e w1 ⟨n', ao', len', rfl, hnum, hb⟩; obtain ⟨c0, c1, f0, f1⟩ := two_cells (blk_keep2 hb))
  refine bodyPost_ret (v := .agg #[.bool n', .slice ao' len' len']) (by simp [results, Tryd.results20, go_sem, c0, c1]) rfl ⟨_, _, _, rfl, ?_, ?_⟩
  · exact ((hnum.set (by simp) _).set (by simp) _).mono (by simp; omega)
  · exact ((balloc2 hb).setCell (by simp) _).setCell (by simp) _

theorem num_not (n : Bool) (A : List Nat) : num (!n) A = -num n A := by unfold num; cases n <;> simp

set_option maxRecDepth 100000 in
set_option maxHeartbeats 1000000 in
theorem neg_any (n : Bool) (ao : Option Addr) (len cap : Nat) (A : List Nat) (w : World) (h : Rd w ao len cap A) :
    Calls Tryd.prog 22 #[.agg #[.bool n, .slice ao len cap]] w fun e w' => ∃ n' ao' len', e = .returned (.agg #[.bool n', .slice ao' len' len']) ∧ Num w.heap.size w' n' ao' len' (-num n A) ∧ Below w.heap.size w w' := by
  go_enter Tryd.func22, Tryd.ntmps22
  go_wp2_with (go_at_call 69; refine (give_any _ _ _ _ A _ ((h.alloc _).alloc _)).mono ?_; rintro e w1 ⟨n', ao', len', rfl, hnum, hb⟩; obtain ⟨c0, c1, f0, f1⟩ := two_cells (blk_keep2 hb))
  refine bodyPost_ret (v := .agg #[.bool n', .slice ao' len' len']) (by simp [results, Tryd.results22, go_sem, c0, c1]) rfl ⟨_, _, _, rfl, ?_, ?_⟩
  · rw [← num_not]; exact ((hnum.set (by simp) _).set (by simp) _).mono (by simp; omega)
  · exact ((balloc2 hb).setCell (by simp) _).setCell (by simp) _

end Go.Proofs.YtldafoojkimdeaaDoor

namespace Go.Proofs.YtldafoojkimdeaaDoor
open Go.RowKit Lm

theorem cmp_lt {na nb : Bool} {A B : List Nat} (h : (num na A).sign < (num nb B).sign) : (num na A - num nb B).sign = -1 := by
  apply Int.sign_eq_neg_one_of_neg
  have h1 := Int.sign_trichotomy (num na A)
  rcases Int.lt_trichotomy (num na A) 0 with h2 | h2 | h2 <;> rcases Int.lt_trichotomy (num nb B) 0 with h3 | h3 | h3 <;>
    simp only [Int.sign_eq_neg_one_of_neg, Int.sign_eq_one_of_pos, Int.sign_zero, h2, h3] at h <;> omega
theorem cmp_gt {na nb : Bool} {A B : List Nat} (h : (num nb B).sign < (num na A).sign) : (num na A - num nb B).sign = 1 := by
  have := cmp_lt h
  have e : num na A - num nb B = -(num nb B - num na A) := by omega
  rw [e, Int.sign_neg, this]; rfl
theorem cmp_eq {na nb : Bool} {A B : List Nat} (h : (num na A).sign = (num nb B).sign) : (num na A - num nb B).sign = (num na A).sign * cmp (val A) (val B) := by
  have hc : cmp (val A) (val B) = ((val A : Int) - (val B : Int)).sign := by
    unfold cmp
    split
    · rw [Int.sign_eq_neg_one_of_neg (by omega)]
    · split
      · rw [Int.sign_eq_one_of_pos (by omega)]
      · rw [show (val A : Int) - (val B : Int) = 0 by omega]; rfl
  rw [hc]
  unfold num at *
  by_cases ha : val A = 0
  · by_cases hb : val B = 0
    · rw [ha, hb]; cases na <;> cases nb <;> simp
    · rw [ha] at h ⊢
      exfalso
      have hp : ((val B : Nat) : Int).sign = 1 := Int.sign_eq_one_of_pos (by omega)
      cases na <;> cases nb <;> simp [hp] at h
  · by_cases hb : val B = 0
    · rw [hb] at h ⊢
      exfalso
      have hp : ((val A : Nat) : Int).sign = 1 := Int.sign_eq_one_of_pos (by omega)
      cases na <;> cases nb <;> simp [hp] at h
    · have hp : ((val A : Nat) : Int).sign = 1 := Int.sign_eq_one_of_pos (by omega)
      have hq : ((val B : Nat) : Int).sign = 1 := Int.sign_eq_one_of_pos (by omega)
      cases na <;> cases nb <;> simp only [Bool.false_eq_true, if_false, if_true, Int.sign_neg, hp, hq] at h ⊢
      · omega
      · omega
      · omega
      · rw [show -(val A : Int) - -(val B : Int) = -((val A : Int) - (val B : Int)) by omega, Int.sign_neg]; omega

theorem sign_num (n : Bool) (A : List Nat) : (num n A).sign = -1 ∨ (num n A).sign = 0 ∨ (num n A).sign = 1 := by
  rcases Int.lt_trichotomy (num n A) 0 with h | h | h
  · exact .inl (Int.sign_eq_neg_one_of_neg h)
  · rw [h]; exact .inr (.inl rfl)
  · exact .inr (.inr (Int.sign_eq_one_of_pos h))
theorem wrap_sign (s : Int) (a b : Nat) (h : s = -1 ∨ s = 0 ∨ s = 1) : wrap64 (s * cmp a b) = s * cmp a b := by
  have hc : cmp a b = -1 ∨ cmp a b = 0 ∨ cmp a b = 1 := by
    unfold cmp; split
    · exact .inl rfl
    · split
      · exact .inr (.inr rfl)
      · exact .inr (.inl rfl)
  rcases h with rfl | rfl | rfl <;> rcases hc with h | h | h <;> rw [h] <;> exact IntWalk.wrap64_in _ (by decide)

theorem trim_q (ao : Option Addr) (len cap : Nat) (A : List Nat) (w : World) (h : Rd w ao len cap A) :
    Calls Tryd.prog 71 #[.slice ao len cap] w fun e w' => e = .returned (.slice ao (tl A).length cap) ∧ w' = w :=
  (trim_any ao len cap A w h).mono fun _ _ h => ⟨h.1, h.2.symm⟩

set_option maxRecDepth 100000 in
set_option maxHeartbeats 1000000 in
theorem cmp_any (na : Bool) (aa : Option Addr) (la ca : Nat) (A : List Nat) (nb : Bool) (ab : Option Addr) (lb cb : Nat) (B : List Nat) (w : World) (hA : Rd w aa la ca A) (hB : Rd w ab lb cb B) :
    Calls Tryd.prog 30 #[.agg #[.bool na, .slice aa la ca], .agg #[.bool nb, .slice ab lb cb]] w fun e w' => e = .returned (.int .i64 (num na A - num nb B).sign) ∧ Below w.heap.size w w' := by
  go_enter Tryd.func30, Tryd.ntmps30
  go_wp2
  go_region_held3 (fun w' => w'.cell? ⟨w.heap.size, 0, none⟩ = some (.bool na) ∧ w'.cell? ⟨w.heap.size, 1, none⟩ = some (.slice aa la ca) ∧ w'.cell? ⟨w.heap.size + 1, 0, none⟩ = some (.bool nb) ∧ w'.cell? ⟨w.heap.size + 1, 1, none⟩ = some (.slice ab lb cb)) (simp [go_sem, World.cell?_alloc_past])
    (first
      | (go_at_call_of 28 (Value.agg #[.bool na, .slice aa la ca]); refine (sign_any _ _ _ _ A _ ?_).mono ?_; (repeat (first | exact hA | apply Rd.alloc | apply Rd.drew)); rintro e w' ⟨rfl, rfl⟩)
      | (go_at_call_of 28 (Value.agg #[.bool nb, .slice ab lb cb]); refine (sign_any _ _ _ _ B _ ?_).mono ?_; (repeat (first | exact hB | apply Rd.alloc | apply Rd.drew)); rintro e w' ⟨rfl, rfl⟩))
  have hA4 := ((((hA.alloc (.cells #[.bool na, .slice aa la ca] 24)).alloc (.cells #[.bool nb, .slice ab lb cb] 24)).alloc (.cells #[.bool na, .slice aa la ca] 24)).alloc (.cells #[.bool nb, .slice ab lb cb] 24)).drew
  have hB4 := ((((hB.alloc (.cells #[.bool na, .slice aa la ca] 24)).alloc (.cells #[.bool nb, .slice ab lb cb] 24)).alloc (.cells #[.bool na, .slice aa la ca] 24)).alloc (.cells #[.bool nb, .slice ab lb cb] 24)).drew
  have hBl : Below w.heap.size w ((((w.alloc (.cells #[.bool na, .slice aa la ca] 24)).alloc (.cells #[.bool nb, .slice ab lb cb] 24)).alloc (.cells #[.bool na, .slice aa la ca] 24)).alloc (.cells #[.bool nb, .slice ab lb cb] 24)).drew :=
    (((((Below.refl _ _).alloc (Nat.le_refl _) _).alloc (by simp) _).alloc (by simp; omega) _).alloc (by simp; omega) _).drew
  have c1 : ((((w.alloc (.cells #[.bool na, .slice aa la ca] 24)).alloc (.cells #[.bool nb, .slice ab lb cb] 24)).alloc (.cells #[.bool na, .slice aa la ca] 24)).alloc (.cells #[.bool nb, .slice ab lb cb] 24)).drew.cell? ⟨w.heap.size, 1, none⟩ = some (.slice aa la ca) := by simp [go_sem, World.cell?_alloc_past]
  have c2 : ((((w.alloc (.cells #[.bool na, .slice aa la ca] 24)).alloc (.cells #[.bool nb, .slice ab lb cb] 24)).alloc (.cells #[.bool na, .slice aa la ca] 24)).alloc (.cells #[.bool nb, .slice ab lb cb] 24)).drew.cell? ⟨w.heap.size + 1, 1, none⟩ = some (.slice ab lb cb) := by simp [go_sem, World.cell?_alloc_past]
  generalize ((((w.alloc (.cells #[.bool na, .slice aa la ca] 24)).alloc (.cells #[.bool nb, .slice ab lb cb] 24)).alloc (.cells #[.bool na, .slice aa la ca] 24)).alloc (.cells #[.bool nb, .slice ab lb cb] 24)).drew = wv at *
  have H1 := hid (cmp_lt (na := na) (nb := nb) (A := A) (B := B))
  have H2 := hid (cmp_gt (na := na) (nb := nb) (A := A) (B := B))
  have H3 := hid (cmp_eq (na := na) (nb := nb) (A := A) (B := B))
  have H4 := hid (sign_num na A)
  have HtA := hid (tl_val A)
  have HtB := hid (tl_val B)
  generalize hsA : (num na A).sign = sA at *
  generalize hsB : (num nb B).sign = sB at *
  clear hsA hsB
  rcases Int.lt_trichotomy sA sB with hlt | heq | hgt
  · have e := hid (H1.out hlt)
    go_wp2
    go_ret
    exact ⟨by rw [e.out]; rfl, hBl⟩
  · have e := hid (H3.out heq)
    have h1 : ¬ sA < sB := by omega
    have h2 : ¬ sB < sA := by omega
    clear heq
    go_wp2
    go_quiet (first
      | (go_at_call_of 71 (Value.slice aa la ca); go_must (refine Calls.quiet_of_same (trim_q _ _ _ A _ ?_); (repeat (first | exact hA4 | apply Rd.drewN | apply Rd.drew))))
      | (go_at_call_of 71 (Value.slice ab lb cb); go_must (refine Calls.quiet_of_same (trim_q _ _ _ B _ ?_); (repeat (first | exact hB4 | apply Rd.drewN | apply Rd.drew))))
      | (go_at_call 74; go_must (refine Calls.quiet_of (compare_any _ _ _ (tl A) _ _ _ (tl B) _ ?_ ?_ (tl_top A) (tl_top B)); (repeat (first | exact hA4.tl | apply Rd.drewN | apply Rd.drew)); (repeat (first | exact hB4.tl | apply Rd.drewN | apply Rd.drew)))))
    go_wp2
    go_ret
    refine ⟨?_, bdrew hBl _⟩
    show Ending.returned (.int .i64 (wrap64 (sA * cmp (val (tl A)) (val (tl B))))) = _
    rw [e.out, wrap_sign _ _ _ H4.out, HtA.out, HtB.out]
  · have e := hid (H2.out hgt)
    go_wp2
    go_ret
    exact ⟨by rw [e.out]; rfl, hBl⟩
end Go.Proofs.YtldafoojkimdeaaDoor

namespace Go.Proofs.YtldafoojkimdeaaDoor
open Go.RowKit Lm

/-- Too many bits. -/
def tooLong (A : List Nat) : Bool := decide (4096 < bl (val A))

set_option maxRecDepth 100000 in
set_option maxHeartbeats 1000000 in
theorem long2_any (g : Nat) (na : Bool) (aa : Option Addr) (la ca : Nat) (A : List Nat) (nb : Bool) (ab : Option Addr) (lb cb : Nat) (B : List Nat) (w : World) (hA : Rd w aa la ca A) (hB : Rd w ab lb cb B)
    (h0 : w.cell? ⟨g, 0, none⟩ = some (.bool na)) (h1 : w.cell? ⟨g, 1, none⟩ = some (.slice aa la ca)) (h2 : w.cell? ⟨g, 2, none⟩ = some (.bool nb)) (h3 : w.cell? ⟨g, 3, none⟩ = some (.slice ab lb cb)) :
    Calls Tryd.prog 77 #[.slice (some ⟨g, 0, none⟩) 2 2] w fun e w' => e = .returned (.bool (tooLong A || tooLong B)) ∧ Below w.heap.size w w' := by
  have hg := World.block_lt_of_cell? w _ h0
  simp only at hg
  go_enter Tryd.func77, Tryd.ntmps77
  go_wp2
  go_loopw [7] (fun i wr => ∃ k : Nat, k ≤ 2 ∧ i = .int .i64 (k : Int) ∧ Hid ((1 ≤ k → bl (val A) ≤ 4096) ∧ (2 ≤ k → bl (val B) ≤ 4096)) ∧ Below w.heap.size w wr) (fun i _ => 2 - (intOf i).toNat)
  case atStart => exact ⟨0, by omega, rfl, hid ⟨fun h => by omega, fun h => by omega⟩, Below.refl _ _⟩
  case round =>
    obtain ⟨k, hk, rfl, hd, hB1⟩ := hrel
    have k0 := (hB1.cell (p := ⟨g, 0, none⟩) hg).trans h0
    have k1 := (hB1.cell (p := ⟨g, 1, none⟩) hg).trans h1
    have k2 := (hB1.cell (p := ⟨g, 2, none⟩) hg).trans h2
    have k3 := (hB1.cell (p := ⟨g, 3, none⟩) hg).trans h3
    have hA1 := hA.keep hB1
    have hB1' := hB.keep hB1
    clear h0 h1 h2 h3
    obtain rfl | rfl | rfl : k = 0 ∨ k = 1 ∨ k = 2 := by omega
    · by_cases hb : bl (val A) ≤ 4096
      · go_wp2_with (go_at_call 32; refine (bits_any _ _ _ _ A _ (hA1.alloc _)).mono ?_; rintro e w2 ⟨rfl, hb2⟩)
        go_roundw
        case rel => exact ⟨1, by omega, rfl, hid ⟨fun _ => hb, fun h => by omega⟩, hB1.trans ((balloc hb2).mono hB1.size)⟩
        case measure => simp [intOf]
      · have e := hid (show (tooLong A || tooLong B) = true by unfold tooLong; simp; left; omega)
        go_wp2_with (go_at_call 32; refine (bits_any _ _ _ _ A _ (hA1.alloc _)).mono ?_; rintro e w2 ⟨rfl, hb2⟩)
        go_ret
        exact ⟨by rw [e.out]; rfl, hB1.trans ((balloc hb2).mono hB1.size)⟩
    · have hbA := hd.out.1 (by omega)
      by_cases hb : bl (val B) ≤ 4096
      · clear hbA
        go_wp2_with (go_at_call 32; refine (bits_any _ _ _ _ B _ (hB1'.alloc _)).mono ?_; rintro e w2 ⟨rfl, hb2⟩)
        go_roundw
        case rel => exact ⟨2, by omega, rfl, hid ⟨fun _ => hd.out.1 (by omega), fun _ => hb⟩, hB1.trans ((balloc hb2).mono hB1.size)⟩
        case measure => simp [intOf]
      · have e := hid (show (tooLong A || tooLong B) = true by unfold tooLong; simp; right; omega)
        clear hbA
        go_wp2_with (go_at_call 32; refine (bits_any _ _ _ _ B _ (hB1'.alloc _)).mono ?_; rintro e w2 ⟨rfl, hb2⟩)
        go_ret
        exact ⟨by rw [e.out]; rfl, hB1.trans ((balloc hb2).mono hB1.size)⟩
    · have hbA := hd.out.1 (by omega)
      have hbB := hd.out.2 (by omega)
      have e := hid (show (tooLong A || tooLong B) = false by unfold tooLong; simp; omega)
      clear hbA hbB
      go_wp2
      go_ret
      exact ⟨by rw [e.out]; rfl, hB1⟩

set_option maxRecDepth 100000 in
set_option maxHeartbeats 1000000 in
theorem long1_any (g : Nat) (na : Bool) (aa : Option Addr) (la ca : Nat) (A : List Nat) (w : World) (hA : Rd w aa la ca A)
    (h0 : w.cell? ⟨g, 0, none⟩ = some (.bool na)) (h1 : w.cell? ⟨g, 1, none⟩ = some (.slice aa la ca)) :
    Calls Tryd.prog 77 #[.slice (some ⟨g, 0, none⟩) 1 1] w fun e w' => e = .returned (.bool (tooLong A)) ∧ Below w.heap.size w w' := by
  have hg := World.block_lt_of_cell? w _ h0
  simp only at hg
  go_enter Tryd.func77, Tryd.ntmps77
  go_wp2
  go_loopw [7] (fun i wr => ∃ k : Nat, k ≤ 1 ∧ i = .int .i64 (k : Int) ∧ Hid (1 ≤ k → bl (val A) ≤ 4096) ∧ Below w.heap.size w wr) (fun i _ => 1 - (intOf i).toNat)
  case atStart => exact ⟨0, by omega, rfl, hid (fun h => by omega), Below.refl _ _⟩
  case round =>
    obtain ⟨k, hk, rfl, hd, hB1⟩ := hrel
    have k0 := (hB1.cell (p := ⟨g, 0, none⟩) hg).trans h0
    have k1 := (hB1.cell (p := ⟨g, 1, none⟩) hg).trans h1
    have hA1 := hA.keep hB1
    clear h0 h1
    obtain rfl | rfl : k = 0 ∨ k = 1 := by omega
    · by_cases hb : bl (val A) ≤ 4096
      · go_wp2_with (go_at_call 32; refine (bits_any _ _ _ _ A _ (hA1.alloc _)).mono ?_; rintro e w2 ⟨rfl, hb2⟩)
        go_roundw
        case rel => exact ⟨1, by omega, rfl, hid (fun _ => hb), hB1.trans ((balloc hb2).mono hB1.size)⟩
        case measure => simp [intOf]
      · have e := hid (show tooLong A = true by unfold tooLong; simp; omega)
        go_wp2_with (go_at_call 32; refine (bits_any _ _ _ _ A _ (hA1.alloc _)).mono ?_; rintro e w2 ⟨rfl, hb2⟩)
        go_ret
        exact ⟨by rw [e.out]; rfl, hB1.trans ((balloc hb2).mono hB1.size)⟩
    · have hbA := hd.out (by omega)
      have e := hid (show tooLong A = false by unfold tooLong; simp; omega)
      clear hbA
      go_wp2
      go_ret
      exact ⟨by rw [e.out]; rfl, hB1⟩
end Go.Proofs.YtldafoojkimdeaaDoor

namespace Go.Proofs.YtldafoojkimdeaaDoor
open Go.RowKit Lm

/-- The answer of a call that refuses what is too long. -/
def Ans (bad : Bool) (w w' : World) (n : Bool) (ao : Option Addr) (len : Nat) (c : Int) (v : Int) : Prop :=
  (bad = true ∧ c = 10 ∧ n = false ∧ ao = none ∧ len = 0) ∨ (bad = false ∧ Fits w w' n ao len c v)

theorem len_of_bl (A : List Nat) (k : Nat) (h : bl (val A) ≤ 32 * k) : (tl A).length ≤ k := by
  have h2 := (bl_le _ _).1 h
  rw [← P_two] at h2
  by_cases h0 : tl A = []
  · rw [h0]; simp
  · have h3 := top_ge (tl_top A) h0
    rw [tl_val] at h3
    have h5 : ¬ k ≤ (tl A).length - 1 := fun h => by have := P_le h; omega
    omega
theorem small_len (A : List Nat) (h : tooLong A = false) : (tl A).length ≤ 128 :=
  len_of_bl A 128 (by unfold tooLong at h; simpa using h)

theorem hpS {w : World} (o : Obj) {k : Nat} {v : Obj} (h : w.heap[k]? = some v) : (w.alloc o).heap[k]? = some v := (Below.heap_alloc w o k (lt_of_block h)).trans h
theorem hp4 (w : World) (o1 o2 o3 o4 : Obj) {w1 : World} (hb : Below ((((w.alloc o1).alloc o2).alloc o3).alloc o4).heap.size ((((w.alloc o1).alloc o2).alloc o3).alloc o4) w1) :
    w1.heap[w.heap.size]? = some o1 ∧ w1.heap[w.heap.size + 1]? = some o2 ∧ w1.heap[w.heap.size + 2]? = some o3 ∧ Below w.heap.size w w1 := by
  refine ⟨?_, ?_, ?_, balloc (balloc (balloc2 hb))⟩
  · rw [hb.block _ (by simp; omega)]
    exact hpS _ (hpS _ (hpS _ (heap_alloc_new w o1)))
  · rw [hb.block _ (by simp)]
    have := heap_alloc_new (w.alloc o1) o2
    exact hpS _ (hpS _ (by simpa using this))
  · rw [hb.block _ (by simp)]
    have := heap_alloc_new ((w.alloc o1).alloc o2) o3
    exact hpS _ (by simpa using this)

theorem four_cells {w : World} {b : Nat} {x y z u : Value} {t : TypeId} (h : w.heap[b]? = some (.cells #[x, y, z, u] t (0, 0))) :
    w.cell? ⟨b, 0, none⟩ = some x ∧ w.cell? ⟨b, 1, none⟩ = some y ∧ w.cell? ⟨b, 2, none⟩ = some z ∧ w.cell? ⟨b, 3, none⟩ = some u :=
  ⟨by simp [World.cell?, h], by simp [World.cell?, h], by simp [World.cell?, h], by simp [World.cell?, h]⟩

set_option maxRecDepth 100000 in
set_option maxHeartbeats 2000000 in
theorem add_bad (na : Bool) (aa : Option Addr) (la ca : Nat) (A : List Nat) (nb : Bool) (ab : Option Addr) (lb cb : Nat) (B : List Nat) (neg : Bool) (w : World) (hA : Rd w aa la ca A) (hB : Rd w ab lb cb B) (hbad : (tooLong A || tooLong B) = true) :
    Calls Tryd.prog 76 #[.agg #[.bool na, .slice aa la ca], .agg #[.bool nb, .slice ab lb cb], .bool neg] w fun e w' => e = .returned (.tuple #[.agg #[.bool false, .slice none 0 0], .int .i64 10]) ∧ Below w.heap.size w w' := by
  go_enter Tryd.func76, Tryd.ntmps76
  go_wp2_with (go_at_call 77; refine (long2_any _ na aa la ca A nb ab lb cb B _ ((((hA.alloc _).alloc _).alloc _).alloc _) ((((hB.alloc _).alloc _).alloc _).alloc _) (by simp [go_sem]) (by simp [go_sem]) (by simp [go_sem]) (by simp [go_sem])).mono ?_; rintro e w1 ⟨rfl, hb1⟩; rw [hbad]; obtain ⟨p1, p2, p3, hbw⟩ := hp4 _ _ _ _ _ hb1; obtain ⟨c0, c1, f0, f1⟩ := two_cells p3)
  refine bodyPost_ret (v := .tuple #[.agg #[.bool false, .slice none 0 0], .int .i64 10]) (by simp [results, Tryd.results76, go_sem, c0, c1]) rfl ⟨rfl, ?_⟩
  exact (hbw.setCell (by simp; omega) _).setCell (by simp; omega) _

theorem Fits.set2 {w w2 w3 : World} {n : Bool} {ao : Option Addr} {len : Nat} {c v : Int} (h : Fits w2 w3 n ao len c v) (hle : w.heap.size ≤ w2.heap.size) {p q : Addr} (hp : p.block < w2.heap.size) (hq : q.block < w2.heap.size) (u u' : Value) :
    Fits w ((w3.setCell p u).setCell q u') n ao len c v := by
  rcases h with ⟨h1, h2, h3⟩ | h
  · exact .inl ⟨h1, h2, ((h3.set hp u).set hq u').mono hle⟩
  · exact .inr h

theorem undrew {B : Nat} {w w' : World} (h : Below B w.drew w') : Below B w w' := ⟨h.os, h.tape, h.output, h.size, h.block⟩
theorem undrewN {B n : Nat} {w w' : World} (h : Below B (w.drewN n) w') : Below B w w' := ⟨h.os, h.tape, h.output, h.size, h.block⟩
theorem cell_keep {w w' : World} {a : Addr} {v : Value} (h : w.cell? a = some v) (hb : Below w.heap.size w w') : w'.cell? a = some v := (hb.cell (World.block_lt_of_cell? w a h)).trans h
theorem heap_keep {w w' : World} {k : Nat} {o : Obj} (h : w.heap[k]? = some o) (hb : Below w.heap.size w w') : w'.heap[k]? = some o := (hb.block k (lt_of_block h)).trans h

set_option maxRecDepth 100000 in
set_option maxHeartbeats 2000000 in
theorem add_good (na : Bool) (aa : Option Addr) (la ca : Nat) (A : List Nat) (nb : Bool) (ab : Option Addr) (lb cb : Nat) (B : List Nat) (neg : Bool) (w : World) (hA : Rd w aa la ca A) (hB : Rd w ab lb cb B) (hbad : (tooLong A || tooLong B) = false) :
    Calls Tryd.prog 76 #[.agg #[.bool na, .slice aa la ca], .agg #[.bool nb, .slice ab lb cb], .bool neg] w fun e w' => ∃ n' ao' len' c, e = .returned (.tuple #[.agg #[.bool n', .slice ao' len' len'], .int .i64 c]) ∧ Fits w w' n' ao' len' c (num na A + num neg B) ∧ Below w.heap.size w w' := by
  have hsA := small_len A (by simp at hbad; exact hbad.1)
  have hsB := small_len B (by simp at hbad; exact hbad.2)
  go_enter Tryd.func76, Tryd.ntmps76
  go_wp2_with (go_at_call 77; refine (long2_any _ na aa la ca A nb ab lb cb B _ ((((hA.alloc _).alloc _).alloc _).alloc _) ((((hB.alloc _).alloc _).alloc _).alloc _) (by simp [go_sem]) (by simp [go_sem]) (by simp [go_sem]) (by simp [go_sem])).mono ?_; rintro e w1 ⟨rfl, hb1⟩; rw [hbad]; obtain ⟨p1, p2, p3, hbw⟩ := hp4 _ _ _ _ _ hb1; obtain ⟨a0, a1, _, _⟩ := two_cells p1; obtain ⟨b0, b1, _, _⟩ := two_cells p2; have hA1 := hA.keep hbw; have hB1 := hB.keep hbw)
  clear hbad
  go_quiet (first
    | (go_at_call_of 71 (Value.slice aa la ca); go_must (refine Calls.quiet_of_same (trim_q _ _ _ A _ ?_); (repeat (first | exact hA1 | apply Rd.drewN | apply Rd.drew))))
    | (go_at_call_of 71 (Value.slice ab lb cb); go_must (refine Calls.quiet_of_same (trim_q _ _ _ B _ ?_); (repeat (first | exact hB1 | apply Rd.drewN | apply Rd.drew)))))
  have hlt1 : w.heap.size + 4 ≤ (w1.drewN nq).heap.size := by have := hb1.size; simp at this ⊢; omega
  have hTA : Rd (w1.drewN nq) aa (tl A).length ca (tl A) := hA1.tl.drewN nq
  have hTB : Rd (w1.drewN nq) ab (tl B).length cb (tl B) := hB1.tl.drewN nq
  have a0' : (w1.drewN nq).cell? ⟨w.heap.size, 0, none⟩ = some (.bool na) := a0
  have p3' : (w1.drewN nq).heap[w.heap.size + 2]? = some (.cells #[.bool false, .slice none 0 0] 24 (0, 0)) := p3
  have hbv : Below w.heap.size w (w1.drewN nq) := bdrew hbw nq
  clear hb1 a0 a1 b0 b1 p1 p2 p3 hA1 hB1 hbw
  generalize w1.drewN nq = wv at *
  have HP3 := hid p3'
  clear p3'
  have hvA := hid (tl_val A)
  have hvB := hid (tl_val B)
  cases na <;> cases neg
  · have hnum : ∀ L : List Nat, val L = val (tl A) + val (tl B) → num false L = num false A + num false B := by
      intro L hL; unfold num; rw [hL, hvA.out, hvB.out]; simp; try omega
    have HN := hid hnum
    clear hnum
    go_wp2
    go_region_held3 (fun w' => w'.cell? ⟨w.heap.size, 0, none⟩ = some (.bool false)) (first | assumption | (simp [go_sem]; assumption))
      (first
        | (go_at_call 84; refine (sum_any _ _ _ (tl A) _ _ _ (tl B) _ ?_ ?_ (by omega) (by omega)).mono ?_; (first | exact hTA | exact hTA.drew); (first | exact hTB | exact hTB.drew); rintro e w2 ⟨g, L, rfl, hg, hR, hL, hok, hval, hb2⟩; have HL := hid hL; have HV := hid hval; have hLs : L.length ≤ 129 := (by omega); clear hL hval; have a02 := cell_keep a0' (undrew hb2); have hP2 := hid (heap_keep HP3.out (undrew hb2)))
        | (go_at_call 78; refine (fit_any _ _ _ _ L _ (hR.whole hok _ (Nat.le_refl _) (by omega))).mono ?_; rintro e w3 ⟨n', ao', len', c, rfl, hfit, hb3⟩; have a03 := cell_keep a02 hb3; obtain ⟨c0, c1, f0, f1⟩ := two_cells (heap_keep hP2.out hb3)))
    have hs2 := (undrew hb2).size
    rw [HN.out L HV.out] at hfit
    go_wp2
    refine bodyPost_ret (v := .tuple #[.agg #[.bool n', .slice ao' len' len'], .int .i64 c]) (by simp [results, Tryd.results76, go_sem, c0, c1]) rfl ⟨_, _, _, _, rfl, ?_, ?_⟩
    · exact hfit.set2 (by omega) (by simp; omega) (by simp; omega) _ _
    · exact (((hbv.trans ((undrew hb2).mono (by simp; omega))).trans (hb3.mono (by omega))).setCell (by simp; omega) _).setCell (by simp; omega) _
  · have hTA1 := hTA
    have hTB1 := hTB
    have htA := tl_top A
    have htB := tl_top B
    by_cases hle : val (tl B) ≤ val (tl A)
    · have hc : 0 ≤ cmp (val (tl A)) (val (tl B)) := by unfold cmp; rw [if_neg (by omega)]; split <;> decide
      have hnum : ∀ L : List Nat, val L + val (tl B) = val (tl A) → num false L = num false A + num true B := by
        intro L hL; unfold num; rw [← hvA.out, ← hvB.out, ← hL]; simp; try omega
      have HN := hid hnum
      have HLE := hid hle
      have hlen : (tl B).length ≤ (tl A).length := by
        have := fun k => top_length htB (tl_ok hA.ok) k
        omega
      clear hnum hle
      go_wp2_with (go_at_call 74; refine (compare_any _ _ _ (tl A) _ _ _ (tl B) _ hTA hTB htA htB).mono ?_; rintro e w5 ⟨rfl, q, rfl⟩)
      have hTA2 := hTA.drewN q
      have hTB2 := hTB.drewN q
      have a02 : (wv.drewN q).cell? ⟨w.heap.size, 0, none⟩ = some (.bool false) := a0'
      have HP4 : Hid ((wv.drewN q).heap[w.heap.size + 2]? = some (.cells #[.bool false, .slice none 0 0] 24 (0, 0))) := HP3
      have hbv2 := bdrew hbv q
      have hlt2 : w.heap.size + 4 ≤ (wv.drewN q).heap.size := hlt1
      clear hTA hTB hTA1 hTB1 a0' HP3 hbv hlt1
      generalize wv.drewN q = wx at *
      go_region_held3 (fun w' => w'.cell? ⟨w.heap.size, 0, none⟩ = some (.bool false)) (first | assumption | (simp [go_sem]; assumption))
        (first
          | (go_at_call 85; refine (difference_any _ _ _ (tl A) _ _ _ (tl B) _ ?_ ?_ (by omega) (by omega) HLE.out).mono ?_; (first | exact hTA2 | exact hTA2.drew); (first | exact hTB2 | exact hTB2.drew); rintro e w2 ⟨g, L, rfl, hg, hR, hL, hok, hval, hb2⟩; have HL := hid hL; have HV := hid hval; have hLs : L.length ≤ 129 := (by omega); clear hL hval; have a03 := cell_keep a02 (undrew hb2); have hP2 := hid (heap_keep HP4.out (undrew hb2)))
          | (go_at_call 78; refine (fit_any _ _ _ _ L _ (hR.whole hok _ (Nat.le_refl _) (by omega))).mono ?_; rintro e w3 ⟨n', ao', len', c, rfl, hfit, hb3⟩; have a04 := cell_keep a03 hb3; obtain ⟨c0, c1, f0, f1⟩ := two_cells (heap_keep hP2.out hb3)))
      have hs2 := (undrew hb2).size
      rw [HN.out L HV.out] at hfit
      go_wp2
      refine bodyPost_ret (v := .tuple #[.agg #[.bool n', .slice ao' len' len'], .int .i64 c]) (by simp [results, Tryd.results76, go_sem, c0, c1]) rfl ⟨_, _, _, _, rfl, ?_, ?_⟩
      · exact hfit.set2 (by omega) (by simp; omega) (by simp; omega) _ _
      · exact (((hbv2.trans ((undrew hb2).mono (by simp; omega))).trans (hb3.mono (by omega))).setCell (by simp; omega) _).setCell (by simp; omega) _
    · have hc : cmp (val (tl A)) (val (tl B)) < 0 := by unfold cmp; rw [if_pos (by omega)]; decide
      have hnum : ∀ L : List Nat, val L + val (tl A) = val (tl B) → num true L = num false A + num true B := by
        intro L hL; unfold num; rw [← hvA.out, ← hvB.out, ← hL]; simp; try omega
      have HN := hid hnum
      have HLE := hid (show val (tl A) ≤ val (tl B) by omega)
      have hlen : (tl A).length ≤ (tl B).length := by
        have := fun k => top_length htA (tl_ok hB.ok) k
        omega
      clear hnum hle
      go_wp2_with (first
        | (go_at_call 74; refine (compare_any _ _ _ (tl A) _ _ _ (tl B) _ hTA hTB htA htB).mono ?_; rintro e w5 ⟨rfl, q, rfl⟩)
        | (go_at_call 85; refine (difference_any _ _ _ (tl B) _ _ _ (tl A) _ (hTB1.drewN q) (hTA1.drewN q) (by omega) (by omega) HLE.out).mono ?_; rintro e w2 ⟨g, L, rfl, hg, hR, hL, hok, hval, hb2⟩; have HL := hid hL; have HV := hid hval; have hLs : L.length ≤ 129 := (by omega); clear hL hval; have hP2 := hid (heap_keep HP3.out (undrewN hb2)))
        | (go_at_call 78; refine (fit_any _ _ _ _ L _ (hR.whole hok _ (Nat.le_refl _) (by omega))).mono ?_; rintro e w3 ⟨n', ao', len', c, rfl, hfit, hb3⟩; obtain ⟨c0, c1, f0, f1⟩ := two_cells (heap_keep hP2.out hb3)))
      have hs2 := (undrewN hb2).size
      rw [HN.out L HV.out] at hfit
      refine bodyPost_ret (v := .tuple #[.agg #[.bool n', .slice ao' len' len'], .int .i64 c]) (by simp [results, Tryd.results76, go_sem, c0, c1]) rfl ⟨_, _, _, _, rfl, ?_, ?_⟩
      · exact hfit.set2 (by omega) (by simp; omega) (by simp; omega) _ _
      · exact (((hbv.trans ((undrewN hb2).mono (by simp; omega))).trans (hb3.mono (by omega))).setCell (by simp; omega) _).setCell (by simp; omega) _
  · have hTA1 := hTA
    have hTB1 := hTB
    have htA := tl_top A
    have htB := tl_top B
    by_cases hle : val (tl B) ≤ val (tl A)
    · have hc : 0 ≤ cmp (val (tl A)) (val (tl B)) := by unfold cmp; rw [if_neg (by omega)]; split <;> decide
      have hnum : ∀ L : List Nat, val L + val (tl B) = val (tl A) → num true L = num true A + num false B := by
        intro L hL; unfold num; rw [← hvA.out, ← hvB.out, ← hL]; simp; try omega
      have HN := hid hnum
      have HLE := hid hle
      have hlen : (tl B).length ≤ (tl A).length := by
        have := fun k => top_length htB (tl_ok hA.ok) k
        omega
      clear hnum hle
      go_wp2_with (go_at_call 74; refine (compare_any _ _ _ (tl A) _ _ _ (tl B) _ hTA hTB htA htB).mono ?_; rintro e w5 ⟨rfl, q, rfl⟩)
      have hTA2 := hTA.drewN q
      have hTB2 := hTB.drewN q
      have a02 : (wv.drewN q).cell? ⟨w.heap.size, 0, none⟩ = some (.bool true) := a0'
      have HP4 : Hid ((wv.drewN q).heap[w.heap.size + 2]? = some (.cells #[.bool false, .slice none 0 0] 24 (0, 0))) := HP3
      have hbv2 := bdrew hbv q
      have hlt2 : w.heap.size + 4 ≤ (wv.drewN q).heap.size := hlt1
      clear hTA hTB hTA1 hTB1 a0' HP3 hbv hlt1
      generalize wv.drewN q = wx at *
      go_region_held3 (fun w' => w'.cell? ⟨w.heap.size, 0, none⟩ = some (.bool true)) (first | assumption | (simp [go_sem]; assumption))
        (first
          | (go_at_call 85; refine (difference_any _ _ _ (tl A) _ _ _ (tl B) _ ?_ ?_ (by omega) (by omega) HLE.out).mono ?_; (first | exact hTA2 | exact hTA2.drew); (first | exact hTB2 | exact hTB2.drew); rintro e w2 ⟨g, L, rfl, hg, hR, hL, hok, hval, hb2⟩; have HL := hid hL; have HV := hid hval; have hLs : L.length ≤ 129 := (by omega); clear hL hval; have a03 := cell_keep a02 (undrew hb2); have hP2 := hid (heap_keep HP4.out (undrew hb2)))
          | (go_at_call 78; refine (fit_any _ _ _ _ L _ (hR.whole hok _ (Nat.le_refl _) (by omega))).mono ?_; rintro e w3 ⟨n', ao', len', c, rfl, hfit, hb3⟩; have a04 := cell_keep a03 hb3; obtain ⟨c0, c1, f0, f1⟩ := two_cells (heap_keep hP2.out hb3)))
      have hs2 := (undrew hb2).size
      rw [HN.out L HV.out] at hfit
      go_wp2
      refine bodyPost_ret (v := .tuple #[.agg #[.bool n', .slice ao' len' len'], .int .i64 c]) (by simp [results, Tryd.results76, go_sem, c0, c1]) rfl ⟨_, _, _, _, rfl, ?_, ?_⟩
      · exact hfit.set2 (by omega) (by simp; omega) (by simp; omega) _ _
      · exact (((hbv2.trans ((undrew hb2).mono (by simp; omega))).trans (hb3.mono (by omega))).setCell (by simp; omega) _).setCell (by simp; omega) _
    · have hc : cmp (val (tl A)) (val (tl B)) < 0 := by unfold cmp; rw [if_pos (by omega)]; decide
      have hnum : ∀ L : List Nat, val L + val (tl A) = val (tl B) → num false L = num true A + num false B := by
        intro L hL; unfold num; rw [← hvA.out, ← hvB.out, ← hL]; simp; try omega
      have HN := hid hnum
      have HLE := hid (show val (tl A) ≤ val (tl B) by omega)
      have hlen : (tl A).length ≤ (tl B).length := by
        have := fun k => top_length htA (tl_ok hB.ok) k
        omega
      clear hnum hle
      go_wp2_with (first
        | (go_at_call 74; refine (compare_any _ _ _ (tl A) _ _ _ (tl B) _ hTA hTB htA htB).mono ?_; rintro e w5 ⟨rfl, q, rfl⟩)
        | (go_at_call 85; refine (difference_any _ _ _ (tl B) _ _ _ (tl A) _ (hTB1.drewN q) (hTA1.drewN q) (by omega) (by omega) HLE.out).mono ?_; rintro e w2 ⟨g, L, rfl, hg, hR, hL, hok, hval, hb2⟩; have HL := hid hL; have HV := hid hval; have hLs : L.length ≤ 129 := (by omega); clear hL hval; have hP2 := hid (heap_keep HP3.out (undrewN hb2)))
        | (go_at_call 78; refine (fit_any _ _ _ _ L _ (hR.whole hok _ (Nat.le_refl _) (by omega))).mono ?_; rintro e w3 ⟨n', ao', len', c, rfl, hfit, hb3⟩; obtain ⟨c0, c1, f0, f1⟩ := two_cells (heap_keep hP2.out hb3)))
      have hs2 := (undrewN hb2).size
      rw [HN.out L HV.out] at hfit
      refine bodyPost_ret (v := .tuple #[.agg #[.bool n', .slice ao' len' len'], .int .i64 c]) (by simp [results, Tryd.results76, go_sem, c0, c1]) rfl ⟨_, _, _, _, rfl, ?_, ?_⟩
      · exact hfit.set2 (by omega) (by simp; omega) (by simp; omega) _ _
      · exact (((hbv.trans ((undrewN hb2).mono (by simp; omega))).trans (hb3.mono (by omega))).setCell (by simp; omega) _).setCell (by simp; omega) _
  · have hnum : ∀ L : List Nat, val L = val (tl A) + val (tl B) → num true L = num true A + num true B := by
      intro L hL; unfold num; rw [hL, hvA.out, hvB.out]; simp; try omega
    have HN := hid hnum
    clear hnum
    go_wp2
    go_region_held3 (fun w' => w'.cell? ⟨w.heap.size, 0, none⟩ = some (.bool true)) (first | assumption | (simp [go_sem]; assumption))
      (first
        | (go_at_call 84; refine (sum_any _ _ _ (tl A) _ _ _ (tl B) _ ?_ ?_ (by omega) (by omega)).mono ?_; (first | exact hTA | exact hTA.drew); (first | exact hTB | exact hTB.drew); rintro e w2 ⟨g, L, rfl, hg, hR, hL, hok, hval, hb2⟩; have HL := hid hL; have HV := hid hval; have hLs : L.length ≤ 129 := (by omega); clear hL hval; have a02 := cell_keep a0' (undrew hb2); have hP2 := hid (heap_keep HP3.out (undrew hb2)))
        | (go_at_call 78; refine (fit_any _ _ _ _ L _ (hR.whole hok _ (Nat.le_refl _) (by omega))).mono ?_; rintro e w3 ⟨n', ao', len', c, rfl, hfit, hb3⟩; have a03 := cell_keep a02 hb3; obtain ⟨c0, c1, f0, f1⟩ := two_cells (heap_keep hP2.out hb3)))
    have hs2 := (undrew hb2).size
    rw [HN.out L HV.out] at hfit
    go_wp2
    refine bodyPost_ret (v := .tuple #[.agg #[.bool n', .slice ao' len' len'], .int .i64 c]) (by simp [results, Tryd.results76, go_sem, c0, c1]) rfl ⟨_, _, _, _, rfl, ?_, ?_⟩
    · exact hfit.set2 (by omega) (by simp; omega) (by simp; omega) _ _
    · exact (((hbv.trans ((undrew hb2).mono (by simp; omega))).trans (hb3.mono (by omega))).setCell (by simp; omega) _).setCell (by simp; omega) _

theorem add_any (na : Bool) (aa : Option Addr) (la ca : Nat) (A : List Nat) (nb : Bool) (ab : Option Addr) (lb cb : Nat) (B : List Nat) (neg : Bool) (w : World) (hA : Rd w aa la ca A) (hB : Rd w ab lb cb B) :
    Calls Tryd.prog 76 #[.agg #[.bool na, .slice aa la ca], .agg #[.bool nb, .slice ab lb cb], .bool neg] w fun e w' => ∃ n' ao' len' c, e = .returned (.tuple #[.agg #[.bool n', .slice ao' len' len'], .int .i64 c]) ∧ Ans (tooLong A || tooLong B) w w' n' ao' len' c (num na A + num neg B) ∧ Below w.heap.size w w' := by
  by_cases hbad : (tooLong A || tooLong B) = true
  · refine (add_bad na aa la ca A nb ab lb cb B neg w hA hB hbad).mono ?_
    rintro e w' ⟨rfl, hb⟩
    exact ⟨_, _, _, _, rfl, .inl ⟨hbad, rfl, rfl, rfl, rfl⟩, hb⟩
  · have hbad' : (tooLong A || tooLong B) = false := by simpa using hbad
    refine (add_good na aa la ca A nb ab lb cb B neg w hA hB hbad').mono ?_
    rintro e w' ⟨n', ao', len', c, rfl, hf, hb⟩
    exact ⟨_, _, _, _, rfl, .inr ⟨hbad', hf⟩, hb⟩

theorem Ans.set2 {bad : Bool} {w w2 w3 : World} {n : Bool} {ao : Option Addr} {len : Nat} {c v : Int} (h : Ans bad w2 w3 n ao len c v) (hle : w.heap.size ≤ w2.heap.size) {p q : Addr} (hp : p.block < w2.heap.size) (hq : q.block < w2.heap.size) (u u' : Value) :
    Ans bad w ((w3.setCell p u).setCell q u') n ao len c v := by
  rcases h with h | ⟨h, h'⟩
  · exact .inl h
  · exact .inr ⟨h, h'.set2 hle hp hq u u'⟩

theorem hp3 (w : World) (o1 o2 o3 : Obj) {w1 : World} (hb : Below (((w.alloc o1).alloc o2).alloc o3).heap.size (((w.alloc o1).alloc o2).alloc o3) w1) :
    w1.heap[w.heap.size]? = some o1 ∧ w1.heap[w.heap.size + 1]? = some o2 ∧ w1.heap[w.heap.size + 2]? = some o3 ∧ Below w.heap.size w w1 := by
  refine ⟨?_, ?_, ?_, balloc (balloc2 hb)⟩
  · rw [hb.block _ (by simp; omega)]
    exact hpS _ (hpS _ (heap_alloc_new w o1))
  · rw [hb.block _ (by simp)]
    have := heap_alloc_new (w.alloc o1) o2
    exact hpS _ (by simpa using this)
  · rw [hb.block _ (by simp)]
    have := heap_alloc_new ((w.alloc o1).alloc o2) o3
    simpa using this

set_option maxRecDepth 100000 in
set_option maxHeartbeats 2000000 in
theorem Add_any (na : Bool) (aa : Option Addr) (la ca : Nat) (A : List Nat) (nb : Bool) (ab : Option Addr) (lb cb : Nat) (B : List Nat) (w : World) (hA : Rd w aa la ca A) (hB : Rd w ab lb cb B) :
    Calls Tryd.prog 35 #[.agg #[.bool na, .slice aa la ca], .agg #[.bool nb, .slice ab lb cb]] w fun e w' => ∃ n' ao' len' c, e = .returned (.tuple #[.agg #[.bool n', .slice ao' len' len'], .int .i64 c]) ∧ Ans (tooLong A || tooLong B) w w' n' ao' len' c (num na A + num nb B) ∧ Below w.heap.size w w' := by
  go_enter Tryd.func35, Tryd.ntmps35
  go_wp2_with (go_at_call 76; refine (add_any na aa la ca A nb ab lb cb B nb _ (((hA.alloc _).alloc _).alloc _) (((hB.alloc _).alloc _).alloc _)).mono ?_; rintro e w1 ⟨n', ao', len', c, rfl, hans, hb1⟩; obtain ⟨_, _, p3, hbw⟩ := hp3 _ _ _ _ hb1; obtain ⟨c0, c1, f0, f1⟩ := two_cells p3)
  refine bodyPost_ret (v := .tuple #[.agg #[.bool n', .slice ao' len' len'], .int .i64 c]) (by simp [results, Tryd.results35, go_sem, c0, c1]) rfl ⟨_, _, _, _, rfl, ?_, ?_⟩
  · exact hans.set2 (by simp; omega) (by simp) (by simp) _ _
  · exact (hbw.setCell (by simp; omega) _).setCell (by simp; omega) _

set_option maxRecDepth 100000 in
set_option maxHeartbeats 2000000 in
theorem Sub_any (na : Bool) (aa : Option Addr) (la ca : Nat) (A : List Nat) (nb : Bool) (ab : Option Addr) (lb cb : Nat) (B : List Nat) (w : World) (hA : Rd w aa la ca A) (hB : Rd w ab lb cb B) :
    Calls Tryd.prog 36 #[.agg #[.bool na, .slice aa la ca], .agg #[.bool nb, .slice ab lb cb]] w fun e w' => ∃ n' ao' len' c, e = .returned (.tuple #[.agg #[.bool n', .slice ao' len' len'], .int .i64 c]) ∧ Ans (tooLong A || tooLong B) w w' n' ao' len' c (num na A - num nb B) ∧ Below w.heap.size w w' := by
  have hn := hid (num_not nb B)
  go_enter Tryd.func36, Tryd.ntmps36
  go_wp2_with (go_at_call 76; refine (add_any na aa la ca A nb ab lb cb B (!nb) _ (((hA.alloc _).alloc _).alloc _) (((hB.alloc _).alloc _).alloc _)).mono ?_; rintro e w1 ⟨n', ao', len', c, rfl, hans, hb1⟩; obtain ⟨_, _, p3, hbw⟩ := hp3 _ _ _ _ hb1; obtain ⟨c0, c1, f0, f1⟩ := two_cells p3)
  rw [hn.out] at hans
  refine bodyPost_ret (v := .tuple #[.agg #[.bool n', .slice ao' len' len'], .int .i64 c]) (by simp [results, Tryd.results36, go_sem, c0, c1]) rfl ⟨_, _, _, _, rfl, ?_, ?_⟩
  · rw [Int.sub_eq_add_neg]; exact hans.set2 (by simp; omega) (by simp) (by simp) _ _
  · exact (hbw.setCell (by simp; omega) _).setCell (by simp; omega) _

end Go.Proofs.YtldafoojkimdeaaDoor

namespace Go.Proofs.YtldafoojkimdeaaDoor
open Go.RowKit Lm

theorem set_low (Q : List Nat) (m x : Nat) : (List.replicate (m + 1) 0 ++ Q).set m x = List.replicate m 0 ++ (x :: Q) := by
  rw [List.replicate_succ', List.append_assoc, List.set_append_right _ _ (by simp)]
  simp
theorem drop_dg (A : List Nat) (m : Nat) (h : m < A.length) : val (A.drop m) = dg A m + 4294967296 * val (A.drop (m + 1)) := by
  rw [List.drop_eq_getElem_cons h, val_cons]
  unfold dg; rw [getD_in _ _ h]
theorem div_step {r x b q r' vq v : Nat} (h : v = vq * b + r) (he : r * 4294967296 + x = q * b + r') : x + 4294967296 * v = (q + 4294967296 * vq) * b + r' := by grind
theorem quo_lt (r x b : Nat) (hr : r < b) (hx : x < 4294967296) : (r * 4294967296 + x) / b < 4294967296 := by
  rw [Nat.div_lt_iff_lt_mul (by omega)]
  have := Nat.mul_le_mul_right 4294967296 (show r + 1 ≤ b by omega)
  rw [Nat.mul_comm 4294967296 b]; omega

set_option maxRecDepth 100000 in
set_option maxHeartbeats 2000000 in
theorem divideSmall_any (aa : Option Addr) (la ca : Nat) (A : List Nat) (b : Nat) (w : World) (hA : Rd w aa la ca A) (hsm : la ≤ 5000) (hb0 : 0 < b) (hbl : b < 4294967296) :
    Calls Tryd.prog 114 #[.slice aa la ca, .int .u32 (b : Int)] w fun e w' => ∃ g Q r, e = .returned (.tuple #[.slice (some ⟨g, 0, none⟩) Q.length Q.length, .int .u32 ((r : Nat) : Int)]) ∧ w.heap.size ≤ g ∧ Rw w' g Q ∧ Q.length = la ∧ Ok Q ∧ val A = val Q * b + r ∧ r < b ∧ Below w.heap.size w w' := by
  obtain ⟨i0, hi, hz0, hz1, hz2⟩ := info_parts Tryd.info43
  have hla := hid hA.size
  go_enter Tryd.func114, Tryd.ntmps114
  go_wp2_with (at_make; refine wpList_make_full _ rfl _ _ 22 rfl w.heap.size 43 i0 (.int .u32 0) 1 Tryd.underlying22 hi hz0 hz1 .i64 .i64 _ _ la rfl rfl (by omega) (by omega) ?c1 ?c2 ?c3 ?_)
  case c1 => rw [hz2]; omega
  case c2 => unfold maxLen; omega
  case c3 => exact Nat.le_refl _
  intro w1 hown hgrow
  have hrow : Rw w1 w.heap.size (List.replicate la 0) := Rw.of_own hown (made_zeros _ _ (by omega))
  have hbel : Below w.heap.size w w1 := (Below.refl _ _).grown hgrow (Nat.le_refl _) (by intro k hk; simp at hk)
  clear hown hgrow hi hz0 hz1 hz2
  go_wp2
  go_loopw [7, 8] (fun c i wr => ∃ (k r : Nat) (Q : List Nat), k ≤ la ∧ i = .int .i64 ((k : Int) - 1) ∧ c = .int .u64 (r : Int) ∧ r < b ∧ Hid (Q.length = la - k) ∧ Ok Q ∧ Hid (val (A.drop k) = val Q * b + r) ∧
      Rw wr w.heap.size (List.replicate k 0 ++ Q) ∧ Below w.heap.size w wr) (fun _ i _ => (intOf i + 1).toNat)
  case atStart => exact ⟨la, 0, [], by omega, rfl, rfl, hb0, hid (by simp), Ok.nil, hid (by rw [List.drop_eq_nil_of_le (by rw [hla.out]; omega)]; simp [val]), by simpa using hrow, hbel⟩
  case round =>
    obtain ⟨k, r, Q, hk, rfl, rfl, hr, hQ, hok, hval, hR, hB1⟩ := hrel
    clear hrow hbel
    cases k with
    | zero =>
      have hv := hval.out
      rw [List.drop_zero] at hv
      have HF := hid hv
      clear hv
      go_wp2
      go_ret2
      refine ⟨w.heap.size, Q, r, by rw [hQ.out]; rfl, Nat.le_refl _, by simpa using hR, by rw [hQ.out]; omega, hok, HF.out, hr, hB1⟩
    | succ m =>
      obtain ⟨ba, off, rfl, hc⟩ := (hA.keep hB1).cells (by omega)
      have hcell := hc m (by omega)
      have hx := hA.ok.dg m
      have hfr := hR.free m
      have hsz : m < (List.replicate (m + 1) 0 ++ Q).length := by rw [List.length_append, List.length_replicate]; omega
      have hcur := hR.cell m hsz
      have hj := or_join r (dg A m) (by omega) hx
      have hq := quo_lt r (dg A m) b hr hx
      have hq' : ((r : Int) * 4294967296 + (dg A m : Int)) / (b : Int) < 4294967296 := by
        have := Int.ofNat_lt.2 hq; simpa using this
      have hq0 : 0 ≤ ((r : Int) * 4294967296 + (dg A m : Int)) / (b : Int) := Int.ediv_nonneg (by omega) (by omega)
      have HQ := hid hq
      clear hc hsz hq
      go_wp2
      go_roundw
      case rel =>
        refine ⟨m, (r * 4294967296 + dg A m) % b, (r * 4294967296 + dg A m) / b :: Q, by omega, by go_num, ?_, Nat.mod_lt _ hb0, hid (by rw [List.length_cons, hQ.out]; omega), hok.cons HQ.out, hid ?_, ?_, hB1.setCell (Nat.le_refl _) _⟩
        · simp
        · rw [drop_dg A m (by rw [hla.out]; omega), val_cons]
          exact div_step hval.out (Nat.div_add_mod' _ _).symm
        · have := hR.set' m ((r * 4294967296 + dg A m) / b) (z := ((r : Int) * 4294967296 + (dg A m : Int)) / (b : Int)) (by simp)
          rwa [set_low] at this
      case measure => simp [intOf]
end Go.Proofs.YtldafoojkimdeaaDoor

namespace Go.Proofs.YtldafoojkimdeaaDoor
open Go.RowKit Lm

/-- What 'divide' answers: quotient and remainder, both to be read. -/
def Divs (w' : World) (A B : Nat) (qo : Option Addr) (ql qc : Nat) (ro : Option Addr) (rl rc : Nat) : Prop :=
  ∃ Q R, Rd w' qo ql qc Q ∧ Rd w' ro rl rc R ∧ A = val Q * B + val R ∧ val R < B ∧ ql ≤ 300 ∧ rl ≤ 300

theorem Rd.nil (w : World) : Rd w none 0 0 [] := ⟨rfl, Ok.nil, Nat.le_refl _, by omega, fun h => by omega⟩

set_option maxRecDepth 100000 in
set_option maxHeartbeats 2000000 in
theorem divide_any (aa : Option Addr) (la ca : Nat) (A : List Nat) (ab : Option Addr) (lb cb : Nat) (B : List Nat) (w : World) (hA : Rd w aa la ca A) (hB : Rd w ab lb cb B) (tA : Top A) (tB : Top B) (hsm : la ≤ 300) (hsb : lb ≤ 300) (hb0 : 0 < val B) (hshort : lb ≤ 1) :
    Calls Tryd.prog 94 #[.slice aa la ca, .slice ab lb cb] w fun e w' => ∃ qo ql qc ro rl rc, e = .returned (.tuple #[.slice qo ql qc, .slice ro rl rc]) ∧ Divs w' (val A) (val B) qo ql qc ro rl rc ∧ Below w.heap.size w w' := by
  by_cases hlt : val A < val B
  · have hc : cmp (val A) (val B) < 0 := by unfold cmp; rw [if_pos hlt]; decide
    go_enter Tryd.func94, Tryd.ntmps94
    go_wp2_with (go_at_call 74; refine (compare_any _ _ _ A _ _ _ B _ hA hB tA tB).mono ?_; rintro e w5 ⟨rfl, q, rfl⟩)
    go_ret2
    exact ⟨_, _, _, _, _, _, rfl, ⟨[], A, Rd.nil _, hA.drewN q, by simp [val], hlt, by omega, hsm⟩, bdrew (Below.refl _ _) q⟩
  · have hc : ¬ cmp (val A) (val B) < 0 := by unfold cmp; rw [if_neg hlt]; split <;> decide
    obtain ⟨b, rfl⟩ : ∃ b, B = [b] := by
      have := hB.size
      match B, this with
      | [], _ => simp [val] at hb0
      | [b], _ => exact ⟨b, rfl⟩
      | x :: y :: l, h => simp at h; omega
    have h1 : lb = 1 := by have := hB.size; simpa using this.symm
    subst h1
    have hvb : val [b] = b := by simp [val]
    have hbl : b < 4294967296 := hB.ok.head
    rw [hvb] at hb0
    obtain ⟨bb, off, rfl, hcb⟩ := hB.cells (by omega)
    have hcell := hcb 0 (by omega)
    have hdg : dg [b] 0 = b := rfl
    rw [hdg, Nat.add_zero] at hcell
    clear hcb hdg
    have HVB := hid hvb
    clear hvb
    go_enter Tryd.func94, Tryd.ntmps94
    go_wp2_with (first
      | (go_at_call 74; refine (compare_any _ _ _ A _ _ _ [b] _ hA hB tA tB).mono ?_; rintro e w5 ⟨rfl, q, rfl⟩)
      | (go_at_call 114; refine (divideSmall_any _ _ _ A b _ (hA.drewN q) (by omega) hb0 hbl).mono ?_; rintro e w2 ⟨g, Q, r, rfl, hg, hR, hQ, hok, hval, hr, hb2⟩; have HQ := hid hQ; have HV := hid hval; clear hQ hval))
    go_ret2
    have hq := hR.whole hok _ (Nat.le_refl _) (by have := HQ.out; omega)
    refine ⟨_, _, _, _, _, _, rfl, ⟨Q, [r], hq.alloc _, ?_, ?_, ?_, by have := HQ.out; omega, by omega⟩, ((undrewN hb2).alloc (undrewN hb2).size _)⟩
    · have e : #[Value.int IntKind.u32 (r : Int)] = u32s [r] := by simp [u32s]
      rw [e]
      exact (Rw.new w2 [r]).whole (Ok.nil.cons (by omega)) 1 (by simp) (by omega)
    · rw [HV.out, HVB.out]; simp [val]
    · rw [HVB.out]; simpa [val] using hr
end Go.Proofs.YtldafoojkimdeaaDoor

namespace Go.Proofs.YtldafoojkimdeaaDoor
open Go.RowKit Lm

/-- Quotient and trimmed remainder. -/
def Divt (w' : World) (A B : Nat) (qo : Option Addr) (ql qc : Nat) (ro : Option Addr) (rl rc : Nat) : Prop :=
  ∃ Q R, Rd w' qo ql qc Q ∧ Rd w' ro rl rc R ∧ Top R ∧ A = val Q * B + val R ∧ val R < B ∧ ql ≤ 300 ∧ rl ≤ 300

theorem hp3b (w : World) (o1 o2 o3 : Obj) {w1 : World} (hb : Below (((w.alloc o1).alloc o2).alloc o3).heap.size (((w.alloc o1).alloc o2).alloc o3) w1) :
    w1.heap[w.heap.size]? = some o1 ∧ w1.heap[w.heap.size + 1]? = some o2 ∧ Below w.heap.size w w1 ∧ w.heap.size + 3 ≤ w1.heap.size := by
  obtain ⟨h1, h2, _, h4⟩ := hp3 w o1 o2 o3 hb
  exact ⟨h1, h2, h4, by have := hb.size; simp at this; omega⟩

set_option maxRecDepth 100000 in
set_option maxHeartbeats 2000000 in
theorem divideBoth_good (na : Bool) (aa : Option Addr) (la ca : Nat) (A : List Nat) (nb : Bool) (ab : Option Addr) (lb cb : Nat) (B : List Nat) (w : World) (hA : Rd w aa la ca A) (hB : Rd w ab lb cb B) (hbad : (tooLong A || tooLong B) = false) (hb0 : 0 < val B) (hshort : (tl B).length ≤ 1) :
    Calls Tryd.prog 83 #[.agg #[.bool na, .slice aa la ca], .agg #[.bool nb, .slice ab lb cb]] w fun e w' => ∃ qo ql qc ro rl rc, e = .returned (.tuple #[.slice qo ql qc, .slice ro rl rc, .int .i64 0]) ∧ Divt w' (val A) (val B) qo ql qc ro rl rc ∧ Below w.heap.size w w' := by
  have hsA := small_len A (by simp at hbad; exact hbad.1)
  have hsB := small_len B (by simp at hbad; exact hbad.2)
  have hvA := hid (tl_val A)
  have hvB := hid (tl_val B)
  have hsgn : ((num nb B).sign == 0) = false := by
    have h : num nb B ≠ 0 := by unfold num; cases nb <;> simp <;> omega
    rcases Int.lt_trichotomy (num nb B) 0 with h1 | h1 | h1
    · rw [Int.sign_eq_neg_one_of_neg h1]; rfl
    · exact absurd h1 h
    · rw [Int.sign_eq_one_of_pos h1]; rfl
  have HB0 := hid hb0
  clear hb0
  go_enter Tryd.func83, Tryd.ntmps83
  go_wp2_with (first
    | (go_at_call 77; refine (long2_any _ na aa la ca A nb ab lb cb B _ (((hA.alloc _).alloc _).alloc _) (((hB.alloc _).alloc _).alloc _) (by simp [go_sem]) (by simp [go_sem]) (by simp [go_sem]) (by simp [go_sem])).mono ?_; rintro e w1 ⟨rfl, hb1⟩; rw [hbad]; obtain ⟨p1, p2, hbw, hlt1⟩ := hp3b _ _ _ _ hb1; obtain ⟨a0, a1, _, _⟩ := two_cells p1; obtain ⟨b0, b1, _, _⟩ := two_cells p2; have hA1 := hA.keep hbw; have hB1 := hB.keep hbw)
    | (go_at_call 28; refine (sign_any _ _ _ _ B _ hB1).mono ?_; rintro e w5 ⟨rfl, rfl⟩))
  clear hbad
  have hA2 := hA1.alloc (.cells #[.bool nb, .slice ab lb cb] 24)
  have hB2 := hB1.alloc (.cells #[.bool nb, .slice ab lb cb] 24)
  have hbw2 : Below w.heap.size w (w1.alloc (.cells #[.bool nb, .slice ab lb cb] 24)) := hbw.alloc (by omega) _
  have a12 := cell_keep a1 ((Below.refl w1.heap.size w1).alloc (Nat.le_refl _) (.cells #[.bool nb, .slice ab lb cb] 24))
  have b12 := cell_keep b1 ((Below.refl w1.heap.size w1).alloc (Nat.le_refl _) (.cells #[.bool nb, .slice ab lb cb] 24))
  have hlt2 : w.heap.size + 3 ≤ (w1.alloc (.cells #[.bool nb, .slice ab lb cb] 24)).heap.size := by simp; omega
  clear hb1 p1 p2 a0 a1 b0 b1 hA1 hB1 hbw hlt1 hsgn
  generalize w1.alloc (.cells #[.bool nb, .slice ab lb cb] 24) = wv at *
  go_region_held3 (fun w' => w'.cell? ⟨w.heap.size, 1, none⟩ = some (.slice aa la ca) ∧ w'.cell? ⟨w.heap.size + 1, 1, none⟩ = some (.slice ab lb cb)) (refine ⟨?_, ?_⟩ <;> first | assumption | (simp [go_sem]; assumption))
    (first
      | (go_at_call_of 71 (Value.slice aa la ca); refine (trim_any _ _ _ A _ ?_).mono ?_; (first | exact hA2 | exact hA2.drew); rintro e w5 ⟨rfl, rfl⟩)
      | (go_at_call_of 71 (Value.slice ab lb cb); refine (trim_any _ _ _ B _ ?_).mono ?_; (first | exact hB2 | exact hB2.drew); rintro e w5 ⟨rfl, rfl⟩)
      | (go_at_call 94; refine (divide_any _ _ _ (tl A) _ _ _ (tl B) _ ?_ ?_ (tl_top A) (tl_top B) (by omega) (by omega) (by rw [hvB.out]; exact HB0.out) hshort).mono ?_; (first | exact hA2.tl | exact hA2.tl.drew); (first | exact hB2.tl | exact hB2.tl.drew); rintro e w2 ⟨qo, ql, qc, ro, rl, rc, rfl, hdiv, hb2⟩; have a13 := cell_keep a12 (undrew hb2); have b13 := cell_keep b12 (undrew hb2)))
  obtain ⟨Q, R, hQ, hR, hval, hlt, hql, hrl⟩ := hdiv
  have HV := hid hval
  have HLT := hid hlt
  clear hval hlt
  go_wp2_with (go_at_call 71; refine (trim_any _ _ _ R _ hR).mono ?_; rintro e w5 ⟨rfl, rfl⟩)
  go_ret3
  refine ⟨_, _, _, _, _, _, rfl, ⟨Q, tl R, hQ, hR.tl, tl_top R, ?_, ?_, hql, ?_⟩, hbw2.trans ((undrew hb2).mono (by simp; omega))⟩
  · rw [← hvA.out, ← hvB.out, show val (tl R) = val R from tl_val R]; exact HV.out
  · rw [← hvB.out, show val (tl R) = val R from tl_val R]; exact HLT.out
  · have := tl_length_le R; have := hR.size; omega
end Go.Proofs.YtldafoojkimdeaaDoor

namespace Go.Proofs.YtldafoojkimdeaaDoor
open Go.RowKit Lm

theorem hp4c (w : World) (o1 o2 o3 o4 : Obj) {w1 : World} (hb : Below ((((w.alloc o1).alloc o2).alloc o3).alloc o4).heap.size ((((w.alloc o1).alloc o2).alloc o3).alloc o4) w1) :
    w1.heap[w.heap.size]? = some o1 ∧ w1.heap[w.heap.size + 1]? = some o2 ∧ w1.heap[w.heap.size + 2]? = some o3 ∧ w1.heap[w.heap.size + 3]? = some o4 ∧ Below w.heap.size w w1 ∧ w.heap.size + 4 ≤ w1.heap.size := by
  obtain ⟨h1, h2, h3, h4⟩ := hp4 w o1 o2 o3 o4 hb
  refine ⟨h1, h2, h3, ?_, h4, by have := hb.size; simp at this; omega⟩
  rw [hb.block _ (by simp)]
  have := heap_alloc_new (((w.alloc o1).alloc o2).alloc o3) o4
  simpa using this

theorem cell_set {w : World} {a p : Addr} {u v : Value} (h : w.cell? a = some v) (hb : p.block ≠ a.block) : (w.setCell p u).cell? a = some v :=
  (World.cell?_of_block (w := w) (Below.heap_setCell _ _ _ _ (fun e => hb e.symm))).trans h

theorem bool_ne {a b : Bool} (h : ¬a = b) : a = !b := by cases a <;> cases b <;> simp at h ⊢
theorem bool_no (b : Bool) (h : (!(!b) == b) = false) : False := by cases b <;> simp at h

theorem limbsOf_one (w : World) : Calls Tryd.prog 70 #[.int .u64 1] w fun e w' => ∃ g, e = .returned (.slice (some ⟨g, 0, none⟩) 2 2) ∧ w.heap.size ≤ g ∧ Rw w' g [1, 0] ∧ Below w.heap.size w w' :=
  limbsOf_any 1 w (by decide)
theorem ok_one : Ok [1, 0] := (Ok.nil.cons (by decide)).cons (by decide)

/-- Divided downwards. -/
def FloorDiv (a b q r : Int) (nb : Bool) : Prop := a = q * b + r ∧ r.natAbs < b.natAbs ∧ (nb = true → r ≤ 0) ∧ (nb = false → 0 ≤ r)

theorem floor_same (n : Bool) (A B Q R : List Nat) (h : val A = val Q * val B + val R) (hl : val R < val B) : FloorDiv (num n A) (num n B) (num false Q) (num n R) n := by
  unfold FloorDiv num
  cases n
  · refine ⟨?_, by simpa using hl, by simp, by simp⟩
    simp [h, Int.natCast_mul]
  · refine ⟨?_, by simpa using hl, by simp, by simp⟩
    simp [h, Int.natCast_mul, Int.mul_neg]; omega
theorem floor_zero (n : Bool) (A B Q R : List Nat) (h : val A = val Q * val B + val R) (h0 : val R = 0) (hb : 0 < val B) : FloorDiv (num (!n) A) (num n B) (num true Q) (num n R) n := by
  rw [h0, Nat.add_zero] at h
  unfold FloorDiv num
  rw [h, h0]
  cases n
  · refine ⟨?_, by simpa using hb, by simp, by simp⟩
    simp [Int.natCast_mul, Int.neg_mul]
  · refine ⟨?_, by simpa using hb, by simp, by simp⟩
    simp [Int.natCast_mul, Int.neg_mul, Int.mul_neg]
theorem floor_up (n : Bool) (A B Q R Q' R' : List Nat) (h : val A = val Q * val B + val R) (h0 : 0 < val R) (_hl : val R < val B) (hq : val Q' = val Q + 1) (hr : val R' + val R = val B) : FloorDiv (num (!n) A) (num n B) (num true Q') (num n R') n := by
  have e : (val A : Int) = val Q * val B + val R := by rw [h]; simp [Int.natCast_mul]
  have e2 : (val R' : Int) + val R = val B := by rw [← hr]; simp
  unfold FloorDiv num
  rw [hq]
  cases n
  · refine ⟨?_, by simp; omega, by simp, by simp⟩
    simp only [Bool.not_false, if_true, Bool.false_eq_true, if_false]
    rw [e, Int.natCast_add, Int.neg_mul, Int.add_mul]
    simp; omega
  · refine ⟨?_, by simp; omega, by simp, by simp⟩
    simp only [Bool.not_true, if_true, Bool.false_eq_true, if_false]
    rw [e, Int.natCast_add, Int.neg_mul, Int.mul_neg, Int.add_mul]
    simp; omega

set_option maxRecDepth 100000 in
set_option maxHeartbeats 1000000 in
theorem divMod_good (na : Bool) (aa : Option Addr) (la ca : Nat) (A : List Nat) (nb : Bool) (ab : Option Addr) (lb cb : Nat) (B : List Nat) (w : World) (hA : Rd w aa la ca A) (hB : Rd w ab lb cb B) (hbad : (tooLong A || tooLong B) = false) (hb0 : 0 < val B) (hshort : (tl B).length ≤ 1) :
    Calls Tryd.prog 42 #[.agg #[.bool na, .slice aa la ca], .agg #[.bool nb, .slice ab lb cb]] w fun e w' => ∃ nq qo ql nr ro rl q r, e = .returned (.tuple #[.agg #[.bool nq, .slice qo ql ql], .agg #[.bool nr, .slice ro rl rl], .int .i64 0]) ∧
      Num w.heap.size w' nq qo ql q ∧ Num w.heap.size w' nr ro rl r ∧ FloorDiv (num na A) (num nb B) q r nb ∧ Below w.heap.size w w' := by
  have hsB := small_len B (by simp at hbad; exact hbad.2)
  have HB0 := hid hb0
  have hvB := hid (tl_val B)
  go_enter Tryd.func42, Tryd.ntmps42
  go_wp2_with (go_at_call 83; refine (divideBoth_good na aa la ca A nb ab lb cb B _ ((((hA.alloc _).alloc _).alloc _).alloc _) ((((hB.alloc _).alloc _).alloc _).alloc _) hbad hb0 hshort).mono ?_; rintro e w1 ⟨qo, ql, qc, ro, rl, rc, rfl, ⟨Q, R, hQ, hR, tR, hval, hlt, hql, hrl⟩, hb1⟩; obtain ⟨p1, p2, p3, p4, hbw, hlt1⟩ := hp4c _ _ _ _ _ hb1; obtain ⟨a0, _, _, _⟩ := two_cells p1; obtain ⟨b0, b1, _, _⟩ := two_cells p2; have hB1 := hB.keep hbw; have P3 := hid p3; have P4 := hid p4; have HV := hid hval; have HLT := hid hlt; have ca0 := a0; have cb0 := b0; clear p1 p2 p3 p4 hval hlt hb1 a0 b0)
  · have hna : na = nb := by assumption
    subst hna
    have ca0d := show w1.drew.cell? ⟨w.heap.size, 0, none⟩ = _ from ca0
    have cb0d := show w1.drew.cell? ⟨w.heap.size + 1, 0, none⟩ = _ from cb0
    go_region_held3 (fun w' => w'.cell? ⟨w.heap.size, 0, none⟩ = some (.bool na) ∧ w'.cell? ⟨w.heap.size + 1, 0, none⟩ = some (.bool na)) (first | (with_reducible exact ⟨ca0, cb0⟩) | (with_reducible exact ⟨ca0d, cb0d⟩) | (with_reducible exact ⟨a03, b03⟩) | (with_reducible exact ⟨a04, b04⟩) | (simp [go_sem, a04, b04]; done))
      (first
        | (go_at_call 69; (with_reducible refine (give_any _ qo ql qc Q _ ?_).mono ?_); (first | exact hQ | exact hQ.drew); rintro e w2 ⟨n1, ao1, len1, rfl, hn1, hb2⟩; have a03 := cell_keep ca0 (undrew hb2); have b03 := cell_keep cb0 (undrew hb2); have q3 := hid (heap_keep P3.out (undrew hb2)); have q4 := hid (heap_keep P4.out (undrew hb2)); have hR2 := hR.keep (undrew hb2))
        | (go_at_call 69; (with_reducible refine (give_any _ ro rl rc R _ hR2).mono ?_); rintro e w3 ⟨n2, ao2, len2, rfl, hn2, hb3⟩; have a04 := cell_keep a03 hb3; have b04 := cell_keep b03 hb3; obtain ⟨c0, c1, f0, f1⟩ := two_cells (heap_keep q3.out hb3); obtain ⟨d0, d1, g0, g1⟩ := two_cells (heap_keep q4.out hb3)))
    have hs2 := (undrew hb2).size
    have hs3 := hb3.size
    have hfd := floor_same na A B Q R HV.out HLT.out
    go_wp2
    refine bodyPost_ret (v := .tuple #[.agg #[.bool n1, .slice ao1 len1 len1], .agg #[.bool n2, .slice ao2 len2 len2], .int .i64 0]) (by simp [results, Tryd.results42, go_sem, c0, c1, d0, d1]) rfl ⟨_, _, _, _, _, _, _, _, rfl, ?_, ?_, hfd, ?_⟩
    · exact (((((hn1.keep hb3).set (by simp; omega) _).set (by simp; omega) _).set (by simp; omega) _).set (by simp; omega) _).mono (by simp; omega)
    · exact ((((hn2.set (by simp; omega) _).set (by simp; omega) _).set (by simp; omega) _).set (by simp; omega) _).mono (by omega)
    · exact ((((((hbw).trans ((undrew hb2).mono (by simp; omega))).trans (hb3.mono (by omega))).setCell (by simp; omega) _).setCell (by simp; omega) _).setCell (by simp; omega) _).setCell (by simp; omega) _
    
  · have hcond : (!na == nb) = true ∧ 0 < rl := by assumption
    have hrl0 := hcond.2
    have hnn : ¬na = nb := by assumption
    have hna := bool_ne hnn
    clear hnn hcond
    subst hna
    have hR0 : 0 < val R := by
      rcases Nat.eq_zero_or_pos (val R) with h | h
      · have := top_zero tR h
        have h2 := hR.size
        rw [this] at h2; simp at h2; omega
      · exact h
    have hlen : rl ≤ (tl B).length := by
      have h1 := hR.size
      have h2 := fun k => top_length tR (tl_ok hB.ok) k
      rw [tl_val] at h2
      have := HLT.out
      omega
    have hle : val R ≤ val (tl B) := by rw [tl_val]; exact Nat.le_of_lt HLT.out
    have HR0 := hid hR0
    have HLE := hid hle
    have cb1 := b1
    have cb1d := show w1.drew.cell? ⟨w.heap.size + 1, 1, none⟩ = _ from b1
    clear hR0 hle
    go_region_held3 (fun w' => w'.cell? ⟨w.heap.size + 1, 1, none⟩ = some (.slice ab lb cb)) (first | (with_reducible exact cb1) | (with_reducible exact cb1d) | (with_reducible exact b12) | (with_reducible exact b13) | (with_reducible exact b14) | (simp [go_sem, b14]; done))
      (first
        | (go_at_call 70; refine (limbsOf_one _).mono ?_; rintro e w2 ⟨gl, rfl, hgl, hL1, hb2⟩; have b12 := cell_keep cb1 (undrew hb2); have hQ2 := hQ.keep (undrew hb2); have hL1' := (show Rd w2 (some ⟨gl, 0, none⟩) 2 2 [1, 0] from hL1.whole ok_one 2 (by simp) (by omega)))
        | (go_at_call 84; refine (sum_any _ _ _ Q _ _ _ [1, 0] _ hQ2 hL1' (by omega) (by omega)).mono ?_; rintro e w3 ⟨gs, S, rfl, hgs, hS, hSl, hSo, hSv, hb3⟩; have HSL := hid hSl; have HSV := hid hSv; have hSs : S.length ≤ 301 := (by omega); clear hSl hSv; have b13 := cell_keep b12 hb3)
        | (go_at_call 71; refine (trim_any _ _ _ B _ ((hB1.keep (undrew hb2)).keep hb3)).mono ?_; rintro e w5 ⟨rfl, rfl⟩)
        | (go_at_call 85; refine (difference_any _ _ _ (tl B) _ _ _ R _ ((hB1.keep (undrew hb2)).keep hb3).tl ((hR.keep (undrew hb2)).keep hb3) hlen (by omega) HLE.out).mono ?_; rintro e w4 ⟨gd, D, rfl, hgd, hD, hDl, hDo, hDv, hb4⟩; have HDL := hid hDl; have HDV := hid hDv; have hDs : D.length ≤ 128 := (by omega); clear hDl hDv; have b14 := cell_keep b13 hb4))
    have hwv : Below w1.heap.size w1 w4 := ((undrew hb2).trans (hb3.mono (undrew hb2).size)).trans (hb4.mono (Nat.le_trans (undrew hb2).size hb3.size))
    have hQ5 : Rd w4 (some ⟨gs, 0, none⟩) S.length S.length S := (hS.keep' hb4).whole hSo _ (Nat.le_refl _) (by omega)
    have hR5 : Rd w4 (some ⟨gd, 0, none⟩) D.length D.length D := hD.whole hDo _ (Nat.le_refl _) (by omega)
    have ca05 := cell_keep ca0 hwv
    have cb05 := cell_keep cb0 hwv
    have P35 := hid (heap_keep P3.out hwv)
    have P45 := hid (heap_keep P4.out hwv)
    have hbw5 := hbw.trans (hwv.mono (by omega))
    have hlt5 : w.heap.size + 4 ≤ w4.heap.size := Nat.le_trans hlt1 hwv.size
    have hSV2 : val S = val Q + 1 := by rw [HSV.out]; simp [val]
    have hDV2 : val D + val R = val B := by rw [HDV.out, tl_val]
    have HS2 := hid hSV2
    have HD2 := hid hDV2
    clear hSV2 hDV2 ca0 cb0 cb1 cb1d P3 P4 hQ hR hbw hlt1 b12 b13 b14 hL1' hQ2 hB1 b1
    have ca0 := ca05
    have cb0 := cb05
    have P3 := P35
    have P4 := P45
    have hQ := hQ5
    have hR := hR5
    have hbw := hbw5
    have hlt1 := hlt5
    clear ca05 cb05 P35 P45 hQ5 hR5 hbw5 hlt5
    clear hb2 hb3 hb4 hwv
    go_wp2
    have ca0d := show w4.drew.cell? ⟨w.heap.size, 0, none⟩ = _ from ca0
    have cb0d := show w4.drew.cell? ⟨w.heap.size + 1, 0, none⟩ = _ from cb0
    go_region_held3 (fun w' => w'.cell? ⟨w.heap.size, 0, none⟩ = some (.bool (!nb)) ∧ w'.cell? ⟨w.heap.size + 1, 0, none⟩ = some (.bool nb)) (first | (with_reducible exact ⟨ca0, cb0⟩) | (with_reducible exact ⟨ca0d, cb0d⟩) | (with_reducible exact ⟨a03, b03⟩) | (with_reducible exact ⟨a04, b04⟩) | (simp [go_sem, a04, b04]; done))
      (first
        | (go_at_call 69; (with_reducible refine (give_any _ (some ⟨gs, 0, none⟩) S.length S.length S _ ?_).mono ?_); (first | exact hQ | exact hQ.drew); rintro e w2 ⟨n1, ao1, len1, rfl, hn1, hb2⟩; have a03 := cell_keep ca0 (undrew hb2); have b03 := cell_keep cb0 (undrew hb2); have q3 := hid (heap_keep P3.out (undrew hb2)); have q4 := hid (heap_keep P4.out (undrew hb2)); have hR2 := hR.keep (undrew hb2))
        | (go_at_call 69; (with_reducible refine (give_any _ (some ⟨gd, 0, none⟩) D.length D.length D _ hR2).mono ?_); rintro e w3 ⟨n2, ao2, len2, rfl, hn2, hb3⟩; have a04 := cell_keep a03 hb3; have b04 := cell_keep b03 hb3; obtain ⟨c0, c1, f0, f1⟩ := two_cells (heap_keep q3.out hb3); obtain ⟨d0, d1, g0, g1⟩ := two_cells (heap_keep q4.out hb3)))
    have hs2 := (undrew hb2).size
    have hs3 := hb3.size
    have hfd := floor_up nb A B Q R S D HV.out HR0.out HLT.out HS2.out HD2.out
    have hx : (!(!nb) == nb) = true := by cases nb <;> rfl
    try rw [hx] at hn1
    go_wp2
    refine bodyPost_ret (v := .tuple #[.agg #[.bool n1, .slice ao1 len1 len1], .agg #[.bool n2, .slice ao2 len2 len2], .int .i64 0]) (by simp [results, Tryd.results42, go_sem, c0, c1, d0, d1]) rfl ⟨_, _, _, _, _, _, _, _, rfl, ?_, ?_, hfd, ?_⟩
    · exact (((((hn1.keep hb3).set (by simp; omega) _).set (by simp; omega) _).set (by simp; omega) _).set (by simp; omega) _).mono (by simp; omega)
    · exact ((((hn2.set (by simp; omega) _).set (by simp; omega) _).set (by simp; omega) _).set (by simp; omega) _).mono (by omega)
    · exact ((((((hbw).trans ((undrew hb2).mono (by simp; omega))).trans (hb3.mono (by omega))).setCell (by simp; omega) _).setCell (by simp; omega) _).setCell (by simp; omega) _).setCell (by simp; omega) _
    
  · have hcond : (!na == nb) = false ∨ ¬0 < rl := by assumption
    have hnn : ¬na = nb := by assumption
    have hna := bool_ne hnn
    clear hnn
    subst hna
    have hrl0 : rl = 0 := by
      rcases hcond with h | h
      · exact (bool_no nb h).elim
      · omega
    have hR0 : val R = 0 := by rw [List.eq_nil_of_length_eq_zero (hR.size.trans hrl0)]; rfl
    have HR0 := hid hR0
    clear hcond hR0 hrl0
    have ca0d := show w1.drew.cell? ⟨w.heap.size, 0, none⟩ = _ from ca0
    have cb0d := show w1.drew.cell? ⟨w.heap.size + 1, 0, none⟩ = _ from cb0
    go_region_held3 (fun w' => w'.cell? ⟨w.heap.size, 0, none⟩ = some (.bool (!nb)) ∧ w'.cell? ⟨w.heap.size + 1, 0, none⟩ = some (.bool nb)) (first | (with_reducible exact ⟨ca0, cb0⟩) | (with_reducible exact ⟨ca0d, cb0d⟩) | (with_reducible exact ⟨a03, b03⟩) | (with_reducible exact ⟨a04, b04⟩) | (simp [go_sem, a04, b04]; done))
      (first
        | (go_at_call 69; (with_reducible refine (give_any _ qo ql qc Q _ ?_).mono ?_); (first | exact hQ | exact hQ.drew); rintro e w2 ⟨n1, ao1, len1, rfl, hn1, hb2⟩; have a03 := cell_keep ca0 (undrew hb2); have b03 := cell_keep cb0 (undrew hb2); have q3 := hid (heap_keep P3.out (undrew hb2)); have q4 := hid (heap_keep P4.out (undrew hb2)); have hR2 := hR.keep (undrew hb2))
        | (go_at_call 69; (with_reducible refine (give_any _ ro rl rc R _ hR2).mono ?_); rintro e w3 ⟨n2, ao2, len2, rfl, hn2, hb3⟩; have a04 := cell_keep a03 hb3; have b04 := cell_keep b03 hb3; obtain ⟨c0, c1, f0, f1⟩ := two_cells (heap_keep q3.out hb3); obtain ⟨d0, d1, g0, g1⟩ := two_cells (heap_keep q4.out hb3)))
    have hs2 := (undrew hb2).size
    have hs3 := hb3.size
    have hfd := floor_zero nb A B Q R HV.out HR0.out HB0.out
    have hx : (!(!nb) == nb) = true := by cases nb <;> rfl
    try rw [hx] at hn1
    go_wp2
    refine bodyPost_ret (v := .tuple #[.agg #[.bool n1, .slice ao1 len1 len1], .agg #[.bool n2, .slice ao2 len2 len2], .int .i64 0]) (by simp [results, Tryd.results42, go_sem, c0, c1, d0, d1]) rfl ⟨_, _, _, _, _, _, _, _, rfl, ?_, ?_, hfd, ?_⟩
    · exact (((((hn1.keep hb3).set (by simp; omega) _).set (by simp; omega) _).set (by simp; omega) _).set (by simp; omega) _).mono (by simp; omega)
    · exact ((((hn2.set (by simp; omega) _).set (by simp; omega) _).set (by simp; omega) _).set (by simp; omega) _).mono (by omega)
    · exact ((((((hbw).trans ((undrew hb2).mono (by simp; omega))).trans (hb3.mono (by omega))).setCell (by simp; omega) _).setCell (by simp; omega) _).setCell (by simp; omega) _).setCell (by simp; omega) _
    
end Go.Proofs.YtldafoojkimdeaaDoor
