/- Walk of the document's answer: Text, item by item. No condition but those that each theorem names. -/
import Derived.Test.YtkapejcbmonfkaaGreatDoorBigRefcm
import Derived.Test.YtkapejcbmonfkaaGreatDoorBigX2
namespace Go.Proofs.YtkapejcbmonfkaaGreatDoor
open Go.RowKit Lm

noncomputable def tail60 (n : Nat) : Code := bigDrop n (Tryz.f126.body.getD .skip)
noncomputable def head60 (n : Nat) : Code := bigHead (tail60 n)
noncomputable def Q60 (w : World) (r : Nat) (v : Int) : Exit → Act → World → Prop := bodyPost Tryz.prog Tryz.f126 fun e w' => e = .returned (.string (tx r v)) ∧ Below w.heap.size w w'

theorem GrowB.neI {B : Nat} {w : World} {v : Value} {E : List Nat} {g : Nat} {Q : List Nat} (h : GrowB B w v E) (hQ : Rwi w g Q) : some g ≠ v.ownBlock := by
  rcases h.2 with ⟨rfl, -⟩ | ⟨g', cap, cur, rfl, -, hgb, -⟩
  · simp [Value.ownBlock]
  · intro e
    simp [Value.ownBlock] at e
    subst e
    have := hQ.block
    rw [hgb] at this
    simp at this
theorem Rwi.grownN {w w' : World} {g : Nat} {Q : List Nat} {row : Option Nat} (h : Rwi w g Q) (hg : w.grownBy w' row) (hn : some g ≠ row) : Rwi w' g Q :=
  ⟨by rw [hg.block g h.lt hn]; exact h.block⟩
/-- A slice of bytes that reads as a list. -/
structure Rby (w : World) (g : Nat) (E : List Nat) : Prop where
  cells : ∀ i, i < E.length → w.cell? ⟨g, i, none⟩ = some (.int .u8 (dg E i : Int))
theorem Rby.keep {w w' : World} {g : Nat} {E : List Nat} (h : Rby w g E) (hb : Below w.heap.size w w') : Rby w' g E :=
  ⟨fun i hi => (hb.cell (World.block_lt_of_cell? w _ (h.cells i hi))).trans (h.cells i hi)⟩
theorem GrowC.rby {B : Nat} {w : World} {v : Value} {L : List Nat} (h : GrowC B w v L) (h0 : L ≠ []) : ∃ g cap, v = .slice (some ⟨g, 0, none⟩) L.length cap ∧ Rby w g L := by
  obtain ⟨g, cap, rfl, _, _⟩ := World.ownsRow.form h (List.length_pos_iff.2 h0)
  refine ⟨g, cap, rfl, ⟨fun i hi => ?_⟩⟩
  rw [World.ownsRow.cellAt h i (by omega), bys_get _ _ hi]
theorem GrowC.le {B : Nat} {w : World} {v : Value} {E : List Nat} (h : GrowC B w v E) : ∀ k, v.ownBlock = some k → B ≤ k := by
  rcases h.2 with ⟨rfl, -⟩ | ⟨g', cap, cur, rfl, hB, -⟩
  · simp [Value.ownBlock]
  · intro k e
    simp [Value.ownBlock] at e
    omega
theorem GrowC.keep {B : Nat} {w w' : World} {v : Value} {E : List Nat} (h : GrowC B w v E) (hb : Below w.heap.size w w') : GrowC B w' v E :=
  World.ownsRow.kept h (row := none) ⟨hb.os, hb.tape, hb.output, hb.size, fun k hk _ => hb.block k hk⟩ (by cases v.ownBlock <;> simp)
theorem GrowC.snoc {B : Nat} {w : World} {v : Value} {L : List Nat} {z : Int} (x : Nat) (h : w.ownsRow B 5 1 v (L.length + 1) (bys L ++ [.int .u8 z])) (hz : z = (x : Int)) : GrowC B w v (L ++ [x]) := by
  subst hz
  unfold GrowC
  have e : bys (L ++ [x]) = bys L ++ [.int .u8 (x : Int)] := by simp [bys]
  rw [e, List.length_append]; exact h
theorem rev_step (E : List Nat) (m : Nat) (h : m < E.length) : (E.drop (m + 1)).reverse ++ [dg E m] = (E.drop m).reverse := by
  rw [List.drop_eq_getElem_cons h, List.reverse_cons]; unfold dg; rw [getD_in _ _ h]
/-- The text of a number and its digits. -/
theorem tx_digits {r : Nat} {v : Int} {n : Bool} {V : Nat} {D E : List Nat} (hn : n = decide (v < 0)) (hV : v.natAbs = V) (h0 : V ≠ 0) (hD : D = lowD r 4096 V) (hE : E = D.map dch ++ (if n then [45] else [])) : tx r v = strOf E.reverse := by
  subst hE hD
  unfold tx txt
  rw [hV, if_neg h0, hn, List.reverse_append]
  congr 1
  cases decide (v < 0) <;> rfl
theorem tx_nought (r : Nat) : tx r 0 = ⟨#[48]⟩ := strOf_zero
theorem cut_shorter {r : Nat} {M Q : List Nat} {lb x : Nat} (h2 : 2 ≤ r) (hM : B1 M) (hQ : B1 Q) (hl : M.length = lb) (h0 : 0 < lb) (h : bv M = r * bv Q + x) : (tl Q).length < lb := by
  have h1 := bv_lt hM
  rw [hl] at h1
  have h3 := btop_len hQ.tl (tl_top Q)
  rw [tl_bv] at h3
  have h4 : bv Q < 2 ^ (lb - 1) := by
    have e : 2 ^ lb = 2 * 2 ^ (lb - 1) := by rw [← Nat.pow_succ']; congr 1; omega
    have := Nat.mul_le_mul_right (bv Q) h2
    omega
  have := (bl_le (bv Q) (lb - 1)).2 h4
  omega

set_option maxRecDepth 100000 in
set_option maxHeartbeats 8000000 in
theorem TXT_7 {w wr : World} {r : Nat} {v : Int} {B : Nat} {tv : Value} {F : List Nat} {u0 u1 u2 u3 u4 u5 u6 u7 u8 u9 u11 u12 u13 u14 u15 u16 u17 u18 u19 u20 u21 u22 u23 u24 u25 u26 u27 u28 u29 u30 u31 u32 u33 u34 u35 u36 u37 u38 u39 u40 u41 u42 u43 u44 u45 u46 u47 u48 u49 u50 u51 u52 u53 u54 u55 u56 u57 u58 u59 u60 u61 u62 u63 u64 u65 u66 u67 u68 u69 u70 u71 u72 u73 u74 : Value}
    (h0 : F ≠ []) (hG : GrowC B wr tv F) (hT : Hid (tx r v = strOf F)) (hb : Below w.heap.size w wr) :
    Code.wp Tryz.prog (tail60 8) (Q60 w r v) ⟨#[u0, u1, u2, u3, u4, u5, u6, u7, u8, u9, tv, u11, u12, u13, u14, u15, u16, u17, u18, u19, u20, u21, u22, u23, u24, u25, u26, u27, u28, u29, u30, u31, u32, u33, u34, u35, u36, u37, u38, u39, u40, u41, u42, u43, u44, u45, u46, u47, u48, u49, u50, u51, u52, u53, u54, u55, u56, u57, u58, u59, u60, u61, u62, u63, u64, u65, u66, u67, u68, u69, u70, u71, u72, u73, u74], []⟩ wr := by
  obtain ⟨g, cap, rfl, hconv⟩ := hG.str h0
  conv => arg 2; whnf
  unfold Q60
  go_wp2
  go_ret
  exact ⟨by rw [hT.out]; rfl, hb⟩

set_option maxRecDepth 100000 in
set_option maxHeartbeats 8000000 in
theorem TXT_5 {w wz : World} {r : Nat} {v : Int} {ge le ce : Nat} {E : List Nat} {u0 u1 u2 u3 u4 u6 u7 u8 u9 u10 u11 u12 u13 u14 u15 u16 u17 u18 u19 u20 u21 u22 u23 u24 u25 u26 u27 u28 u29 u30 u31 u32 u33 u34 u35 u36 u37 u38 u39 u40 u41 u42 u43 u44 u45 u46 u47 u48 u49 u50 u51 u52 u53 u54 u55 u56 u57 u58 u59 u60 u61 u62 u63 u64 u65 u66 u67 u68 u69 u70 u71 u72 u73 u74 : Value}
    (hl : le ≤ 5000) (h0 : 0 < le) (hL : Hid (E.length = le)) (hc : le ≤ ce) (hE : Rby wz ge E) (hT : Hid (tx r v = strOf E.reverse)) (hb : Below w.heap.size w wz) :
    Code.wp Tryz.prog (tail60 6) (Q60 w r v) ⟨#[u0, u1, u2, u3, u4, .slice (some ⟨ge, 0, none⟩) le ce, u6, u7, u8, u9, u10, u11, u12, u13, u14, u15, u16, u17, u18, u19, u20, u21, u22, u23, u24, u25, u26, u27, u28, u29, u30, u31, u32, u33, u34, u35, u36, u37, u38, u39, u40, u41, u42, u43, u44, u45, u46, u47, u48, u49, u50, u51, u52, u53, u54, u55, u56, u57, u58, u59, u60, u61, u62, u63, u64, u65, u66, u67, u68, u69, u70, u71, u72, u73, u74], []⟩ wz := by
  obtain ⟨i0, hi, hz0, hz1, hz2⟩ := info_parts Tryz.info5
  show Code.wp Tryz.prog (Code.seq (head60 6) (Code.seq (head60 7) (tail60 8))) _ _ _
  conv => arg 2; arg 1; whnf
  conv => arg 2; arg 2; arg 1; whnf
  go_wp2
  go_loopw [10, 11] (fun t i ws => ∃ k : Nat, k ≤ le ∧ i = .int .i64 ((k : Int) - 1) ∧ GrowC wz.heap.size ws t (E.drop k).reverse ∧ Below wz.heap.size wz ws) (fun _ i _ => (intOf i + 1).toNat)
  case atStart => exact ⟨le, Nat.le_refl _, rfl, by rw [List.drop_eq_nil_of_le (by rw [hL.out]; exact Nat.le_refl _)]; exact World.ownsRow_nil _ _ _ _, Below.refl _ _⟩
  case round =>
    obtain ⟨k, hk, rfl, hG, hbq⟩ := hrel
    cases k with
    | zero =>
      have hF : Hid (E.drop 0 = E) := hid (by simp)
      go_wp2
      refine TXT_7 ?_ hG (hid (by rw [hF.out]; exact hT.out)) (hb.trans (hbq.mono hb.size))
      rw [hF.out]; intro e
      have h1 : E = [] := by simpa using e
      have h2 := hL.out
      rw [h1] at h2; simp at h2; omega
    | succ m =>
      have hcm := (hE.keep hbq).cells m (by rw [hL.out]; omega)
      have hi1 : ((m + 1 : Nat) : Int) - 1 = (m : Int) := by omega
      rw [hi1]; clear hi1
      have hlen : Hid ((E.drop (m + 1)).reverse.length = le - (m + 1)) := hid (by rw [List.length_reverse, List.length_drop, hL.out])
      have hsz := hbq.size
      go_wp2_with (at_builtin; refine wpList_append_own _ rfl _ _ 172 rfl wz.heap.size 5 i0 (.int .u8 0) 1 1 Tryz.underlying172 hi hz0 hz1 hz2 rfl (by decide) _ _ _ rfl (World.ownsRow.alloc hG _) ⟨wr.heap.size, 0, none⟩ 1 1 [.int .u8 (dg E m : Int)] rfl rfl ?c1 ?c2 ?c3 ?c4 ?c5 ?_)
      case c1 =>
        intro j u hj
        match j, hj with
        | 0, hj => simp at hj; subst hj; simp [Addr.add]
      case c2 => intro u hu; simp at hu; subst hu; rfl
      case c3 => rw [hlen.out]; unfold maxLen; omega
      case c4 => rw [hlen.out]; omega
      case c5 => simp; omega
      intro v' w5 hown' hgrow _
      have hb5 : Below wz.heap.size wz w5 := (hbq.alloc (by omega) _).grown hgrow (by simp; omega) hG.le
      have hG5 : GrowC wz.heap.size w5 v' (E.drop m).reverse := by
        rw [← rev_step E m (by rw [hL.out]; omega)]
        exact GrowC.snoc _ (by have h8 := hown'; rw [hL.out] at h8; rw [hlen.out]; exact h8) rfl
      clear hgrow hown'
      go_wp2
      go_roundw
      case rel => exact ⟨m, by omega, by go_num, hG5, hb5⟩
      case measure => simp [intOf]

set_option maxRecDepth 100000 in
set_option maxHeartbeats 8000000 in
theorem TXT_4 {w wr : World} {r : Nat} {v : Int} {gx xl xc V B : Nat} {xo : Option Addr} {nx : Bool} {ov : Value} {D : List Nat} {u0 u1 u3 u4 u6 u7 u8 u9 u10 u11 u12 u13 u14 u15 u16 u17 u18 u19 u20 u21 u22 u23 u24 u25 u26 u27 u28 u29 u30 u31 u32 u33 u34 u35 u36 u37 u38 u39 u40 u41 u42 u43 u44 u45 u46 u47 u48 u49 u50 u51 u52 u53 u54 u55 u56 u57 u58 u59 u60 u61 u62 u63 u64 u65 u66 u67 u68 u69 u70 u71 u72 u73 u74 : Value}
    (hlen : D.length ≤ 4096) (h0 : Hid (V ≠ 0)) (hB : B ≤ w.heap.size + 1) (hwB : w.heap.size ≤ B) (hn : Hid (nx = decide (v < 0))) (hV : Hid (v.natAbs = V)) (hD : Hid (D = lowD r 4096 V)) (px : Pr wr gx 138 (.bool nx) (.slice xo xl xc)) (hG : GrowB B wr ov D) (hb : Below w.heap.size w wr) :
    Code.wp Tryz.prog (tail60 5) (Q60 w r v) ⟨#[u0, u1, .pointer (some ⟨gx, 0, none⟩), u3, u4, ov, u6, u7, u8, u9, u10, u11, u12, u13, u14, u15, u16, u17, u18, u19, u20, u21, u22, u23, u24, u25, u26, u27, u28, u29, u30, u31, u32, u33, u34, u35, u36, u37, u38, u39, u40, u41, u42, u43, u44, u45, u46, u47, u48, u49, u50, u51, u52, u53, u54, u55, u56, u57, u58, u59, u60, u61, u62, u63, u64, u65, u66, u67, u68, u69, u70, u71, u72, u73, u74], []⟩ wr := by
  obtain ⟨i0, hi, hz0, hz1, hz2⟩ := info_parts Tryz.info5
  have hD0 : Hid (D ≠ []) := hid (by rw [hD.out, lowD_step r 4095 V h0.out]; exact List.cons_ne_nil _ _)
  have hGC := hG.bytes
  have hml : Hid ((D.map dch).length = D.length) := hid (by simp)
  obtain ⟨kx0, kx1, _, _⟩ := two_cells px
  show Code.wp Tryz.prog (Code.seq (head60 5) (tail60 6)) _ _ _
  conv => arg 2; arg 1; whnf
  cases nx with
  | false =>
    obtain ⟨g, cap, e1, hR⟩ := hGC.rby (by intro e; exact hD0.out (List.map_eq_nil_iff.1 e))
    have hcap : (D.map dch).length ≤ cap := by
      rcases hGC.2 with ⟨e2, _⟩ | ⟨g', cap', cur, e2, _, _, hnc, _⟩
      · rw [e1] at e2; cases e2
      · rw [e1] at e2; cases e2; exact hnc
    subst e1
    go_wp2
    exact TXT_5 (E := D.map dch) (by omega) (List.length_pos_iff.2 hD0.out) hml (by rw [hml.out] at hcap; exact hcap) hR (hid (tx_digits hn.out hV.out h0.out hD.out (by simp))) hb
  | true =>
    go_wp2_with (at_builtin; refine wpList_append_own _ rfl _ _ 172 rfl B 5 i0 (.int .u8 0) 1 1 Tryz.underlying172 hi hz0 hz1 hz2 rfl (by decide) _ _ _ rfl (World.ownsRow.alloc hGC _) ⟨wr.heap.size, 0, none⟩ 1 1 [.int .u8 45] rfl rfl ?c1 ?c2 ?c3 ?c4 ?c5 ?_)
    case c1 =>
      intro j u hj
      match j, hj with
      | 0, hj => simp at hj; subst hj; simp [Addr.add]
    case c2 => intro u hu; simp at hu; subst hu; rfl
    case c3 => rw [hml.out]; unfold maxLen; omega
    case c4 => rw [hml.out]; omega
    case c5 => have := px.lt; have := hb.size; simp; omega
    intro v' w5 hown' hgrow _
    have hb5 : Below w.heap.size w w5 := (hb.alloc hb.size _).grown hgrow (by have := hb.size; simp; omega) (fun k hk => Nat.le_trans hwB (hGC.le k hk))
    have hG5 : GrowC B w5 v' (D.map dch ++ [45]) := GrowC.snoc 45 (by rw [hml.out]; exact hown') rfl
    clear hgrow hown'
    obtain ⟨g, cap, e1, hR⟩ := hG5.rby (by simp)
    have hcap : (D.map dch ++ [45]).length ≤ cap := by
      rcases hG5.2 with ⟨e2, _⟩ | ⟨g', cap', cur, e2, _, _, hnc, _⟩
      · rw [e1] at e2; cases e2
      · rw [e1] at e2; cases e2; exact hnc
    subst e1
    go_wp2
    exact TXT_5 (le := (D.map dch ++ [45]).length) (E := D.map dch ++ [45]) (by simp; omega) (by simp) (hid rfl) hcap hR (hid (tx_digits hn.out hV.out h0.out hD.out (by simp))) hb5

set_option maxRecDepth 100000 in
set_option maxHeartbeats 8000000 in
theorem TXT_3 {w wz : World} {r : Nat} {v : Int} {gx xl xc : Nat} {xo : Option Addr} {nx : Bool} {L : List Nat} {u0 u3 u4 u7 u8 u9 u10 u11 u12 u13 u14 u15 u16 u17 u18 u19 u20 u21 u22 u23 u24 u25 u26 u27 u28 u29 u30 u31 u32 u33 u34 u35 u36 u37 u38 u39 u40 u41 u42 u43 u44 u45 u46 u47 u48 u49 u50 u51 u52 u53 u54 u55 u56 u57 u58 u59 u60 u61 u62 u63 u64 u65 u66 u67 u68 u69 u70 u71 u72 u73 u74 : Value}
    (h2 : 2 ≤ r) (h36 : r ≤ 36) (sx : xl ≤ 4096) (h0' : 0 < xl) (hn : Hid (nx = decide (v < 0))) (hV : Hid (v.natAbs = bv L)) (rL : Ri wz xo xl xc L) (bL : B1 L) (tL : Top L) (hgx : gx < wz.heap.size) (px : Pr wz gx 138 (.bool nx) (.slice xo xl xc)) (hb : Below w.heap.size w wz) (hzs : wz.heap.size = w.heap.size + 1) :
    Code.wp Tryz.prog (tail60 4) (Q60 w r v) ⟨#[u0, .int .i64 (r : Int), .pointer (some ⟨gx, 0, none⟩), u3, u4, .slice none 0 0, .slice xo xl xc, u7, u8, u9, u10, u11, u12, u13, u14, u15, u16, u17, u18, u19, u20, u21, u22, u23, u24, u25, u26, u27, u28, u29, u30, u31, u32, u33, u34, u35, u36, u37, u38, u39, u40, u41, u42, u43, u44, u45, u46, u47, u48, u49, u50, u51, u52, u53, u54, u55, u56, u57, u58, u59, u60, u61, u62, u63, u64, u65, u66, u67, u68, u69, u70, u71, u72, u73, u74], []⟩ wz := by
  obtain ⟨i0, hi, hz0, hz1, hz2⟩ := info_parts Tryz.infoI
  obtain ⟨i5, hj, hy0, hy1, hy2⟩ := info_parts Tryz.info5
  have HZS := hid hzs
  clear hzs
  show Code.wp Tryz.prog (Code.seq (head60 4) (tail60 5)) _ _ _
  conv => arg 2; arg 1; whnf
  have PX := hid px
  clear px
  go_wp2_with fail
  go_loopw [5, 6] (fun ov b wr => ∃ (D : List Nat) (bo : Option Addr) (lb cb : Nat) (M : List Nat), b = .slice bo lb cb ∧ Ri wr bo lb cb M ∧ B1 M ∧ Top M ∧ D.length + lb ≤ 4096 ∧ GrowB wz.heap.size wr ov D ∧ Hid (D ++ lowD r (4096 - D.length) (bv M) = lowD r 4096 (bv L)) ∧ Below wz.heap.size wz wr) (fun _ b _ => slen b)
  case atStart => exact ⟨[], _, _, _, L, rfl, rL, bL, tL, by simpa using sx, World.ownsRow_nil _ _ _ _, hid rfl, Below.refl _ _⟩
  case round =>
    obtain ⟨D, bo, lb, cb, M, rfl, rM, bM, tM, hDl, hG, hlow, hbr⟩ := hrel
    obtain ⟨wq, rfl⟩ : ∃ wq : World, wq = wr := ⟨_, rfl⟩
    have hML := hid rM.size
    have hsr := hbr.size
    by_cases h0 : 0 < lb
    · go_wp2_with (at_make; refine wpList_make_full _ rfl _ _ 33 rfl wq.heap.size 3 i0 (.int .i64 0) 1 Tryz.underlying33 hi hz0 hz1 .i64 .i64 _ _ lb rfl rfl (by omega) (by omega) ?c1 ?c2 ?c3 ?_)
      case c1 => rw [hz2]; omega
      case c2 => unfold maxLen; omega
      case c3 => simp
      intro w1 hown hgrow
      have hrow : Rwi w1 wq.heap.size (List.replicate lb 0) := Rwi.of_own hown (made_zeros_i _ _ (by omega))
      have hbel : Below wq.heap.size wq w1 := (Below.refl _ _).grown hgrow (Nat.le_refl _) (by intro k hk; simp at hk)
      clear hown hgrow
      go_wp2
      go_loopw [7, 9] (fun x i ws => ∃ (k xv : Nat) (Q : List Nat), k ≤ lb ∧ i = .int .i64 ((k : Int) - 1) ∧ x = .int .i64 (xv : Int) ∧ xv < r ∧ Hid (Q.length = lb) ∧ Hid (∀ j, j < k → dg Q j = 0) ∧ B1 Q ∧ Hid (bv (M.drop k) = r * bv (Q.drop k) + xv) ∧ Rwi ws wq.heap.size Q ∧ Below wq.heap.size wq ws) (fun _ i _ => (intOf i + 1).toNat)
      case atStart => exact ⟨lb, 0, List.replicate lb 0, Nat.le_refl _, rfl, rfl, by omega, hid (by simp), hid (fun j _ => dg_repl _ _), B1.zeros _, hid (by rw [List.drop_eq_nil_of_le (by rw [hML.out]; exact Nat.le_refl _), List.drop_eq_nil_of_le (by simp)]; simp [bv]), hrow, hbel⟩
      case round =>
        obtain ⟨k, xv, Q, hk, rfl, rfl, hxv, hQl, hQ0, bQ, hdiv, hR, hbq⟩ := hrel
        clear hrow hbel
        cases k with
        | zero =>
          have hdv : Hid (bv M = r * bv Q + xv) := hid (by have := hdiv.out; simpa using this)
          have hRi := hR.whole lb (by rw [hQl.out]; exact Nat.le_refl _) (by rw [hQl.out]; omega)
          rw [hQl.out] at hRi
          have hG2 := hG.keep hbq
          have hx36 : xv < 36 := by omega
          have hbz : Below wz.heap.size wz wr := hbr.trans (hbq.mono hsr)
          have hsz := hbz.size
          go_wp2_with (first
            | (go_at_call 149; refine (cutR _ _ _ Q _ hRi).mono ?_; rintro e w' ⟨rfl, rfl⟩)
            | (at_builtin; refine wpList_append_own _ rfl _ _ 172 rfl wz.heap.size 5 i5 (.int .u8 0) 1 1 Tryz.underlying172 hj hy0 hy1 hy2 rfl (by decide) _ _ _ rfl (World.ownsRow.alloc hG2 _) ⟨wr.heap.size, 0, none⟩ 1 1 [.int .u8 (dch xv : Int)] rfl rfl ?c1 ?c2 ?c3 ?c4 ?c5 ?_))
          case c1 =>
            intro j u hj
            match j, hj with
            | 0, hj => simp at hj; subst hj; rw [← digit_at _ hx36]; simp [Addr.add]
          case c2 => intro u hu; simp at hu; subst hu; rfl
          case c3 => unfold maxLen; omega
          case c4 => omega
          case c5 => simp; omega
          intro v' w5 hown' hgrow _
          have hb5 : Below wz.heap.size wz w5 := (hbz.alloc (by omega) _).grown hgrow (by simp; omega) hG2.le
          have hR5 : Rwi w5 wq.heap.size Q := (hR.alloc _).grownN hgrow (hG2.neI hR)
          clear hgrow
          have hsh := cut_shorter h2 bM bQ hML.out h0 hdv.out
          go_wp2
          go_roundw
          case rel =>
            have hRi5 := (hR5.whole lb (by rw [hQl.out]; exact Nat.le_refl _) (by rw [hQl.out]; omega)).tl
            refine ⟨D ++ [xv], _, _, _, tl Q, rfl, hRi5, bQ.tl, tl_top Q, by simp; omega, ?_, hid ?_, hb5⟩
            · unfold GrowB
              rw [chs_snoc] at hown'
              rw [List.length_append]; exact hown'
            · have hM0 : bv M ≠ 0 := top_pos tM (by intro e; have := hML.out; rw [e] at this; simp at this; omega)
              obtain ⟨e1, e2⟩ := bdiv_end hdv.out hxv
              have hf : 4096 - D.length = (4096 - (D ++ [xv]).length) + 1 := by simp; omega
              have h3 := hlow.out
              rw [hf, lowD_step _ _ _ hM0, ← e1, ← e2] at h3
              rw [tl_bv, List.append_assoc, List.singleton_append]; exact h3
          case measure => simp [slen]; exact hsh
        | succ m =>
          obtain ⟨b, off, rfl, hc⟩ := (rM.keep hbq).cells (by omega)
          have hcm := hc m (by omega)
          have hdb := bM.dg m
          have hfr := hR.free m
          have hcur := hR.cell m (by rw [hQl.out]; omega)
          have hrm := rM.room
          clear hc
          have hi1 : ((m + 1 : Nat) : Int) - 1 = (m : Int) := by omega
          rw [hi1]; clear hi1
          by_cases hge : r ≤ 2 * xv + dg M m
          · go_wp2
            go_roundw
            case rel =>
              refine ⟨m, 2 * xv + dg M m - r, Q.set m 1, by omega, by go_num, by go_num, by omega, hid (by rw [List.length_set, hQl.out]), hid (fun j hj => by rw [dg_set_ne _ _ _ _ (by omega)]; exact hQ0.out j (by omega)), bQ.set _ (by omega), hid ?_, hR.set' m 1 rfl, hbq.setCell (by simp) _⟩
              exact bdiv_yes (by rw [hQl.out]; omega) hdiv.out (by omega)
            case measure => simp [intOf]
          · go_wp2
            go_roundw
            case rel =>
              refine ⟨m, 2 * xv + dg M m, Q, by omega, by go_num, by go_num, by omega, hQl, hid (fun j hj => hQ0.out j (by omega)), bQ, hid ?_, hR, hbq⟩
              exact bdiv_no hdiv.out (hQ0.out m (by omega)) rfl
            case measure => simp [intOf]
    · have hM : Hid (bv M = 0) := hid (by
        have h3 : M = [] := List.eq_nil_of_length_eq_zero (by rw [hML.out]; omega)
        rw [h3]; rfl)
      have hD : Hid (D = lowD r 4096 (bv L)) := hid (by
        have h9 := hlow.out
        rw [hM.out, lowD_zero, List.append_nil] at h9
        exact h9)
      have hL0 : Hid (bv L ≠ 0) := hid (top_pos tL (by intro e; have := rL.size; rw [e] at this; simp at this; omega))
      go_wp2
      exact TXT_4 (by omega) hL0 (by rw [HZS.out]; exact Nat.le_refl _) (by rw [HZS.out]; omega) hn hV hD (PX.out.keep hbr) hG (hb.trans (hbr.mono hb.size))

set_option maxRecDepth 100000 in
set_option maxHeartbeats 8000000 in
theorem textR (nx : Bool) (xo : Option Addr) (xl xc : Nat) (v : Int) (r : Nat) (w : World) (hX : Big w nx xo xl xc v) (sx : xl ≤ 4096) (h2 : 2 ≤ r) (h36 : r ≤ 36) :
    Calls Tryz.prog 126 #[.agg #[.bool nx, .slice xo xl xc], .int .i64 (r : Int)] w fun e w' => e = .returned (.string (tx r v)) ∧ Below w.heap.size w w' := by
  have hsn := hid hX.sign
  have hln := hX.len
  by_cases h0 : 0 < xl
  · obtain ⟨L, rL, bL, tL, _, ev⟩ := hX
    have hV : Hid (v.natAbs = bv L) := hid (by rw [← ev, sg_abs])
    have hzb : Below w.heap.size w (w.alloc (.cells #[.bool nx, .slice xo xl xc] 138)) := (Below.refl _ _).alloc (Nat.le_refl _) _
    have px := Pr.new w 138 (.bool nx) (.slice xo xl xc)
    obtain ⟨kx0, kx1, _, _⟩ := two_cells px
    have PX := hid px
    have RZ := hid (rL.keep hzb)
    have HB := hid hzb
    clear px hzb ev rL hln
    go_enter Tryz.func126, Tryz.ntmps126
    change Code.wp Tryz.prog (Code.seq (head60 0) (Code.seq (head60 1) (Code.seq (head60 2) (Code.seq (head60 3) (tail60 4))))) (Q60 w r v) _ _
    conv => arg 2; arg 1; whnf
    conv => arg 2; arg 2; arg 1; whnf
    conv => arg 2; arg 2; arg 2; arg 1; whnf
    conv => arg 2; arg 2; arg 2; arg 2; arg 1; whnf
    go_wp2
    exact TXT_3 h2 h36 sx h0 hsn hV RZ.out bL tL (by simp) PX.out HB.out (by simp)
  · have hv : v = 0 := by
      have h1 := (bl_le v.natAbs 0).1 (by omega)
      simp at h1; exact h1
    have hxl : xl = 0 := by omega
    subst hv hxl
    have HT := hid (tx_nought r)
    clear hln hX
    go_enter Tryz.func126, Tryz.ntmps126
    go_wp2
    go_ret
    exact ⟨by rw [HT.out]; rfl, (Below.refl _ _).alloc (Nat.le_refl _) _⟩

end Go.Proofs.YtkapejcbmonfkaaGreatDoor
