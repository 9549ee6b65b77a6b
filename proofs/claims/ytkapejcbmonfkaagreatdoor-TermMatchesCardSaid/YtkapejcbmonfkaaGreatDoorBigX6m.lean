/- Walk of the document's answer: Text, item by item. No condition but those that each theorem names. Walk of the document's answer: Parse, item by item. No condition but those that each theorem names. -/
import Derived.Test.YtkapejcbmonfkaaGreatDoorBigRefcm
import Derived.Test.YtkapejcbmonfkaaGreatDoorBigX2
namespace Go.Proofs.YtkapejcbmonfkaaGreatDoor
open Go.RowKit Lm

noncomputable def tail60 (n : Nat) : Code := bigDrop n (Tryz.f126.body.getD .skip)
noncomputable def head60 (n : Nat) : Code := bigHead (tail60 n)
noncomputable def Q60 (w : World) (r : Nat) (v : Int) : Exit → Act → World → Prop := bodyPost Tryz.prog Tryz.f126 fun e w' => e = .returned (.string (tx r v)) ∧ Below w.heap.size w w'

theorem GrowB.neI {B : Nat} {w : World} {v : Value} {E : List Nat} {g : Nat} {Q : List Nat} (h : GrowB B w v E) (hQ : Rwi w g Q) : some g ≠ v.ownBlock := by
  rcases h.2 with ⟨rfl, -⟩ | ⟨g', cap, cur, rfl, -, hgb, -⟩
  · simp [Value.ownBlock]
  · intro e
    simp [Value.ownBlock] at e
    subst e
    have := hQ.block
    rw [hgb] at this
    simp at this
theorem Rwi.grownN {w w' : World} {g : Nat} {Q : List Nat} {row : Option Nat} (h : Rwi w g Q) (hg : w.grownBy w' row) (hn : some g ≠ row) : Rwi w' g Q :=
  ⟨by rw [hg.block g h.lt hn]; exact h.block⟩
/-- A slice of bytes that reads as a list. -/
structure Rby (w : World) (g : Nat) (E : List Nat) : Prop where
  cells : ∀ i, i < E.length → w.cell? ⟨g, i, none⟩ = some (.int .u8 (dg E i : Int))
theorem Rby.keep {w w' : World} {g : Nat} {E : List Nat} (h : Rby w g E) (hb : Below w.heap.size w w') : Rby w' g E :=
  ⟨fun i hi => (hb.cell (World.block_lt_of_cell? w _ (h.cells i hi))).trans (h.cells i hi)⟩
theorem GrowC.rby {B : Nat} {w : World} {v : Value} {L : List Nat} (h : GrowC B w v L) (h0 : L ≠ []) : ∃ g cap, v = .slice (some ⟨g, 0, none⟩) L.length cap ∧ Rby w g L := by
  obtain ⟨g, cap, rfl, _, _⟩ := World.ownsRow.form h (List.length_pos_iff.2 h0)
  refine ⟨g, cap, rfl, ⟨fun i hi => ?_⟩⟩
  rw [World.ownsRow.cellAt h i (by omega), bys_get _ _ hi]
theorem GrowC.le {B : Nat} {w : World} {v : Value} {E : List Nat} (h : GrowC B w v E) : ∀ k, v.ownBlock = some k → B ≤ k := by
  rcases h.2 with ⟨rfl, -⟩ | ⟨g', cap, cur, rfl, hB, -⟩
  · simp [Value.ownBlock]
  · intro k e
    simp [Value.ownBlock] at e
    omega
theorem GrowC.keep {B : Nat} {w w' : World} {v : Value} {E : List Nat} (h : GrowC B w v E) (hb : Below w.heap.size w w') : GrowC B w' v E :=
  World.ownsRow.kept h (row := none) ⟨hb.os, hb.tape, hb.output, hb.size, fun k hk _ => hb.block k hk⟩ (by cases v.ownBlock <;> simp)
theorem GrowC.snoc {B : Nat} {w : World} {v : Value} {L : List Nat} {z : Int} (x : Nat) (h : w.ownsRow B 5 1 v (L.length + 1) (bys L ++ [.int .u8 z])) (hz : z = (x : Int)) : GrowC B w v (L ++ [x]) := by
  subst hz
  unfold GrowC
  have e : bys (L ++ [x]) = bys L ++ [.int .u8 (x : Int)] := by simp [bys]
  rw [e, List.length_append]; exact h
theorem rev_step (E : List Nat) (m : Nat) (h : m < E.length) : (E.drop (m + 1)).reverse ++ [dg E m] = (E.drop m).reverse := by
  rw [List.drop_eq_getElem_cons h, List.reverse_cons]; unfold dg; rw [getD_in _ _ h]
/-- The text of a number and its digits. -/
theorem tx_digits {r : Nat} {v : Int} {n : Bool} {V : Nat} {D E : List Nat} (hn : n = decide (v < 0)) (hV : v.natAbs = V) (h0 : V ≠ 0) (hD : D = lowD r 4096 V) (hE : E = D.map dch ++ (if n then [45] else [])) : tx r v = strOf E.reverse := by
  subst hE hD
  unfold tx txt
  rw [hV, if_neg h0, hn, List.reverse_append]
  congr 1
  cases decide (v < 0) <;> rfl
theorem tx_nought (r : Nat) : tx r 0 = ⟨#[48]⟩ := strOf_zero
theorem cut_shorter {r : Nat} {M Q : List Nat} {lb x : Nat} (h2 : 2 ≤ r) (hM : B1 M) (hQ : B1 Q) (hl : M.length = lb) (h0 : 0 < lb) (h : bv M = r * bv Q + x) : (tl Q).length < lb := by
  have h1 := bv_lt hM
  rw [hl] at h1
  have h3 := btop_len hQ.tl (tl_top Q)
  rw [tl_bv] at h3
  have h4 : bv Q < 2 ^ (lb - 1) := by
    have e : 2 ^ lb = 2 * 2 ^ (lb - 1) := by rw [← Nat.pow_succ']; congr 1; omega
    have := Nat.mul_le_mul_right (bv Q) h2
    omega
  have := (bl_le (bv Q) (lb - 1)).2 h4
  omega

set_option maxRecDepth 100000 in
set_option maxHeartbeats 8000000 in
theorem TXT_7 {w wr : World} {r : Nat} {v : Int} {B : Nat} {tv : Value} {F : List Nat} {u0 u1 u2 u3 u4 u5 u6 u7 u8 u9 u11 u12 u13 u14 u15 u16 u17 u18 u19 u20 u21 u22 u23 u24 u25 u26 u27 u28 u29 u30 u31 u32 u33 u34 u35 u36 u37 u38 u39 u40 u41 u42 u43 u44 u45 u46 u47 u48 u49 u50 u51 u52 u53 u54 u55 u56 u57 u58 u59 u60 u61 u62 u63 u64 u65 u66 u67 u68 u69 u70 u71 u72 u73 u74 : Value}
    (h0 : F ≠ []) (hG : GrowC B wr tv F) (hT : Hid (tx r v = strOf F)) (hb : Below w.heap.size w wr) :
    Code.wp Tryz.prog (tail60 8) (Q60 w r v) ⟨#[u0, u1, u2, u3, u4, u5, u6, u7, u8, u9, tv, u11, u12, u13, u14, u15, u16, u17, u18, u19, u20, u21, u22, u23, u24, u25, u26, u27, u28, u29, u30, u31, u32, u33, u34, u35, u36, u37, u38, u39, u40, u41, u42, u43, u44, u45, u46, u47, u48, u49, u50, u51, u52, u53, u54, u55, u56, u57, u58, u59, u60, u61, u62, u63, u64, u65, u66, u67, u68, u69, u70, u71, u72, u73, u74], []⟩ wr := by
  obtain ⟨g, cap, rfl, hconv⟩ := hG.str h0
  conv => arg 2; whnf
  unfold Q60
  go_wp2
  go_ret
  exact ⟨by rw [hT.out]; rfl, hb⟩

set_option maxRecDepth 100000 in
set_option maxHeartbeats 8000000 in
theorem TXT_5 {w wz : World} {r : Nat} {v : Int} {ge le ce : Nat} {E : List Nat} {u0 u1 u2 u3 u4 u6 u7 u8 u9 u10 u11 u12 u13 u14 u15 u16 u17 u18 u19 u20 u21 u22 u23 u24 u25 u26 u27 u28 u29 u30 u31 u32 u33 u34 u35 u36 u37 u38 u39 u40 u41 u42 u43 u44 u45 u46 u47 u48 u49 u50 u51 u52 u53 u54 u55 u56 u57 u58 u59 u60 u61 u62 u63 u64 u65 u66 u67 u68 u69 u70 u71 u72 u73 u74 : Value}
    (hl : le ≤ 5000) (h0 : 0 < le) (hL : Hid (E.length = le)) (_hc : le ≤ ce) (hE : Rby wz ge E) (hT : Hid (tx r v = strOf E.reverse)) (hb : Below w.heap.size w wz) :
    Code.wp Tryz.prog (tail60 6) (Q60 w r v) ⟨#[u0, u1, u2, u3, u4, .slice (some ⟨ge, 0, none⟩) le ce, u6, u7, u8, u9, u10, u11, u12, u13, u14, u15, u16, u17, u18, u19, u20, u21, u22, u23, u24, u25, u26, u27, u28, u29, u30, u31, u32, u33, u34, u35, u36, u37, u38, u39, u40, u41, u42, u43, u44, u45, u46, u47, u48, u49, u50, u51, u52, u53, u54, u55, u56, u57, u58, u59, u60, u61, u62, u63, u64, u65, u66, u67, u68, u69, u70, u71, u72, u73, u74], []⟩ wz := by
  obtain ⟨i0, hi, hz0, hz1, hz2⟩ := info_parts Tryz.info5
  show Code.wp Tryz.prog (Code.seq (head60 6) (Code.seq (head60 7) (tail60 8))) _ _ _
  conv => arg 2; arg 1; whnf
  conv => arg 2; arg 2; arg 1; whnf
  go_wp2
  go_loopw [10, 11] (fun t i ws => ∃ k : Nat, k ≤ le ∧ i = .int .i64 ((k : Int) - 1) ∧ GrowC wz.heap.size ws t (E.drop k).reverse ∧ Below wz.heap.size wz ws) (fun _ i _ => (intOf i + 1).toNat)
  case atStart => exact ⟨le, Nat.le_refl _, rfl, by rw [List.drop_eq_nil_of_le (by rw [hL.out]; exact Nat.le_refl _)]; exact World.ownsRow_nil _ _ _ _, Below.refl _ _⟩
  case round =>
    obtain ⟨k, hk, rfl, hG, hbq⟩ := hrel
    cases k with
    | zero =>
      have hF : Hid (E.drop 0 = E) := hid (by simp)
      go_wp2
      refine TXT_7 ?_ hG (hid (by rw [hF.out]; exact hT.out)) (hb.trans (hbq.mono hb.size))
      rw [hF.out]; intro e
      have h1 : E = [] := by simpa using e
      have h2 := hL.out
      rw [h1] at h2; simp at h2; omega
    | succ m =>
      have hcm := (hE.keep hbq).cells m (by rw [hL.out]; omega)
      have hi1 : ((m + 1 : Nat) : Int) - 1 = (m : Int) := by omega
      rw [hi1]; clear hi1
      have hlen : Hid ((E.drop (m + 1)).reverse.length = le - (m + 1)) := hid (by rw [List.length_reverse, List.length_drop, hL.out])
      have hsz := hbq.size
      go_wp2_with (at_builtin; refine wpList_append_own _ rfl _ _ 172 rfl wz.heap.size 5 i0 (.int .u8 0) 1 1 Tryz.underlying172 hi hz0 hz1 hz2 rfl (by decide) _ _ _ rfl (World.ownsRow.alloc hG _) ⟨wr.heap.size, 0, none⟩ 1 1 [.int .u8 (dg E m : Int)] rfl rfl ?c1 ?c2 ?c3 ?c4 ?c5 ?_)
      case c1 =>
        intro j u hj
        match j, hj with
        | 0, hj => simp at hj; subst hj; simp [Addr.add]
      case c2 => intro u hu; simp at hu; subst hu; rfl
      case c3 => rw [hlen.out]; unfold maxLen; omega
      case c4 => rw [hlen.out]; omega
      case c5 => simp; omega
      intro v' w5 hown' hgrow _
      have hb5 : Below wz.heap.size wz w5 := (hbq.alloc (by omega) _).grown hgrow (by simp; omega) hG.le
      have hG5 : GrowC wz.heap.size w5 v' (E.drop m).reverse := by
        rw [← rev_step E m (by rw [hL.out]; omega)]
        exact GrowC.snoc _ (by have h8 := hown'; rw [hL.out] at h8; rw [hlen.out]; exact h8) rfl
      clear hgrow hown'
      go_wp2
      go_roundw
      case rel => exact ⟨m, by omega, by go_num, hG5, hb5⟩
      case measure => simp [intOf]

set_option maxRecDepth 100000 in
set_option maxHeartbeats 8000000 in
theorem TXT_4 {w wr : World} {r : Nat} {v : Int} {gx xl xc V B : Nat} {xo : Option Addr} {nx : Bool} {ov : Value} {D : List Nat} {u0 u1 u3 u4 u6 u7 u8 u9 u10 u11 u12 u13 u14 u15 u16 u17 u18 u19 u20 u21 u22 u23 u24 u25 u26 u27 u28 u29 u30 u31 u32 u33 u34 u35 u36 u37 u38 u39 u40 u41 u42 u43 u44 u45 u46 u47 u48 u49 u50 u51 u52 u53 u54 u55 u56 u57 u58 u59 u60 u61 u62 u63 u64 u65 u66 u67 u68 u69 u70 u71 u72 u73 u74 : Value}
    (hlen : D.length ≤ 4096) (h0 : Hid (V ≠ 0)) (hB : B ≤ w.heap.size + 1) (hwB : w.heap.size ≤ B) (hn : Hid (nx = decide (v < 0))) (hV : Hid (v.natAbs = V)) (hD : Hid (D = lowD r 4096 V)) (px : Pr wr gx 138 (.bool nx) (.slice xo xl xc)) (hG : GrowB B wr ov D) (hb : Below w.heap.size w wr) :
    Code.wp Tryz.prog (tail60 5) (Q60 w r v) ⟨#[u0, u1, .pointer (some ⟨gx, 0, none⟩), u3, u4, ov, u6, u7, u8, u9, u10, u11, u12, u13, u14, u15, u16, u17, u18, u19, u20, u21, u22, u23, u24, u25, u26, u27, u28, u29, u30, u31, u32, u33, u34, u35, u36, u37, u38, u39, u40, u41, u42, u43, u44, u45, u46, u47, u48, u49, u50, u51, u52, u53, u54, u55, u56, u57, u58, u59, u60, u61, u62, u63, u64, u65, u66, u67, u68, u69, u70, u71, u72, u73, u74], []⟩ wr := by
  obtain ⟨i0, hi, hz0, hz1, hz2⟩ := info_parts Tryz.info5
  have hD0 : Hid (D ≠ []) := hid (by rw [hD.out, lowD_step r 4095 V h0.out]; exact List.cons_ne_nil _ _)
  have hGC := hG.bytes
  have hml : Hid ((D.map dch).length = D.length) := hid (by simp)
  obtain ⟨kx0, kx1, _, _⟩ := two_cells px
  show Code.wp Tryz.prog (Code.seq (head60 5) (tail60 6)) _ _ _
  conv => arg 2; arg 1; whnf
  cases nx with
  | false =>
    obtain ⟨g, cap, e1, hR⟩ := hGC.rby (by intro e; exact hD0.out (List.map_eq_nil_iff.1 e))
    have hcap : (D.map dch).length ≤ cap := by
      rcases hGC.2 with ⟨e2, _⟩ | ⟨g', cap', cur, e2, _, _, hnc, _⟩
      · rw [e1] at e2; cases e2
      · rw [e1] at e2; cases e2; exact hnc
    subst e1
    go_wp2
    exact TXT_5 (E := D.map dch) (by omega) (List.length_pos_iff.2 hD0.out) hml (by rw [hml.out] at hcap; exact hcap) hR (hid (tx_digits hn.out hV.out h0.out hD.out (by simp))) hb
  | true =>
    go_wp2_with (at_builtin; refine wpList_append_own _ rfl _ _ 172 rfl B 5 i0 (.int .u8 0) 1 1 Tryz.underlying172 hi hz0 hz1 hz2 rfl (by decide) _ _ _ rfl (World.ownsRow.alloc hGC _) ⟨wr.heap.size, 0, none⟩ 1 1 [.int .u8 45] rfl rfl ?c1 ?c2 ?c3 ?c4 ?c5 ?_)
    case c1 =>
      intro j u hj
      match j, hj with
      | 0, hj => simp at hj; subst hj; simp [Addr.add]
    case c2 => intro u hu; simp at hu; subst hu; rfl
    case c3 => rw [hml.out]; unfold maxLen; omega
    case c4 => rw [hml.out]; omega
    case c5 => have := px.lt; have := hb.size; simp; omega
    intro v' w5 hown' hgrow _
    have hb5 : Below w.heap.size w w5 := (hb.alloc hb.size _).grown hgrow (by have := hb.size; simp; omega) (fun k hk => Nat.le_trans hwB (hGC.le k hk))
    have hG5 : GrowC B w5 v' (D.map dch ++ [45]) := GrowC.snoc 45 (by rw [hml.out]; exact hown') rfl
    clear hgrow hown'
    obtain ⟨g, cap, e1, hR⟩ := hG5.rby (by simp)
    have hcap : (D.map dch ++ [45]).length ≤ cap := by
      rcases hG5.2 with ⟨e2, _⟩ | ⟨g', cap', cur, e2, _, _, hnc, _⟩
      · rw [e1] at e2; cases e2
      · rw [e1] at e2; cases e2; exact hnc
    subst e1
    go_wp2
    exact TXT_5 (le := (D.map dch ++ [45]).length) (E := D.map dch ++ [45]) (by simp; omega) (by simp) (hid rfl) hcap hR (hid (tx_digits hn.out hV.out h0.out hD.out (by simp))) hb5

set_option maxRecDepth 100000 in
set_option maxHeartbeats 8000000 in
theorem TXT_3 {w wz : World} {r : Nat} {v : Int} {gx xl xc : Nat} {xo : Option Addr} {nx : Bool} {L : List Nat} {u0 u3 u4 u7 u8 u9 u10 u11 u12 u13 u14 u15 u16 u17 u18 u19 u20 u21 u22 u23 u24 u25 u26 u27 u28 u29 u30 u31 u32 u33 u34 u35 u36 u37 u38 u39 u40 u41 u42 u43 u44 u45 u46 u47 u48 u49 u50 u51 u52 u53 u54 u55 u56 u57 u58 u59 u60 u61 u62 u63 u64 u65 u66 u67 u68 u69 u70 u71 u72 u73 u74 : Value}
    (h2 : 2 ≤ r) (h36 : r ≤ 36) (sx : xl ≤ 4096) (h0' : 0 < xl) (hn : Hid (nx = decide (v < 0))) (hV : Hid (v.natAbs = bv L)) (rL : Ri wz xo xl xc L) (bL : B1 L) (tL : Top L) (_hgx : gx < wz.heap.size) (px : Pr wz gx 138 (.bool nx) (.slice xo xl xc)) (hb : Below w.heap.size w wz) (hzs : wz.heap.size = w.heap.size + 1) :
    Code.wp Tryz.prog (tail60 4) (Q60 w r v) ⟨#[u0, .int .i64 (r : Int), .pointer (some ⟨gx, 0, none⟩), u3, u4, .slice none 0 0, .slice xo xl xc, u7, u8, u9, u10, u11, u12, u13, u14, u15, u16, u17, u18, u19, u20, u21, u22, u23, u24, u25, u26, u27, u28, u29, u30, u31, u32, u33, u34, u35, u36, u37, u38, u39, u40, u41, u42, u43, u44, u45, u46, u47, u48, u49, u50, u51, u52, u53, u54, u55, u56, u57, u58, u59, u60, u61, u62, u63, u64, u65, u66, u67, u68, u69, u70, u71, u72, u73, u74], []⟩ wz := by
  obtain ⟨i0, hi, hz0, hz1, hz2⟩ := info_parts Tryz.infoI
  obtain ⟨i5, hj, hy0, hy1, hy2⟩ := info_parts Tryz.info5
  have HZS := hid hzs
  clear hzs
  show Code.wp Tryz.prog (Code.seq (head60 4) (tail60 5)) _ _ _
  conv => arg 2; arg 1; whnf
  have PX := hid px
  clear px
  go_wp2_with fail
  go_loopw [5, 6] (fun ov b wr => ∃ (D : List Nat) (bo : Option Addr) (lb cb : Nat) (M : List Nat), b = .slice bo lb cb ∧ Ri wr bo lb cb M ∧ B1 M ∧ Top M ∧ D.length + lb ≤ 4096 ∧ GrowB wz.heap.size wr ov D ∧ Hid (D ++ lowD r (4096 - D.length) (bv M) = lowD r 4096 (bv L)) ∧ Below wz.heap.size wz wr) (fun _ b _ => slen b)
  case atStart => exact ⟨[], _, _, _, L, rfl, rL, bL, tL, by simpa using sx, World.ownsRow_nil _ _ _ _, hid rfl, Below.refl _ _⟩
  case round =>
    obtain ⟨D, bo, lb, cb, M, rfl, rM, bM, tM, hDl, hG, hlow, hbr⟩ := hrel
    obtain ⟨wq, rfl⟩ : ∃ wq : World, wq = wr := ⟨_, rfl⟩
    have hML := hid rM.size
    have hsr := hbr.size
    by_cases h0 : 0 < lb
    · go_wp2_with (at_make; refine wpList_make_full _ rfl _ _ 33 rfl wq.heap.size 3 i0 (.int .i64 0) 1 Tryz.underlying33 hi hz0 hz1 .i64 .i64 _ _ lb rfl rfl (by omega) (by omega) ?c1 ?c2 ?c3 ?_)
      case c1 => rw [hz2]; omega
      case c2 => unfold maxLen; omega
      case c3 => simp
      intro w1 hown hgrow
      have hrow : Rwi w1 wq.heap.size (List.replicate lb 0) := Rwi.of_own hown (made_zeros_i _ _ (by omega))
      have hbel : Below wq.heap.size wq w1 := (Below.refl _ _).grown hgrow (Nat.le_refl _) (by intro k hk; simp at hk)
      clear hown hgrow
      go_wp2
      go_loopw [7, 9] (fun x i ws => ∃ (k xv : Nat) (Q : List Nat), k ≤ lb ∧ i = .int .i64 ((k : Int) - 1) ∧ x = .int .i64 (xv : Int) ∧ xv < r ∧ Hid (Q.length = lb) ∧ Hid (∀ j, j < k → dg Q j = 0) ∧ B1 Q ∧ Hid (bv (M.drop k) = r * bv (Q.drop k) + xv) ∧ Rwi ws wq.heap.size Q ∧ Below wq.heap.size wq ws) (fun _ i _ => (intOf i + 1).toNat)
      case atStart => exact ⟨lb, 0, List.replicate lb 0, Nat.le_refl _, rfl, rfl, by omega, hid (by simp), hid (fun j _ => dg_repl _ _), B1.zeros _, hid (by rw [List.drop_eq_nil_of_le (by rw [hML.out]; exact Nat.le_refl _), List.drop_eq_nil_of_le (by simp)]; simp [bv]), hrow, hbel⟩
      case round =>
        obtain ⟨k, xv, Q, hk, rfl, rfl, hxv, hQl, hQ0, bQ, hdiv, hR, hbq⟩ := hrel
        clear hrow hbel
        cases k with
        | zero =>
          have hdv : Hid (bv M = r * bv Q + xv) := hid (by have := hdiv.out; simpa using this)
          have hRi := hR.whole lb (by rw [hQl.out]; exact Nat.le_refl _) (by rw [hQl.out]; omega)
          rw [hQl.out] at hRi
          have hG2 := hG.keep hbq
          have hx36 : xv < 36 := by omega
          have hbz : Below wz.heap.size wz wr := hbr.trans (hbq.mono hsr)
          have hsz := hbz.size
          go_wp2_with (first
            | (go_at_call 149; refine (cutR _ _ _ Q _ hRi).mono ?_; rintro e w' ⟨rfl, rfl⟩)
            | (at_builtin; refine wpList_append_own _ rfl _ _ 172 rfl wz.heap.size 5 i5 (.int .u8 0) 1 1 Tryz.underlying172 hj hy0 hy1 hy2 rfl (by decide) _ _ _ rfl (World.ownsRow.alloc hG2 _) ⟨wr.heap.size, 0, none⟩ 1 1 [.int .u8 (dch xv : Int)] rfl rfl ?c1 ?c2 ?c3 ?c4 ?c5 ?_))
          case c1 =>
            intro j u hj
            match j, hj with
            | 0, hj => simp at hj; subst hj; rw [← digit_at _ hx36]; simp [Addr.add]
          case c2 => intro u hu; simp at hu; subst hu; rfl
          case c3 => unfold maxLen; omega
          case c4 => omega
          case c5 => simp; omega
          intro v' w5 hown' hgrow _
          have hb5 : Below wz.heap.size wz w5 := (hbz.alloc (by omega) _).grown hgrow (by simp; omega) hG2.le
          have hR5 : Rwi w5 wq.heap.size Q := (hR.alloc _).grownN hgrow (hG2.neI hR)
          clear hgrow
          have hsh := cut_shorter h2 bM bQ hML.out h0 hdv.out
          go_wp2
          go_roundw
          case rel =>
            have hRi5 := (hR5.whole lb (by rw [hQl.out]; exact Nat.le_refl _) (by rw [hQl.out]; omega)).tl
            refine ⟨D ++ [xv], _, _, _, tl Q, rfl, hRi5, bQ.tl, tl_top Q, by simp; omega, ?_, hid ?_, hb5⟩
            · unfold GrowB
              rw [chs_snoc] at hown'
              rw [List.length_append]; exact hown'
            · have hM0 : bv M ≠ 0 := top_pos tM (by intro e; have := hML.out; rw [e] at this; simp at this; omega)
              obtain ⟨e1, e2⟩ := bdiv_end hdv.out hxv
              have hf : 4096 - D.length = (4096 - (D ++ [xv]).length) + 1 := by simp; omega
              have h3 := hlow.out
              rw [hf, lowD_step _ _ _ hM0, ← e1, ← e2] at h3
              rw [tl_bv, List.append_assoc, List.singleton_append]; exact h3
          case measure => simp [slen]; exact hsh
        | succ m =>
          obtain ⟨b, off, rfl, hc⟩ := (rM.keep hbq).cells (by omega)
          have hcm := hc m (by omega)
          have hdb := bM.dg m
          have hfr := hR.free m
          have hcur := hR.cell m (by rw [hQl.out]; omega)
          have hrm := rM.room
          clear hc
          have hi1 : ((m + 1 : Nat) : Int) - 1 = (m : Int) := by omega
          rw [hi1]; clear hi1
          by_cases hge : r ≤ 2 * xv + dg M m
          · go_wp2
            go_roundw
            case rel =>
              refine ⟨m, 2 * xv + dg M m - r, Q.set m 1, by omega, by go_num, by go_num, by omega, hid (by rw [List.length_set, hQl.out]), hid (fun j hj => by rw [dg_set_ne _ _ _ _ (by omega)]; exact hQ0.out j (by omega)), bQ.set _ (by omega), hid ?_, hR.set' m 1 rfl, hbq.setCell (by simp) _⟩
              exact bdiv_yes (by rw [hQl.out]; omega) hdiv.out (by omega)
            case measure => simp [intOf]
          · go_wp2
            go_roundw
            case rel =>
              refine ⟨m, 2 * xv + dg M m, Q, by omega, by go_num, by go_num, by omega, hQl, hid (fun j hj => hQ0.out j (by omega)), bQ, hid ?_, hR, hbq⟩
              exact bdiv_no hdiv.out (hQ0.out m (by omega)) rfl
            case measure => simp [intOf]
    · have hM : Hid (bv M = 0) := hid (by
        have h3 : M = [] := List.eq_nil_of_length_eq_zero (by rw [hML.out]; omega)
        rw [h3]; rfl)
      have hD : Hid (D = lowD r 4096 (bv L)) := hid (by
        have h9 := hlow.out
        rw [hM.out, lowD_zero, List.append_nil] at h9
        exact h9)
      have hL0 : Hid (bv L ≠ 0) := hid (top_pos tL (by intro e; have := rL.size; rw [e] at this; simp at this; omega))
      go_wp2
      exact TXT_4 (by omega) hL0 (by rw [HZS.out]; exact Nat.le_refl _) (by rw [HZS.out]; omega) hn hV hD (PX.out.keep hbr) hG (hb.trans (hbr.mono hb.size))

set_option maxRecDepth 100000 in
set_option maxHeartbeats 8000000 in
theorem textR (nx : Bool) (xo : Option Addr) (xl xc : Nat) (v : Int) (r : Nat) (w : World) (hX : Big w nx xo xl xc v) (sx : xl ≤ 4096) (h2 : 2 ≤ r) (h36 : r ≤ 36) :
    Calls Tryz.prog 126 #[.agg #[.bool nx, .slice xo xl xc], .int .i64 (r : Int)] w fun e w' => e = .returned (.string (tx r v)) ∧ Below w.heap.size w w' := by
  have hsn := hid hX.sign
  have hln := hX.len
  by_cases h0 : 0 < xl
  · obtain ⟨L, rL, bL, tL, _, ev⟩ := hX
    have hV : Hid (v.natAbs = bv L) := hid (by rw [← ev, sg_abs])
    have hzb : Below w.heap.size w (w.alloc (.cells #[.bool nx, .slice xo xl xc] 138)) := (Below.refl _ _).alloc (Nat.le_refl _) _
    have px := Pr.new w 138 (.bool nx) (.slice xo xl xc)
    obtain ⟨kx0, kx1, _, _⟩ := two_cells px
    have PX := hid px
    have RZ := hid (rL.keep hzb)
    have HB := hid hzb
    clear px hzb ev rL hln
    go_enter Tryz.func126, Tryz.ntmps126
    change Code.wp Tryz.prog (Code.seq (head60 0) (Code.seq (head60 1) (Code.seq (head60 2) (Code.seq (head60 3) (tail60 4))))) (Q60 w r v) _ _
    conv => arg 2; arg 1; whnf
    conv => arg 2; arg 2; arg 1; whnf
    conv => arg 2; arg 2; arg 2; arg 1; whnf
    conv => arg 2; arg 2; arg 2; arg 2; arg 1; whnf
    go_wp2
    exact TXT_3 h2 h36 sx h0 hsn hV RZ.out bL tL (by simp) PX.out HB.out (by simp)
  · have hv : v = 0 := by
      have h1 := (bl_le v.natAbs 0).1 (by omega)
      simp at h1; exact h1
    have hxl : xl = 0 := by omega
    subst hv hxl
    have HT := hid (tx_nought r)
    clear hln hX
    go_enter Tryz.func126, Tryz.ntmps126
    go_wp2
    go_ret
    exact ⟨by rw [HT.out]; rfl, (Below.refl _ _).alloc (Nat.le_refl _) _⟩

end Go.Proofs.YtkapejcbmonfkaaGreatDoor

namespace Go.Proofs.YtkapejcbmonfkaaGreatDoor
open Go.RowKit Lm

/-- What the document's Parse answers. -/
def ParsedR (w : World) (s : ByteArray) (R : Int) (e : Ending) (w' : World) : Prop := ∃ n o l c v, e = .returned (.tuple #[.agg #[.bool n, .slice o l c], .int .i64 (pbad s R)]) ∧ Big w' n o l c v ∧ (pbad s R = 0 → v = pval s R) ∧ Below w.heap.size w w'
theorem parsedR_bad {w w' : World} {s : ByteArray} {R c : Int} (hp : pbad s R = c) (hc : c ≠ 0) (hb : Below w.heap.size w w') : ParsedR w s R (.returned (.tuple #[.agg #[.bool false, .slice none 0 0], .int .i64 c])) w' :=
  ⟨false, none, 0, 0, 0, by rw [hp], Big.zero _, fun h => absurd (hp.symm.trans h) hc, hb⟩
theorem parsedR_good {w w' : World} {s : ByteArray} {R v : Int} {n : Bool} {o : Option Addr} {l c : Nat} (hp : pbad s R = 0 ∧ v = pval s R) (hB : Big w' n o l c v) (hb : Below w.heap.size w w') : ParsedR w s R (.returned (.tuple #[.agg #[.bool n, .slice o l c], .int .i64 0])) w' :=
  ⟨n, o, l, c, v, by rw [hp.1], hB, fun _ => hp.2, hb⟩

noncomputable def tail58 (n : Nat) : Code := bigDrop n (Tryz.f125.body.getD .skip)
noncomputable def head58 (n : Nat) : Code := bigHead (tail58 n)
noncomputable def Q58 (w : World) (s : ByteArray) (R : Int) : Exit → Act → World → Prop := bodyPost Tryz.prog Tryz.f125 (ParsedR w s R)

set_option maxRecDepth 100000 in
set_option maxHeartbeats 8000000 in
theorem PT_7 {w wr : World} {s : ByteArray} {R : Int} {n : Bool} {gr lb cb : Nat} {bo : Option Addr} {B : List Nat} {u0 u1 u2 u3 u5 u7 u9 u10 u11 u12 u13 u14 u15 u16 u17 u18 u19 u20 u21 u22 u23 u24 u25 u26 u27 u28 u29 u30 u31 u32 u33 u34 u35 u36 u37 u38 u39 u40 u41 u42 u43 u44 u45 u46 u47 u48 u49 u50 u51 u52 u53 u54 u55 u56 u57 u58 u59 u60 u61 u62 u63 u64 u65 u66 u67 u68 u69 u70 u71 u72 u73 u74 u75 u76 u77 u78 u79 u80 u81 u82 u83 u84 u85 u86 u87 u88 u89 u90 u91 u92 u93 u94 u95 : Value}
    (rB : Ri wr bo lb cb B) (bB : B1 B) (hdone : (4096 < lb ∧ Hid (pbad s R = 10)) ∨ (lb ≤ 4096 ∧ Hid (pbad s R = 0 ∧ sg n B = pval s R)))
    (hgg : w.heap.size ≤ gr) (pr : Pr wr gr 138 (.bool false) (.slice none 0 0)) (hb : Below w.heap.size w wr) :
    Code.wp Tryz.prog (tail58 8) (Q58 w s R) ⟨#[u0, u1, u2, u3, .pointer (some ⟨gr, 0, none⟩), u5, .bool n, u7, .slice bo lb cb, u9, u10, u11, u12, u13, u14, u15, u16, u17, u18, u19, u20, u21, u22, u23, u24, u25, u26, u27, u28, u29, u30, u31, u32, u33, u34, u35, u36, u37, u38, u39, u40, u41, u42, u43, u44, u45, u46, u47, u48, u49, u50, u51, u52, u53, u54, u55, u56, u57, u58, u59, u60, u61, u62, u63, u64, u65, u66, u67, u68, u69, u70, u71, u72, u73, u74, u75, u76, u77, u78, u79, u80, u81, u82, u83, u84, u85, u86, u87, u88, u89, u90, u91, u92, u93, u94, u95], []⟩ wr := by
  obtain ⟨z0, z1, _, _⟩ := two_cells pr
  have PR := hid pr
  clear pr
  conv => arg 2; whnf
  unfold Q58
  rcases hdone with ⟨h1, hp⟩ | ⟨h1, hp⟩
  · go_wp2
    refine bodyPost_ret (v := .tuple #[.agg #[.bool false, .slice none 0 0], .int .i64 10]) (by simp [results, Tryz.results125, go_sem, z0, z1]) rfl (parsedR_bad hp.out (by decide) ?_)
    first
      | exact (hb.setCell hgg _).setCell hgg _
      | exact hb
  · have h2 : ¬ 4096 < lb := by omega
    go_wp2_with (go_at_call 150; (with_reducible refine (laidR _ _ _ _ B _ rB bB).mono ?_); rintro e w6 ⟨n', len', rfl, hle, hbig, hb6⟩; have P6 := hid (heap_keep PR.out hb6); obtain ⟨y0, y1, _, _⟩ := two_cells P6.out; have hba := hb.trans (hb6.mono hb.size))
    refine bodyPost_ret (v := .tuple #[.agg #[.bool n', .slice bo len' cb], .int .i64 0]) (by simp [results, Tryz.results125, go_sem, y0, y1]) rfl (parsedR_good hp.out ?_ ?_)
    · exact hbig.other P6.out (by simp) (by simp) _ _
    · exact (hba.setCell hgg _).setCell hgg _

set_option maxRecDepth 100000 in
set_option maxHeartbeats 8000000 in
theorem PT_5 {w wz : World} {s t : ByteArray} {r : Nat} {n : Bool} {gr : Nat} {u2 u3 u5 u7 u8 u9 u10 u11 u12 u13 u14 u15 u16 u17 u18 u19 u20 u21 u22 u23 u24 u25 u26 u27 u28 u29 u30 u31 u32 u33 u34 u35 u36 u37 u38 u39 u40 u41 u42 u43 u44 u45 u46 u47 u48 u49 u50 u51 u52 u53 u54 u55 u56 u57 u58 u59 u60 u61 u62 u63 u64 u65 u66 u67 u68 u69 u70 u71 u72 u73 u74 u75 u76 u77 u78 u79 u80 u81 u82 u83 u84 u85 u86 u87 u88 u89 u90 u91 u92 u93 u94 u95 : Value}
    (h2 : 2 ≤ r) (h36 : r ≤ 36) (ht : t.size ≤ 9223372036854775807) (HT : Hid (unsigned s = t)) (HN : Hid (signed s = n)) (hall : Hid (allD t r = true))
    (hgg : w.heap.size ≤ gr) (pr : Pr wz gr 138 (.bool false) (.slice none 0 0)) (hb : Below w.heap.size w wz) :
    Code.wp Tryz.prog (tail58 6) (Q58 w s (r : Int)) ⟨#[.string t, .int .i64 (r : Int), u2, u3, .pointer (some ⟨gr, 0, none⟩), u5, .bool n, u7, u8, u9, u10, u11, u12, u13, u14, u15, u16, u17, u18, u19, u20, u21, u22, u23, u24, u25, u26, u27, u28, u29, u30, u31, u32, u33, u34, u35, u36, u37, u38, u39, u40, u41, u42, u43, u44, u45, u46, u47, u48, u49, u50, u51, u52, u53, u54, u55, u56, u57, u58, u59, u60, u61, u62, u63, u64, u65, u66, u67, u68, u69, u70, u71, u72, u73, u74, u75, u76, u77, u78, u79, u80, u81, u82, u83, u84, u85, u86, u87, u88, u89, u90, u91, u92, u93, u94, u95], []⟩ wz := by
  obtain ⟨i0, hi, hz0, hz1, hz2⟩ := info_parts Tryz.infoI
  have PR := hid pr
  clear pr
  show Code.wp Tryz.prog (Code.seq (head58 6) (Code.seq (head58 7) (tail58 8))) _ _ _
  conv => arg 2; arg 1; whnf
  conv => arg 2; arg 2; arg 1; whnf
  go_wp2
  go_loopw [8, 9] (fun b i ws => ∃ (k : Nat) (bo : Option Addr) (lb cb : Nat) (B : List Nat), b = .slice bo lb cb ∧ i = .int .i64 (k : Int) ∧ k ≤ t.size ∧ Ri ws bo lb cb B ∧ B1 B ∧ Top B ∧ lb ≤ 4200 ∧ Hid (bv B = dval r (t.data.toList.take k)) ∧ Below wz.heap.size wz ws) (fun _ i _ => t.size - (intOf i).toNat)
  case atStart => exact ⟨0, none, 0, 0, [], rfl, rfl, by omega, Ri.nil _, B1.nil, fun h => absurd rfl h, by omega, hid rfl, Below.refl _ _⟩
  case round =>
    obtain ⟨k, bo, lb, cb, B, rfl, rfl, hk, rB, bB, tB, hlb, hv, hbr⟩ := hrel
    obtain ⟨ws, rfl⟩ : ∃ ws : World, ws = wr := ⟨_, rfl⟩
    have hbl : Hid (lb = bl (bv B)) := hid (by rw [← rB.size]; exact btop_len bB tB)
    have HBL := hid rB.size
    have hba := hb.trans (hbr.mono hb.size)
    have P7 := PR.out.keep hbr
    by_cases hlong : 4096 < lb
    · have hp : Hid (pbad s (r : Int) = 10) := hid (pbad_far h2 h36 (by rw [HT.out]; exact hall.out) (by rw [HT.out]; exact dval_stop (k := k) (by omega) (by rw [← hv.out, ← hbl.out]; exact hlong)))
      by_cases hlt : k < t.size
      · go_wp2
        exact PT_7 rB bB (.inl ⟨hlong, hp⟩) hgg P7 hba
      · go_wp2
        exact PT_7 rB bB (.inl ⟨hlong, hp⟩) hgg P7 hba
    · by_cases hlt : k < t.size
      · have hc : t[k].toNat < 256 := t[k].toNat_lt
        have hmem : dv t[k].toNat < r := by
          have := hall.out
          unfold allD at this
          exact (of_decide_eq_true this).2 k hlt
        obtain ⟨d, hd⟩ : ∃ d, d = dv t[k].toNat := ⟨_, rfl⟩
        have hdr : Hid (dr t[k].toNat = d) := hid (by rw [hd]; exact dr_dv (by omega))
        have hdlt : d < r := by omega
        have hnew : Hid (dval r (t.data.toList.take (k + 1)) = bv B * r + d) := hid (by rw [toList_get t k hlt, dval_snoc, hv.out, hd])
        clear hd hmem P7
        go_wp2_with (go_at_call 147; refine (digitR _ _ hc).mono ?_; rintro e w2 ⟨rfl, rfl⟩; rw [hdr.out])
        go_loopw [10, 11, 12] (fun c o q wx => ∃ (m cv : Nat) (O : List Nat), q = .int .i64 (m : Int) ∧ c = .int .i64 (cv : Int) ∧ cv < r ∧ m + cv ≤ lb + 36 ∧ Hid (O.length = m) ∧ B1 O ∧ Gri ws.heap.size wx o O ∧ Hid (bv O + 2 ^ m * cv = bv (B.take m) * r + d) ∧ Below ws.heap.size ws wx) (fun c _ q _ => 40 * (lb - (intOf q).toNat) + (intOf c).toNat)
        case atStart => exact ⟨0, d, [], rfl, rfl, hdlt, by omega, hid rfl, B1.nil, Gri.nil _ _, hid (by simp [bv]), Below.refl _ _⟩
        case round =>
          obtain ⟨m, cv, O, rfl, rfl, hcv, hmc, hO, bO, hG, hval, hbx⟩ := hrel
          have hsz := hbx.size
          have hBx := rB.keep hbx
          have hx := bB.dg m
          by_cases hgo : m < lb ∨ 0 < cv
          · have hxo : Hid (¬ m < lb → dg B m = 0) := hid fun h => dg_out B m (by rw [HBL.out]; omega)
            obtain ⟨p, hp⟩ : ∃ p : Nat, p = dg B m * r := ⟨_, rfl⟩
            have hpc : (dg B m : Int) * (r : Int) = (p : Int) := by rw [hp, Int.natCast_mul]
            have hpb : p ≤ r := by rw [hp]; exact Nat.le_trans (Nat.mul_le_mul_right r hx) (by omega)
            have hp0 : Hid (¬ m < lb → p = 0) := hid fun h => by rw [hp, hxo.out h]; simp
            have hq1 : (dg B m : Int) * (r : Int) ≤ 36 := by rw [hpc]; omega
            have hq0 : 0 ≤ (dg B m : Int) * (r : Int) := by rw [hpc]; omega
            have HP := hid hp
            have HPC := hid hpc
            clear hp hpc
            rcases (show m < lb ∨ (¬ m < lb ∧ 0 < cv) by omega) with h1 | ⟨h1, h3⟩
            all_goals
              go_wp2_with (first
                | (go_at_call 148; refine (bitR bo lb cb B m _ hBx).mono ?_; rintro e w' ⟨rfl, rfl⟩)
                | (at_builtin; refine wpList_append_own _ rfl _ _ 33 rfl ws.heap.size 3 i0 (.int .i64 0) 1 8 Tryz.underlying33 hi hz0 hz1 hz2 rfl (by decide) _ _ _ rfl (hG.alloc _) ⟨wr.heap.size, 0, none⟩ 1 1 [.int .i64 (((dg B m : Int) * (r : Int) + (cv : Int)) % 2)] rfl rfl ?c1 ?c2 ?c3 ?c4 ?c5 ?_))
              case c1 =>
                intro j u hj
                match j, hj with
                | 0, hj => simp at hj; subst hj; simp [Addr.add]
              case c2 => intro u hu; simp at hu; subst hu; rfl
              case c3 => rw [hO.out]; unfold maxLen; omega
              case c4 => rw [hO.out]; omega
              case c5 => simp; omega
              intro v' w5 hown' hgrow _
              have hb5 := app_below hbx hsz hgrow hG.le
              clear hgrow
              go_wp2
              go_roundw
              case rel =>
                have ho1 := hp0.out
                have ho2 := HPC.out
                refine ⟨m + 1, (p + cv) / 2, O ++ [(p + cv) % 2], by go_num, congrArg (Value.int .i64) (by omega), by omega, by omega, hid (by simp [hO.out]), bO.snoc (by omega), Gri.snoc _ hown' (by omega), hid ?_, hb5⟩
                rw [bv_snoc, hO.out, Nat.pow_succ, bv_take_any]
                exact bmul_step hval.out (by have := HP.out; omega)
              case measure =>
                have ho1 := hp0.out
                have ho2 := HPC.out
                simp [intOf]; omega
          · obtain ⟨n1, n3⟩ : ¬ m < lb ∧ ¬ 0 < cv := by omega
            have e0 : cv = 0 := by omega
            subst e0
            obtain ⟨ao, cap, rfl, hR⟩ := hG.rd (by rw [hO.out]; omega)
            have HV : Hid (bv O = dval r (t.data.toList.take (k + 1))) := hid (by
              have := hval.out
              rw [bv_take_ge _ _ (by rw [HBL.out]; omega)] at this
              rw [hnew.out]; simpa using this)
            go_wp2_with (go_at_call 149; refine (cutR _ _ _ O _ hR).mono ?_; rintro e w' ⟨rfl, rfl⟩)
            go_roundw
            case rel =>
              refine ⟨k + 1, _, _, _, tl O, rfl, by go_num, by omega, hR.tl, bO.tl, tl_top O, ?_, hid (by rw [tl_bv]; exact HV.out), hbr.trans (hbx.mono hbr.size)⟩
              have := tl_length_le O
              rw [hO.out] at this; omega
            case measure => simp [intOf]; omega
      · have hk2 : k = t.size := by omega
        have hvt : Hid (bv B = dval r t.data.toList) := hid (by rw [hv.out, List.take_of_length_le (by simp; omega)])
        have hp : Hid (pbad s (r : Int) = 0 ∧ sg n B = pval s (r : Int)) := hid (by
          refine ⟨pbad_good h2 h36 (by rw [HT.out]; exact hall.out) (by rw [HT.out, ← hvt.out, ← hbl.out]; exact hlong), ?_⟩
          unfold pval sval sg
          rw [Int.toNat_natCast, HT.out, HN.out, hvt.out])
        clear hk2
        go_wp2
        exact PT_7 rB bB (.inr ⟨by omega, hp⟩) hgg P7 hba

set_option maxRecDepth 100000 in
set_option maxHeartbeats 8000000 in
theorem PT_4 {w wr : World} {s t : ByteArray} {r : Nat} {n : Bool} {gr : Nat} {u2 u3 u5 u7 u8 u9 u10 u11 u12 u13 u14 u15 u16 u17 u18 u19 u20 u21 u22 u23 u24 u25 u26 u27 u28 u29 u30 u31 u32 u33 u34 u35 u36 u37 u38 u39 u40 u41 u42 u43 u44 u45 u46 u47 u48 u49 u50 u51 u52 u53 u54 u55 u56 u57 u58 u59 u60 u61 u62 u63 u64 u65 u66 u67 u68 u69 u70 u71 u72 u73 u74 u75 u76 u77 u78 u79 u80 u81 u82 u83 u84 u85 u86 u87 u88 u89 u90 u91 u92 u93 u94 u95 : Value}
    (h2 : 2 ≤ r) (h36 : r ≤ 36) (ht : t.size ≤ 9223372036854775807) (ht0 : 0 < t.size) (HT : Hid (unsigned s = t)) (HN : Hid (signed s = n))
    (hgg : w.heap.size ≤ gr) (pr : Pr wr gr 138 (.bool false) (.slice none 0 0)) (hb : Below w.heap.size w wr) :
    Code.wp Tryz.prog (tail58 5) (Q58 w s (r : Int)) ⟨#[.string t, .int .i64 (r : Int), u2, u3, .pointer (some ⟨gr, 0, none⟩), u5, .bool n, u7, u8, u9, u10, u11, u12, u13, u14, u15, u16, u17, u18, u19, u20, u21, u22, u23, u24, u25, u26, u27, u28, u29, u30, u31, u32, u33, u34, u35, u36, u37, u38, u39, u40, u41, u42, u43, u44, u45, u46, u47, u48, u49, u50, u51, u52, u53, u54, u55, u56, u57, u58, u59, u60, u61, u62, u63, u64, u65, u66, u67, u68, u69, u70, u71, u72, u73, u74, u75, u76, u77, u78, u79, u80, u81, u82, u83, u84, u85, u86, u87, u88, u89, u90, u91, u92, u93, u94, u95], []⟩ wr := by
  obtain ⟨z0, z1, _, _⟩ := two_cells pr
  have PR := hid pr
  clear pr
  show Code.wp Tryz.prog (Code.seq (head58 5) (tail58 6)) _ _ _
  conv => arg 2; arg 1; whnf
  go_wp2
  go_loop [7] (fun i => ∃ k : Nat, k ≤ t.size ∧ i = .int .i64 (k : Int) ∧ Hid (∀ j (h : j < t.size), j < k → dv t[j].toNat < r)) (fun i => t.size - (intOf i).toNat)
  case atStart => exact ⟨0, by omega, rfl, hid (fun j _ h => by omega)⟩
  case round =>
    obtain ⟨k, hk, rfl, hall⟩ := hrel
    by_cases hlt : k < t.size
    · have hc : t[k].toNat < 256 := t[k].toNat_lt
      have hdl := dr_le t[k].toNat
      by_cases hd : dv t[k].toNat < r
      · have hd2 := (dr_lt h36).2 hd
        go_wp2_with (go_at_call 147; refine (digitR _ _ hc).mono ?_; rintro e w2 ⟨rfl, rfl⟩)
        go_round
        case rel =>
          refine ⟨k + 1, by omega, by go_num, hid ?_⟩
          intro j hj hjk
          by_cases e : j = k
          · subst e; exact hd
          · exact hall.out j hj (by omega)
        case measure => simp [intOf]; omega
      · have hd2 : ¬ dr t[k].toNat < r := fun h => hd ((dr_lt h36).1 h)
        have hp : Hid (pbad s (r : Int) = 12) := hid (pbad_text h2 h36 (by
          rw [HT.out]
          unfold allD; rw [decide_eq_false_iff_not]; intro h; exact hd (h.2 k hlt)))
        unfold Q58
        go_wp2_with (go_at_call 147; refine (digitR _ _ hc).mono ?_; rintro e w2 ⟨rfl, rfl⟩)
        refine bodyPost_ret (v := .tuple #[.agg #[.bool false, .slice none 0 0], .int .i64 12]) (by simp [results, Tryz.results125, go_sem, z0, z1]) rfl (parsedR_bad hp.out (by decide) ?_)
        first
          | exact (hb.setCell hgg _).setCell hgg _
          | exact hb
    · have e : Hid (allD t r = true) := hid (by
        unfold allD
        exact decide_eq_true ⟨ht0, fun j hj => hall.out j hj (by omega)⟩)
      go_wp2
      exact PT_5 h2 h36 ht HT HN e hgg PR.out hb

theorem allD_none {t : ByteArray} {r : Nat} (h : t.size = 0) : allD t r = false := decide_eq_false (fun h2 => by omega)
theorem str_some (t : ByteArray) (h : 0 < t.size) : t.toList.isEmpty = false := by
  rw [ByteArray.toList_eq]
  have h1 : t.data.toList.length = t.size := by simp
  cases h2 : t.data.toList with
  | nil => rw [h2] at h1; simp at h1; omega
  | cons _ _ => rfl
theorem str_none (t : ByteArray) (h : t.size = 0) : t.toList.isEmpty = true := by
  rw [ByteArray.toList_eq]
  have h1 : t.data.toList.length = t.size := by simp
  rw [List.eq_nil_of_length_eq_zero (h1.trans h)]; rfl
theorem unsigned_neg {s : ByteArray} (h0 : 0 < s.size) (h : s[0] = 45) : unsigned s = s.extract 1 s.size ∧ signed s = true := by
  have e : s.data.toList = 45 :: s.data.toList.drop 1 := by
    have h1 : 0 < s.data.toList.length := by simpa using h0
    have h2 := List.drop_eq_getElem_cons h1
    rw [List.drop_zero] at h2
    rw [← h]; exact h2
  constructor
  · have h3 : (unsigned s).data.toList = (s.extract 1 s.size).data.toList := by
      rw [Lib.extract_to_end]
      show Lib.trimPrefix s.data.toList [45] = _
      rw [e, (prefix_minus _).2]; rfl
    exact ByteArray.ext (Array.toList_inj.1 h3)
  · unfold signed
    rw [e, (prefix_minus _).1]
theorem unsigned_pos {s : ByteArray} (h : ∀ h0 : 0 < s.size, s[0] ≠ 45) : unsigned s = s ∧ signed s = false := by
  by_cases h0 : 0 < s.size
  · have h1 : 0 < s.data.toList.length := by simpa using h0
    have h2 := List.drop_eq_getElem_cons h1
    rw [List.drop_zero] at h2
    have h3 : s.data.toList[0] ≠ 45 := h h0
    constructor
    · have h4 : (unsigned s).data.toList = s.data.toList := by
        show Lib.trimPrefix s.data.toList [45] = _
        rw [h2, (prefix_none h3).2]
      exact ByteArray.ext (Array.toList_inj.1 h4)
    · unfold signed
      rw [h2, (prefix_none h3).1]
  · have h1 : s.data.toList = [] := List.eq_nil_of_length_eq_zero (by simpa using h0)
    constructor
    · have h4 : (unsigned s).data.toList = s.data.toList := by
        show Lib.trimPrefix s.data.toList [45] = _
        rw [h1]; rfl
      exact ByteArray.ext (Array.toList_inj.1 h4)
    · unfold signed
      rw [h1]; rfl

set_option maxRecDepth 100000 in
set_option maxHeartbeats 8000000 in
theorem parseR_in (s : ByteArray) (r : Nat) (w : World) (h2 : 2 ≤ r) (h36 : r ≤ 36) (hs : s.size ≤ 9223372036854775807) :
    Calls Tryz.prog 125 #[.string s, .int .i64 (r : Int)] w (ParsedR w s (r : Int)) := by
  have n1 : ¬ (r : Int) < 2 := by omega
  have n2 : ¬ 36 < (r : Int) := by omega
  have HPR := hid (Pr.new w 138 (.bool false) (.slice none 0 0))
  have HHB := hid (show Below w.heap.size w (w.alloc (.cells #[.bool false, .slice none 0 0] 138)) from (Below.refl _ _).alloc (Nat.le_refl _) _)
  by_cases h0 : 0 < s.size
  · have hc : s[0].toNat < 256 := s[0].toNat_lt
    by_cases hm : s[0] = 45
    · obtain ⟨e1, e2⟩ := unsigned_neg h0 hm
      have E1 := hid e1
      have E2 := hid e2
      have hmi : ((s[0].toNat : Int) == 45) = true := by rw [hm]; rfl
      have hsz2 : (s.extract 1 s.size).size = s.size - 1 := by
        have h1 := Lib.extract_to_end s 1
        have h2 : (s.extract 1 s.size).data.toList.length = (s.extract 1 s.size).size := by simp
        rw [← h2, h1, List.length_drop]; simp
      have HS2 := hid hsz2
      clear e1 e2 hm hsz2
      by_cases h1 : 1 < s.size
      · have hE2 := str_some (s.extract 1 s.size) (by rw [HS2.out]; omega)
        go_enter Tryz.func125, Tryz.ntmps125
        change Code.wp Tryz.prog (Code.seq (head58 0) (Code.seq (head58 1) (Code.seq (head58 2) (Code.seq (head58 3) (Code.seq (head58 4) (tail58 5)))))) (Q58 w s (r : Int)) _ _
        conv => arg 2; arg 1; whnf
        conv => arg 2; arg 2; arg 1; whnf
        conv => arg 2; arg 2; arg 2; arg 1; whnf
        conv => arg 2; arg 2; arg 2; arg 2; arg 1; whnf
        conv => arg 2; arg 2; arg 2; arg 2; arg 2; arg 1; whnf
        go_wp2
        exact PT_4 h2 h36 (by rw [HS2.out]; omega) (by rw [HS2.out]; omega) E1 E2 (by simp) HPR.out HHB.out
      · have hE2 := str_none (s.extract 1 s.size) (by rw [HS2.out]; omega)
        have hp : Hid (pbad s (r : Int) = 12) := hid (pbad_text h2 h36 (allD_none (by rw [E1.out, HS2.out]; omega)))
        go_enter Tryz.func125, Tryz.ntmps125
        go_wp2
        refine bodyPost_ret (v := .tuple #[.agg #[.bool false, .slice none 0 0], .int .i64 12]) (by simp [results, Tryz.results125, go_sem]) rfl (parsedR_bad hp.out (by decide) ?_)
        first
          | exact (Below.refl _ _).alloc (Nat.le_refl _) _
          | exact (((Below.refl _ _).alloc (Nat.le_refl _) _).setCell (by simp) _).setCell (by simp) _
    · obtain ⟨e1, e2⟩ := unsigned_pos (s := s) (fun _ => hm)
      have E1 := hid e1
      have E2 := hid e2
      have hmi : ((s[0].toNat : Int) == 45) = false := by
        rw [beq_eq_false_iff_ne]; intro e; exact hm (UInt8.toNat_inj.1 (by have h3 : s[0].toNat = 45 := by omega
                                                                           rw [h3]; decide))
      have hE2 := str_some s h0
      clear e1 e2 hm
      go_enter Tryz.func125, Tryz.ntmps125
      change Code.wp Tryz.prog (Code.seq (head58 0) (Code.seq (head58 1) (Code.seq (head58 2) (Code.seq (head58 3) (Code.seq (head58 4) (tail58 5)))))) (Q58 w s (r : Int)) _ _
      conv => arg 2; arg 1; whnf
      conv => arg 2; arg 2; arg 1; whnf
      conv => arg 2; arg 2; arg 2; arg 1; whnf
      conv => arg 2; arg 2; arg 2; arg 2; arg 1; whnf
      conv => arg 2; arg 2; arg 2; arg 2; arg 2; arg 1; whnf
      go_wp2
      exact PT_4 h2 h36 hs h0 E1 E2 (by simp) HPR.out HHB.out
  · obtain ⟨e1, e2⟩ := unsigned_pos (s := s) (fun h => absurd h h0)
    have E1 := hid e1
    have hE2 := str_none s (by omega)
    have hp : Hid (pbad s (r : Int) = 12) := hid (pbad_text h2 h36 (allD_none (by rw [E1.out]; omega)))
    have hz : s.size = 0 := by omega
    clear e1 e2
    go_enter Tryz.func125, Tryz.ntmps125
    go_wp2
    refine bodyPost_ret (v := .tuple #[.agg #[.bool false, .slice none 0 0], .int .i64 12]) (by simp [results, Tryz.results125, go_sem]) rfl (parsedR_bad hp.out (by decide) ?_)
    first
      | exact (Below.refl _ _).alloc (Nat.le_refl _) _
      | exact (((Below.refl _ _).alloc (Nat.le_refl _) _).setCell (by simp) _).setCell (by simp) _

end Go.Proofs.YtkapejcbmonfkaaGreatDoor
