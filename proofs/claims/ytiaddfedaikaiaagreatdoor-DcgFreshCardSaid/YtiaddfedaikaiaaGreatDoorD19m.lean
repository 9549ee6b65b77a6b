/- Walks: body where it asks no body of its own: a list. No condition but those that each theorem names. Walks: body where it asks a body of its own: not. No condition but those that each theorem names. -/
import Derived.Test.YtiaddfedaikaiaaGreatDoorD15m
namespace Go.Proofs.YtiaddfedaikaiaaGreatDoor
open Go.RowKit

set_option maxRecDepth 100000 in
set_option maxHeartbeats 8000000 in
theorem body_list_a (t f e : Tm) (p pf pe : Option Addr) (c cf ce : Nat) (v : Value) (w : World) (hT : TmAt w t p) (hF : TmAt w f pf) (hE : TmAt w e pe) (hg : Good t) (hgf : Good f) (hge : Good e) (hX : Utf w) (hn : nodes t ≤ 4000) (hk : t.kind ≠ 1) (i1 : isOfT t nComma 2 = false) (i2 : isOfT t nArrow 2 = false) (i3 : isOfT t nSemi 2 = false) (i4 : isOfT t nBar 2 = false) (i5 : isOfT t nNot 1 = false) (i6 : isOfT t nBraces 0 = false) (i7 : isOfT t nBraces 1 = false) (i8 : isOfT t nCut 0 = false) (i9 : isOfT t nEmpty 0 = true) (hi : isOfT (elems t).2 nEmpty 0 = true) :
    Calls Tryz.prog 68 #[t.val p c, f.val pf cf, e.val pe ce, v] w fun x w' => ∃ q c', x = .returned ((eqT f (listT (elems t).1 e)).val q c') ∧ TmAt w' (eqT f (listT (elems t).1 e)) q ∧ Below w.heap.size w w' := by
  obtain ⟨W0, hW0, y1, y2, y3, y4, y5, y6⟩ := boxes3 w (tobj t p c) (tobj f pf cf) (tobj e pe ce)
  have hs0 := hid y1
  have B0 := hid y2
  have e0 := hid y3
  have e1 := hid y4
  have e2 := hid y5
  have R0 := hid y6
  clear y1 y2 y3 y4 y5 y6
  have CI := hid (show ∀ W s n, Calls Tryz.prog 106 #[.agg #[.int .i64 t.kind, .string t.name, .string t.num, .int .u64 t.bits, .int .i64 t.var, .slice p t.args.length c], .string s, .int .i64 n] W fun x w' => x = .returned (.bool (isOfT t s n)) ∧ Below W.heap.size W w' from fun W s n => isOf_any t p c s n W (by have := hg.few; unfold maxLen; omega))
  obtain ⟨m, hm⟩ : ∃ m, m = listT (elems t).1 e := ⟨_, rfl⟩
  have GM := hid (show Good m by rw [hm]; exact listT_goodD (elems_good (nodes t) t (Nat.le_refl _) hg).2 hge)
  have CE := hid (show ∀ W, Below W0.heap.size W0 W → Calls Tryz.prog 111 #[.agg #[.int .i64 t.kind, .string t.name, .string t.num, .int .u64 t.bits, .int .i64 t.var, .slice p t.args.length c], .agg #[.int .i64 e.kind, .string e.name, .string e.num, .int .u64 e.bits, .int .i64 e.var, .slice pe e.args.length ce]] W fun x w' => ∃ q c', x = .returned (.agg #[.int .i64 m.kind, .string m.name, .string m.num, .int .u64 m.bits, .int .i64 m.var, .slice q m.args.length c']) ∧ TmAt w' m q ∧ Below W.heap.size W w' from fun W h => by
    have hb := B0.out.trans (h.mono B0.out.size)
    rw [hm]
    exact ending_ok t e p pe c ce W (hT.keep hb) (hE.keep hb) hg hge (hX.keep hb) hn hi)
  obtain ⟨r, hr⟩ : ∃ r, r = eqT f m := ⟨_, rfl⟩
  have GR := hid (show Good r by rw [hr]; exact eqT_good hgf GM.out)
  have CA := hid (show ∀ W q c', Below W0.heap.size W0 W → TmAt W m q → Calls Tryz.prog 113 #[.agg #[.int .i64 f.kind, .string f.name, .string f.num, .int .u64 f.bits, .int .i64 f.var, .slice pf f.args.length cf], .agg #[.int .i64 m.kind, .string m.name, .string m.num, .int .u64 m.bits, .int .i64 m.var, .slice q m.args.length c']] W fun x w' => ∃ q, x = .returned (.agg #[.int .i64 r.kind, .string r.name, .string r.num, .int .u64 r.bits, .int .i64 r.var, .slice q r.args.length 2]) ∧ TmAt w' r q ∧ Below W.heap.size W w' from fun W q c' h h2 => by
    have hb := B0.out.trans (h.mono B0.out.size)
    rw [hr]
    exact equal_any f m pf q cf c' W (hF.keep hb) h2)
  rw [← hm, ← hr]
  clear hr hm hi
  have SS := hid (fun (W : World) (h : Below W0.heap.size W0 W) (u0 u1 u2 u3 u4 u5 : Value) => (show (fun W : World => W.cell? ⟨w.heap.size, 0, none⟩ = some (.int .i64 t.kind) ∧ W.cell? ⟨w.heap.size, 1, none⟩ = some (.string t.name) ∧ W.cell? ⟨w.heap.size, 2, none⟩ = some (.string t.num) ∧ W.cell? ⟨w.heap.size, 3, none⟩ = some (.int .u64 t.bits) ∧ W.cell? ⟨w.heap.size, 4, none⟩ = some (.int .i64 t.var) ∧ W.cell? ⟨w.heap.size, 5, none⟩ = some (.slice p t.args.length c) ∧ W.cell? ⟨w.heap.size + 1, 0, none⟩ = some (.int .i64 f.kind) ∧ W.cell? ⟨w.heap.size + 1, 1, none⟩ = some (.string f.name) ∧ W.cell? ⟨w.heap.size + 1, 2, none⟩ = some (.string f.num) ∧ W.cell? ⟨w.heap.size + 1, 3, none⟩ = some (.int .u64 f.bits) ∧ W.cell? ⟨w.heap.size + 1, 4, none⟩ = some (.int .i64 f.var) ∧ W.cell? ⟨w.heap.size + 1, 5, none⟩ = some (.slice pf f.args.length cf) ∧ W.cell? ⟨w.heap.size + 1 + 1, 0, none⟩ = some (.int .i64 e.kind) ∧ W.cell? ⟨w.heap.size + 1 + 1, 1, none⟩ = some (.string e.name) ∧ W.cell? ⟨w.heap.size + 1 + 1, 2, none⟩ = some (.string e.num) ∧ W.cell? ⟨w.heap.size + 1 + 1, 3, none⟩ = some (.int .u64 e.bits) ∧ W.cell? ⟨w.heap.size + 1 + 1, 4, none⟩ = some (.int .i64 e.var) ∧ W.cell? ⟨w.heap.size + 1 + 1, 5, none⟩ = some (.slice pe e.args.length ce)) ((((((((W.setCell ⟨w.heap.size + 1 + 1 + 1, 0, none⟩ u0).setCell ⟨w.heap.size + 1 + 1 + 1, 1, none⟩ u1).setCell ⟨w.heap.size + 1 + 1 + 1, 2, none⟩ u2).setCell ⟨w.heap.size + 1 + 1 + 1, 3, none⟩ u3).setCell ⟨w.heap.size + 1 + 1 + 1, 4, none⟩ u4).setCell ⟨w.heap.size + 1 + 1 + 1, 5, none⟩ u5))) from by
    have hg := set6_grown W (w.heap.size + 1 + 1 + 1) u0 u1 u2 u3 u4 u5
    have k0 := obj_keep e0.out h
    have k1 := obj_keep e1.out h
    have k2 := obj_keep e2.out h
    have m0 := six_of ((hg.block _ (lt_of_block k0) (fun e => by have := Option.some.inj e; omega)).trans k0)
    have m1 := six_of ((hg.block _ (lt_of_block k1) (fun e => by have := Option.some.inj e; omega)).trans k1)
    have m2 := six_of ((hg.block _ (lt_of_block k2) (fun e => by have := Option.some.inj e; omega)).trans k2)
    exact ⟨m0.c0, m0.c1, m0.c2, m0.c3, m0.c4, m0.c5, m1.c0, m1.c1, m1.c2, m1.c3, m1.c4, m1.c5, m2.c0, m2.c1, m2.c2, m2.c3, m2.c4, m2.c5⟩))
  unfold nComma at i1
  unfold nArrow at i2
  unfold nSemi at i3
  unfold nBar at i4
  unfold nNot at i5
  unfold nBraces at i6
  unfold nBraces at i7
  unfold nCut at i8
  unfold nEmpty at i9
  have HT := hid hT
  have HF := hid hF
  have HE := hid hE
  have SR := hid (fun (W : World) (h : Below W0.heap.size W0 W) => (show W.cell? ⟨w.heap.size, 0, none⟩ = some (.int .i64 t.kind) ∧ W.cell? ⟨w.heap.size, 1, none⟩ = some (.string t.name) ∧ W.cell? ⟨w.heap.size, 2, none⟩ = some (.string t.num) ∧ W.cell? ⟨w.heap.size, 3, none⟩ = some (.int .u64 t.bits) ∧ W.cell? ⟨w.heap.size, 4, none⟩ = some (.int .i64 t.var) ∧ W.cell? ⟨w.heap.size, 5, none⟩ = some (.slice p t.args.length c) ∧ W.cell? ⟨w.heap.size + 1, 0, none⟩ = some (.int .i64 f.kind) ∧ W.cell? ⟨w.heap.size + 1, 1, none⟩ = some (.string f.name) ∧ W.cell? ⟨w.heap.size + 1, 2, none⟩ = some (.string f.num) ∧ W.cell? ⟨w.heap.size + 1, 3, none⟩ = some (.int .u64 f.bits) ∧ W.cell? ⟨w.heap.size + 1, 4, none⟩ = some (.int .i64 f.var) ∧ W.cell? ⟨w.heap.size + 1, 5, none⟩ = some (.slice pf f.args.length cf) ∧ W.cell? ⟨w.heap.size + 1 + 1, 0, none⟩ = some (.int .i64 e.kind) ∧ W.cell? ⟨w.heap.size + 1 + 1, 1, none⟩ = some (.string e.name) ∧ W.cell? ⟨w.heap.size + 1 + 1, 2, none⟩ = some (.string e.num) ∧ W.cell? ⟨w.heap.size + 1 + 1, 3, none⟩ = some (.int .u64 e.bits) ∧ W.cell? ⟨w.heap.size + 1 + 1, 4, none⟩ = some (.int .i64 e.var) ∧ W.cell? ⟨w.heap.size + 1 + 1, 5, none⟩ = some (.slice pe e.args.length ce) from by
    have m0 := six_of (obj_keep e0.out h)
    have m1 := six_of (obj_keep e1.out h)
    have m2 := six_of (obj_keep e2.out h)
    exact ⟨m0.c0, m0.c1, m0.c2, m0.c3, m0.c4, m0.c5, m1.c0, m1.c1, m1.c2, m1.c3, m1.c4, m1.c5, m2.c0, m2.c1, m2.c2, m2.c3, m2.c4, m2.c5⟩))
  have BB := hid (Below.refl W0.heap.size W0)
  unfold tobj at hW0
  unfold Tm.val
  clear hT hF hE hg hgf hge hX hn
  go_enter Tryz.func68, Tryz.ntmps68
  go_upto_region 1 with fail
  rw [← hW0]
  clear hW0
  obtain ⟨a0, a1, a2, a3, a4, a5, b0, b1, b2, b3, b4, b5, d0, d1, d2, d3, d4, d5⟩ := SR.out _ BB.out
  go_upto_region 20 with (first
    | (go_at_call 106; (with_reducible refine (CI.out _ _ _).mono ?_); rintro x w2 ⟨rfl, hb2⟩; have BB := hid (BB.out.trans (hb2.mono BB.out.size)); clear hb2 a0 a1 a2 a3 a4 a5 b0 b1 b2 b3 b4 b5 d0 d1 d2 d3 d4 d5; obtain ⟨a0, a1, a2, a3, a4, a5, b0, b1, b2, b3, b4, b5, d0, d1, d2, d3, d4, d5⟩ := SR.out _ BB.out; first | rw [i1] | rw [i2] | rw [i3] | rw [i4] | rw [i5] | rw [i6] | rw [i7] | rw [i8] | rw [i9] | rw [i10])
    | fail)
  have sr := SR.out _ BB.out
  clear a0 a1 a2 a3 a4 a5 b0 b1 b2 b3 b4 b5 d0 d1 d2 d3 d4 d5
  go_region_held3 (fun W => W.cell? ⟨w.heap.size, 0, none⟩ = some (.int .i64 t.kind) ∧ W.cell? ⟨w.heap.size, 1, none⟩ = some (.string t.name) ∧ W.cell? ⟨w.heap.size, 2, none⟩ = some (.string t.num) ∧ W.cell? ⟨w.heap.size, 3, none⟩ = some (.int .u64 t.bits) ∧ W.cell? ⟨w.heap.size, 4, none⟩ = some (.int .i64 t.var) ∧ W.cell? ⟨w.heap.size, 5, none⟩ = some (.slice p t.args.length c) ∧ W.cell? ⟨w.heap.size + 1, 0, none⟩ = some (.int .i64 f.kind) ∧ W.cell? ⟨w.heap.size + 1, 1, none⟩ = some (.string f.name) ∧ W.cell? ⟨w.heap.size + 1, 2, none⟩ = some (.string f.num) ∧ W.cell? ⟨w.heap.size + 1, 3, none⟩ = some (.int .u64 f.bits) ∧ W.cell? ⟨w.heap.size + 1, 4, none⟩ = some (.int .i64 f.var) ∧ W.cell? ⟨w.heap.size + 1, 5, none⟩ = some (.slice pf f.args.length cf) ∧ W.cell? ⟨w.heap.size + 1 + 1, 0, none⟩ = some (.int .i64 e.kind) ∧ W.cell? ⟨w.heap.size + 1 + 1, 1, none⟩ = some (.string e.name) ∧ W.cell? ⟨w.heap.size + 1 + 1, 2, none⟩ = some (.string e.num) ∧ W.cell? ⟨w.heap.size + 1 + 1, 3, none⟩ = some (.int .u64 e.bits) ∧ W.cell? ⟨w.heap.size + 1 + 1, 4, none⟩ = some (.int .i64 e.var) ∧ W.cell? ⟨w.heap.size + 1 + 1, 5, none⟩ = some (.slice pe e.args.length ce))
    (first
      | (with_reducible exact sr)
      | (with_reducible exact SR.out _ (bl_drew BB.out))
      | (with_reducible exact SR.out _ D3.out)
      | (with_reducible exact SR.out _ (bl_drew D3.out))
      | (with_reducible exact SS.out _ D3.out _ _ _ _ _ _)
      | (with_reducible exact SR.out _ D4.out)
      | (with_reducible exact SR.out _ (bl_drew D4.out))
      | (with_reducible exact SS.out _ D4.out _ _ _ _ _ _)
      | fail)
    ((first
      | (go_at_call 111; (with_reducible refine (CE.out _ (bl_drew BB.out)).mono ?_); rintro x w3 ⟨q3, c3, rfl, ht, hb3⟩; have D3 := hid (bl_call (bl_drew BB.out) hb3); have M3 := hid ht; clear hb3 ht)
      | (go_at_call 113; (with_reducible refine (CA.out _ _ _ D3.out M3.out).mono ?_); rintro x w4 ⟨q4, rfl, ht, hb4⟩; have D4 := hid (bl_call D3.out hb4); have M9 := hid ht; have R9 := hid (obj_keep R0.out D4.out); have B9 := hid (B0.out.trans (D4.out.mono B0.out.size)); clear hb4 ht; obtain ⟨⟨z0, z1, z2, z3, z4, z5⟩, ⟨f0, f1, f2, f3, f4, f5⟩⟩ := six_free R9.out)
      | fail))
  go_wp2_with fail
  have hgr := set6_grown w4 (w.heap.size + 1 + 1 + 1) (.int .i64 r.kind) (.string r.name) (.string r.num) (.int .u64 r.bits) (.int .i64 r.var) (.slice q4 r.args.length 2)
  have hbw := set6_below B9.out (show w.heap.size ≤ w.heap.size + 1 + 1 + 1 by omega) (.int .i64 r.kind) (.string r.name) (.string r.num) (.int .u64 r.bits) (.int .i64 r.var) (.slice q4 r.args.length 2)
  have hm' := TmAt.past (b := w.heap.size + 1 + 1 + 1) (t := r) (p := q4) (show Blank w4 (w.heap.size + 1 + 1 + 1) from R9.out) (Past.grown hgr) GR.out M9.out
  exact bodyPost_ret (results_tm rfl _ _ (w.heap.size + 1 + 1 + 1) r q4 2 (by rfl) (set6 R9.out _ _ _ _ _ _)) rfl ⟨q4, 2, rfl, hm', hbw⟩
set_option maxRecDepth 100000 in
set_option maxHeartbeats 8000000 in
theorem body_nolist_a (t f e : Tm) (p pf pe : Option Addr) (c cf ce : Nat) (v : Value) (w : World) (hT : TmAt w t p) (hF : TmAt w f pf) (hE : TmAt w e pe) (hg : Good t) (hgf : Good f) (hge : Good e) (hX : Utf w) (hn : nodes t ≤ 4000) (hk : t.kind ≠ 1) (i1 : isOfT t nComma 2 = false) (i2 : isOfT t nArrow 2 = false) (i3 : isOfT t nSemi 2 = false) (i4 : isOfT t nBar 2 = false) (i5 : isOfT t nNot 1 = false) (i6 : isOfT t nBraces 0 = false) (i7 : isOfT t nBraces 1 = false) (i8 : isOfT t nCut 0 = false) (i9 : isOfT t nEmpty 0 = true) (hi : isOfT (elems t).2 nEmpty 0 = false) :
    Calls Tryz.prog 68 #[t.val p c, f.val pf cf, e.val pe ce, v] w fun x w' => ∃ k, x = .panicked [{ v := .iface 105 (.pointer (some ⟨k, 0, none⟩)), recovered := false }] ∧ BallAt w' k (bType nList t) ∧ Below w.heap.size w w' := by
  obtain ⟨W0, hW0, y1, y2, y3, y4, y5, y6⟩ := boxes3 w (tobj t p c) (tobj f pf cf) (tobj e pe ce)
  have hs0 := hid y1
  have B0 := hid y2
  have e0 := hid y3
  have e1 := hid y4
  have e2 := hid y5
  have R0 := hid y6
  clear y1 y2 y3 y4 y5 y6
  have CI := hid (show ∀ W s n, Calls Tryz.prog 106 #[.agg #[.int .i64 t.kind, .string t.name, .string t.num, .int .u64 t.bits, .int .i64 t.var, .slice p t.args.length c], .string s, .int .i64 n] W fun x w' => x = .returned (.bool (isOfT t s n)) ∧ Below W.heap.size W w' from fun W s n => isOf_any t p c s n W (by have := hg.few; unfold maxLen; omega))
  obtain ⟨bb, hbb⟩ : ∃ bb, bb = bType nList t := ⟨_, rfl⟩
  have CE := hid (show ∀ W, Below W0.heap.size W0 W → Calls Tryz.prog 111 #[.agg #[.int .i64 t.kind, .string t.name, .string t.num, .int .u64 t.bits, .int .i64 t.var, .slice p t.args.length c], .agg #[.int .i64 e.kind, .string e.name, .string e.num, .int .u64 e.bits, .int .i64 e.var, .slice pe e.args.length ce]] W fun x w' => ∃ k, x = .panicked [{ v := .iface 105 (.pointer (some ⟨k, 0, none⟩)), recovered := false }] ∧ BallAt w' k bb ∧ Below W.heap.size W w' from fun W h => by
    have hb := B0.out.trans (h.mono B0.out.size)
    rw [hbb]
    exact ending_bad t e p pe c ce W (hT.keep hb) (hE.keep hb) hg (hX.keep hb) hn hi)
  rw [← hbb]
  clear hbb hi
  unfold nComma at i1
  unfold nArrow at i2
  unfold nSemi at i3
  unfold nBar at i4
  unfold nNot at i5
  unfold nBraces at i6
  unfold nBraces at i7
  unfold nCut at i8
  unfold nEmpty at i9
  have HT := hid hT
  have HF := hid hF
  have HE := hid hE
  have SR := hid (fun (W : World) (h : Below W0.heap.size W0 W) => (show W.cell? ⟨w.heap.size, 0, none⟩ = some (.int .i64 t.kind) ∧ W.cell? ⟨w.heap.size, 1, none⟩ = some (.string t.name) ∧ W.cell? ⟨w.heap.size, 2, none⟩ = some (.string t.num) ∧ W.cell? ⟨w.heap.size, 3, none⟩ = some (.int .u64 t.bits) ∧ W.cell? ⟨w.heap.size, 4, none⟩ = some (.int .i64 t.var) ∧ W.cell? ⟨w.heap.size, 5, none⟩ = some (.slice p t.args.length c) ∧ W.cell? ⟨w.heap.size + 1, 0, none⟩ = some (.int .i64 f.kind) ∧ W.cell? ⟨w.heap.size + 1, 1, none⟩ = some (.string f.name) ∧ W.cell? ⟨w.heap.size + 1, 2, none⟩ = some (.string f.num) ∧ W.cell? ⟨w.heap.size + 1, 3, none⟩ = some (.int .u64 f.bits) ∧ W.cell? ⟨w.heap.size + 1, 4, none⟩ = some (.int .i64 f.var) ∧ W.cell? ⟨w.heap.size + 1, 5, none⟩ = some (.slice pf f.args.length cf) ∧ W.cell? ⟨w.heap.size + 1 + 1, 0, none⟩ = some (.int .i64 e.kind) ∧ W.cell? ⟨w.heap.size + 1 + 1, 1, none⟩ = some (.string e.name) ∧ W.cell? ⟨w.heap.size + 1 + 1, 2, none⟩ = some (.string e.num) ∧ W.cell? ⟨w.heap.size + 1 + 1, 3, none⟩ = some (.int .u64 e.bits) ∧ W.cell? ⟨w.heap.size + 1 + 1, 4, none⟩ = some (.int .i64 e.var) ∧ W.cell? ⟨w.heap.size + 1 + 1, 5, none⟩ = some (.slice pe e.args.length ce) from by
    have m0 := six_of (obj_keep e0.out h)
    have m1 := six_of (obj_keep e1.out h)
    have m2 := six_of (obj_keep e2.out h)
    exact ⟨m0.c0, m0.c1, m0.c2, m0.c3, m0.c4, m0.c5, m1.c0, m1.c1, m1.c2, m1.c3, m1.c4, m1.c5, m2.c0, m2.c1, m2.c2, m2.c3, m2.c4, m2.c5⟩))
  have BB := hid (Below.refl W0.heap.size W0)
  unfold tobj at hW0
  unfold Tm.val
  clear hT hF hE hg hgf hge hX hn
  go_enter Tryz.func68, Tryz.ntmps68
  go_upto_region 1 with fail
  rw [← hW0]
  clear hW0
  obtain ⟨a0, a1, a2, a3, a4, a5, b0, b1, b2, b3, b4, b5, d0, d1, d2, d3, d4, d5⟩ := SR.out _ BB.out
  go_upto_region 20 with (first
    | (go_at_call 106; (with_reducible refine (CI.out _ _ _).mono ?_); rintro x w2 ⟨rfl, hb2⟩; have BB := hid (BB.out.trans (hb2.mono BB.out.size)); clear hb2 a0 a1 a2 a3 a4 a5 b0 b1 b2 b3 b4 b5 d0 d1 d2 d3 d4 d5; obtain ⟨a0, a1, a2, a3, a4, a5, b0, b1, b2, b3, b4, b5, d0, d1, d2, d3, d4, d5⟩ := SR.out _ BB.out; first | rw [i1] | rw [i2] | rw [i3] | rw [i4] | rw [i5] | rw [i6] | rw [i7] | rw [i8] | rw [i9] | rw [i10])
    | fail)
  have sd := SR.out _ (bl_drew BB.out)
  clear a0 a1 a2 a3 a4 a5 b0 b1 b2 b3 b4 b5 d0 d1 d2 d3 d4 d5
  refine wp_region_held_drew (S := fun W => W.cell? ⟨w.heap.size, 0, none⟩ = some (.int .i64 t.kind) ∧ W.cell? ⟨w.heap.size, 1, none⟩ = some (.string t.name) ∧ W.cell? ⟨w.heap.size, 2, none⟩ = some (.string t.num) ∧ W.cell? ⟨w.heap.size, 3, none⟩ = some (.int .u64 t.bits) ∧ W.cell? ⟨w.heap.size, 4, none⟩ = some (.int .i64 t.var) ∧ W.cell? ⟨w.heap.size, 5, none⟩ = some (.slice p t.args.length c) ∧ W.cell? ⟨w.heap.size + 1, 0, none⟩ = some (.int .i64 f.kind) ∧ W.cell? ⟨w.heap.size + 1, 1, none⟩ = some (.string f.name) ∧ W.cell? ⟨w.heap.size + 1, 2, none⟩ = some (.string f.num) ∧ W.cell? ⟨w.heap.size + 1, 3, none⟩ = some (.int .u64 f.bits) ∧ W.cell? ⟨w.heap.size + 1, 4, none⟩ = some (.int .i64 f.var) ∧ W.cell? ⟨w.heap.size + 1, 5, none⟩ = some (.slice pf f.args.length cf) ∧ W.cell? ⟨w.heap.size + 1 + 1, 0, none⟩ = some (.int .i64 e.kind) ∧ W.cell? ⟨w.heap.size + 1 + 1, 1, none⟩ = some (.string e.name) ∧ W.cell? ⟨w.heap.size + 1 + 1, 2, none⟩ = some (.string e.num) ∧ W.cell? ⟨w.heap.size + 1 + 1, 3, none⟩ = some (.int .u64 e.bits) ∧ W.cell? ⟨w.heap.size + 1 + 1, 4, none⟩ = some (.int .i64 e.var) ∧ W.cell? ⟨w.heap.size + 1 + 1, 5, none⟩ = some (.slice pe e.args.length ce)) (by kernel_rfl) sd (fun hHeld => ?_)
  refine' wpAnyH_take (i := 0) (v := (.agg #[.int .i64 f.kind, .string f.name, .string f.num, .int .u64 f.bits, .int .i64 f.var, .slice pf f.args.length cf])) rfl (by decide +kernel) (by decide +kernel) (by decide +kernel) (fun _ _ _ h => h) (Or.inl ⟨by rfl, ?hyL0⟩) (by assumption) ?restL0
  case hyL0 => (intro w5 hSw; (try dsimp only at hSw); go_simp; try with_reducible rfl)
  case' restL0 => (try simp only [Act.put, List.setIfInBounds_toArray, List.set_cons_zero, List.set_cons_succ])
  refine' wpAnyH_take (i := 1) (v := (.agg #[.int .i64 t.kind, .string t.name, .string t.num, .int .u64 t.bits, .int .i64 t.var, .slice p t.args.length c])) rfl (by decide +kernel) (by decide +kernel) (by decide +kernel) (fun _ _ _ h => h) (Or.inl ⟨by rfl, ?hyL1⟩) (by assumption) ?restL1
  case hyL1 => (intro w5 hSw; (try dsimp only at hSw); go_simp; try with_reducible rfl)
  case' restL1 => (try simp only [Act.put, List.setIfInBounds_toArray, List.set_cons_zero, List.set_cons_succ])
  refine' wpAnyH_take (i := 2) (v := (.agg #[.int .i64 e.kind, .string e.name, .string e.num, .int .u64 e.bits, .int .i64 e.var, .slice pe e.args.length ce])) rfl (by decide +kernel) (by decide +kernel) (by decide +kernel) (fun _ _ _ h => h) (Or.inl ⟨by rfl, ?hyL2⟩) (by assumption) ?restL2
  case hyL2 => (intro w5 hSw; (try dsimp only at hSw); go_simp; try with_reducible rfl)
  case' restL2 => (try simp only [Act.put, List.setIfInBounds_toArray, List.set_cons_zero, List.set_cons_succ])
  refine wpAnyH_ready (rs := [3]) (by decide +kernel) (by simp) ?_
  refine AllReadyH.cons rfl (fun K hK => ?_) AllReadyH.nil
  go_simp
  (with_reducible refine (CE.out _ (bl_drew BB.out)).mono ?_)
  rintro x w3 ⟨k, rfl, ht, hb3⟩
  have D3 := hid (bl_call (bl_drew BB.out) hb3)
  clear hHeld sd
  go_simp
  exact ⟨rfl, k, rfl, ht, B0.out.trans (D3.out.mono B0.out.size)⟩
set_option maxRecDepth 100000 in
set_option maxHeartbeats 8000000 in
theorem body_list_b (t f e : Tm) (p pf pe : Option Addr) (c cf ce : Nat) (v : Value) (w : World) (hT : TmAt w t p) (hF : TmAt w f pf) (hE : TmAt w e pe) (hg : Good t) (hgf : Good f) (hge : Good e) (hX : Utf w) (hn : nodes t ≤ 4000) (hk : t.kind ≠ 1) (i1 : isOfT t nComma 2 = false) (i2 : isOfT t nArrow 2 = false) (i3 : isOfT t nSemi 2 = false) (i4 : isOfT t nBar 2 = false) (i5 : isOfT t nNot 1 = false) (i6 : isOfT t nBraces 0 = false) (i7 : isOfT t nBraces 1 = false) (i8 : isOfT t nCut 0 = false) (i9 : isOfT t nEmpty 0 = false) (i10 : isOfT t nDot 2 = true) (hi : isOfT (elems t).2 nEmpty 0 = true) :
    Calls Tryz.prog 68 #[t.val p c, f.val pf cf, e.val pe ce, v] w fun x w' => ∃ q c', x = .returned ((eqT f (listT (elems t).1 e)).val q c') ∧ TmAt w' (eqT f (listT (elems t).1 e)) q ∧ Below w.heap.size w w' := by
  obtain ⟨W0, hW0, y1, y2, y3, y4, y5, y6⟩ := boxes3 w (tobj t p c) (tobj f pf cf) (tobj e pe ce)
  have hs0 := hid y1
  have B0 := hid y2
  have e0 := hid y3
  have e1 := hid y4
  have e2 := hid y5
  have R0 := hid y6
  clear y1 y2 y3 y4 y5 y6
  have CI := hid (show ∀ W s n, Calls Tryz.prog 106 #[.agg #[.int .i64 t.kind, .string t.name, .string t.num, .int .u64 t.bits, .int .i64 t.var, .slice p t.args.length c], .string s, .int .i64 n] W fun x w' => x = .returned (.bool (isOfT t s n)) ∧ Below W.heap.size W w' from fun W s n => isOf_any t p c s n W (by have := hg.few; unfold maxLen; omega))
  obtain ⟨m, hm⟩ : ∃ m, m = listT (elems t).1 e := ⟨_, rfl⟩
  have GM := hid (show Good m by rw [hm]; exact listT_goodD (elems_good (nodes t) t (Nat.le_refl _) hg).2 hge)
  have CE := hid (show ∀ W, Below W0.heap.size W0 W → Calls Tryz.prog 111 #[.agg #[.int .i64 t.kind, .string t.name, .string t.num, .int .u64 t.bits, .int .i64 t.var, .slice p t.args.length c], .agg #[.int .i64 e.kind, .string e.name, .string e.num, .int .u64 e.bits, .int .i64 e.var, .slice pe e.args.length ce]] W fun x w' => ∃ q c', x = .returned (.agg #[.int .i64 m.kind, .string m.name, .string m.num, .int .u64 m.bits, .int .i64 m.var, .slice q m.args.length c']) ∧ TmAt w' m q ∧ Below W.heap.size W w' from fun W h => by
    have hb := B0.out.trans (h.mono B0.out.size)
    rw [hm]
    exact ending_ok t e p pe c ce W (hT.keep hb) (hE.keep hb) hg hge (hX.keep hb) hn hi)
  obtain ⟨r, hr⟩ : ∃ r, r = eqT f m := ⟨_, rfl⟩
  have GR := hid (show Good r by rw [hr]; exact eqT_good hgf GM.out)
  have CA := hid (show ∀ W q c', Below W0.heap.size W0 W → TmAt W m q → Calls Tryz.prog 113 #[.agg #[.int .i64 f.kind, .string f.name, .string f.num, .int .u64 f.bits, .int .i64 f.var, .slice pf f.args.length cf], .agg #[.int .i64 m.kind, .string m.name, .string m.num, .int .u64 m.bits, .int .i64 m.var, .slice q m.args.length c']] W fun x w' => ∃ q, x = .returned (.agg #[.int .i64 r.kind, .string r.name, .string r.num, .int .u64 r.bits, .int .i64 r.var, .slice q r.args.length 2]) ∧ TmAt w' r q ∧ Below W.heap.size W w' from fun W q c' h h2 => by
    have hb := B0.out.trans (h.mono B0.out.size)
    rw [hr]
    exact equal_any f m pf q cf c' W (hF.keep hb) h2)
  rw [← hm, ← hr]
  clear hr hm hi
  have SS := hid (fun (W : World) (h : Below W0.heap.size W0 W) (u0 u1 u2 u3 u4 u5 : Value) => (show (fun W : World => W.cell? ⟨w.heap.size, 0, none⟩ = some (.int .i64 t.kind) ∧ W.cell? ⟨w.heap.size, 1, none⟩ = some (.string t.name) ∧ W.cell? ⟨w.heap.size, 2, none⟩ = some (.string t.num) ∧ W.cell? ⟨w.heap.size, 3, none⟩ = some (.int .u64 t.bits) ∧ W.cell? ⟨w.heap.size, 4, none⟩ = some (.int .i64 t.var) ∧ W.cell? ⟨w.heap.size, 5, none⟩ = some (.slice p t.args.length c) ∧ W.cell? ⟨w.heap.size + 1, 0, none⟩ = some (.int .i64 f.kind) ∧ W.cell? ⟨w.heap.size + 1, 1, none⟩ = some (.string f.name) ∧ W.cell? ⟨w.heap.size + 1, 2, none⟩ = some (.string f.num) ∧ W.cell? ⟨w.heap.size + 1, 3, none⟩ = some (.int .u64 f.bits) ∧ W.cell? ⟨w.heap.size + 1, 4, none⟩ = some (.int .i64 f.var) ∧ W.cell? ⟨w.heap.size + 1, 5, none⟩ = some (.slice pf f.args.length cf) ∧ W.cell? ⟨w.heap.size + 1 + 1, 0, none⟩ = some (.int .i64 e.kind) ∧ W.cell? ⟨w.heap.size + 1 + 1, 1, none⟩ = some (.string e.name) ∧ W.cell? ⟨w.heap.size + 1 + 1, 2, none⟩ = some (.string e.num) ∧ W.cell? ⟨w.heap.size + 1 + 1, 3, none⟩ = some (.int .u64 e.bits) ∧ W.cell? ⟨w.heap.size + 1 + 1, 4, none⟩ = some (.int .i64 e.var) ∧ W.cell? ⟨w.heap.size + 1 + 1, 5, none⟩ = some (.slice pe e.args.length ce)) ((((((((W.setCell ⟨w.heap.size + 1 + 1 + 1, 0, none⟩ u0).setCell ⟨w.heap.size + 1 + 1 + 1, 1, none⟩ u1).setCell ⟨w.heap.size + 1 + 1 + 1, 2, none⟩ u2).setCell ⟨w.heap.size + 1 + 1 + 1, 3, none⟩ u3).setCell ⟨w.heap.size + 1 + 1 + 1, 4, none⟩ u4).setCell ⟨w.heap.size + 1 + 1 + 1, 5, none⟩ u5))) from by
    have hg := set6_grown W (w.heap.size + 1 + 1 + 1) u0 u1 u2 u3 u4 u5
    have k0 := obj_keep e0.out h
    have k1 := obj_keep e1.out h
    have k2 := obj_keep e2.out h
    have m0 := six_of ((hg.block _ (lt_of_block k0) (fun e => by have := Option.some.inj e; omega)).trans k0)
    have m1 := six_of ((hg.block _ (lt_of_block k1) (fun e => by have := Option.some.inj e; omega)).trans k1)
    have m2 := six_of ((hg.block _ (lt_of_block k2) (fun e => by have := Option.some.inj e; omega)).trans k2)
    exact ⟨m0.c0, m0.c1, m0.c2, m0.c3, m0.c4, m0.c5, m1.c0, m1.c1, m1.c2, m1.c3, m1.c4, m1.c5, m2.c0, m2.c1, m2.c2, m2.c3, m2.c4, m2.c5⟩))
  unfold nComma at i1
  unfold nArrow at i2
  unfold nSemi at i3
  unfold nBar at i4
  unfold nNot at i5
  unfold nBraces at i6
  unfold nBraces at i7
  unfold nCut at i8
  unfold nEmpty at i9
  unfold nDot at i10
  have HT := hid hT
  have HF := hid hF
  have HE := hid hE
  have SR := hid (fun (W : World) (h : Below W0.heap.size W0 W) => (show W.cell? ⟨w.heap.size, 0, none⟩ = some (.int .i64 t.kind) ∧ W.cell? ⟨w.heap.size, 1, none⟩ = some (.string t.name) ∧ W.cell? ⟨w.heap.size, 2, none⟩ = some (.string t.num) ∧ W.cell? ⟨w.heap.size, 3, none⟩ = some (.int .u64 t.bits) ∧ W.cell? ⟨w.heap.size, 4, none⟩ = some (.int .i64 t.var) ∧ W.cell? ⟨w.heap.size, 5, none⟩ = some (.slice p t.args.length c) ∧ W.cell? ⟨w.heap.size + 1, 0, none⟩ = some (.int .i64 f.kind) ∧ W.cell? ⟨w.heap.size + 1, 1, none⟩ = some (.string f.name) ∧ W.cell? ⟨w.heap.size + 1, 2, none⟩ = some (.string f.num) ∧ W.cell? ⟨w.heap.size + 1, 3, none⟩ = some (.int .u64 f.bits) ∧ W.cell? ⟨w.heap.size + 1, 4, none⟩ = some (.int .i64 f.var) ∧ W.cell? ⟨w.heap.size + 1, 5, none⟩ = some (.slice pf f.args.length cf) ∧ W.cell? ⟨w.heap.size + 1 + 1, 0, none⟩ = some (.int .i64 e.kind) ∧ W.cell? ⟨w.heap.size + 1 + 1, 1, none⟩ = some (.string e.name) ∧ W.cell? ⟨w.heap.size + 1 + 1, 2, none⟩ = some (.string e.num) ∧ W.cell? ⟨w.heap.size + 1 + 1, 3, none⟩ = some (.int .u64 e.bits) ∧ W.cell? ⟨w.heap.size + 1 + 1, 4, none⟩ = some (.int .i64 e.var) ∧ W.cell? ⟨w.heap.size + 1 + 1, 5, none⟩ = some (.slice pe e.args.length ce) from by
    have m0 := six_of (obj_keep e0.out h)
    have m1 := six_of (obj_keep e1.out h)
    have m2 := six_of (obj_keep e2.out h)
    exact ⟨m0.c0, m0.c1, m0.c2, m0.c3, m0.c4, m0.c5, m1.c0, m1.c1, m1.c2, m1.c3, m1.c4, m1.c5, m2.c0, m2.c1, m2.c2, m2.c3, m2.c4, m2.c5⟩))
  have BB := hid (Below.refl W0.heap.size W0)
  unfold tobj at hW0
  unfold Tm.val
  clear hT hF hE hg hgf hge hX hn
  go_enter Tryz.func68, Tryz.ntmps68
  go_upto_region 1 with fail
  rw [← hW0]
  clear hW0
  obtain ⟨a0, a1, a2, a3, a4, a5, b0, b1, b2, b3, b4, b5, d0, d1, d2, d3, d4, d5⟩ := SR.out _ BB.out
  go_upto_region 20 with (first
    | (go_at_call 106; (with_reducible refine (CI.out _ _ _).mono ?_); rintro x w2 ⟨rfl, hb2⟩; have BB := hid (BB.out.trans (hb2.mono BB.out.size)); clear hb2 a0 a1 a2 a3 a4 a5 b0 b1 b2 b3 b4 b5 d0 d1 d2 d3 d4 d5; obtain ⟨a0, a1, a2, a3, a4, a5, b0, b1, b2, b3, b4, b5, d0, d1, d2, d3, d4, d5⟩ := SR.out _ BB.out; first | rw [i1] | rw [i2] | rw [i3] | rw [i4] | rw [i5] | rw [i6] | rw [i7] | rw [i8] | rw [i9] | rw [i10])
    | fail)
  have sr := SR.out _ BB.out
  clear a0 a1 a2 a3 a4 a5 b0 b1 b2 b3 b4 b5 d0 d1 d2 d3 d4 d5
  go_region_held3 (fun W => W.cell? ⟨w.heap.size, 0, none⟩ = some (.int .i64 t.kind) ∧ W.cell? ⟨w.heap.size, 1, none⟩ = some (.string t.name) ∧ W.cell? ⟨w.heap.size, 2, none⟩ = some (.string t.num) ∧ W.cell? ⟨w.heap.size, 3, none⟩ = some (.int .u64 t.bits) ∧ W.cell? ⟨w.heap.size, 4, none⟩ = some (.int .i64 t.var) ∧ W.cell? ⟨w.heap.size, 5, none⟩ = some (.slice p t.args.length c) ∧ W.cell? ⟨w.heap.size + 1, 0, none⟩ = some (.int .i64 f.kind) ∧ W.cell? ⟨w.heap.size + 1, 1, none⟩ = some (.string f.name) ∧ W.cell? ⟨w.heap.size + 1, 2, none⟩ = some (.string f.num) ∧ W.cell? ⟨w.heap.size + 1, 3, none⟩ = some (.int .u64 f.bits) ∧ W.cell? ⟨w.heap.size + 1, 4, none⟩ = some (.int .i64 f.var) ∧ W.cell? ⟨w.heap.size + 1, 5, none⟩ = some (.slice pf f.args.length cf) ∧ W.cell? ⟨w.heap.size + 1 + 1, 0, none⟩ = some (.int .i64 e.kind) ∧ W.cell? ⟨w.heap.size + 1 + 1, 1, none⟩ = some (.string e.name) ∧ W.cell? ⟨w.heap.size + 1 + 1, 2, none⟩ = some (.string e.num) ∧ W.cell? ⟨w.heap.size + 1 + 1, 3, none⟩ = some (.int .u64 e.bits) ∧ W.cell? ⟨w.heap.size + 1 + 1, 4, none⟩ = some (.int .i64 e.var) ∧ W.cell? ⟨w.heap.size + 1 + 1, 5, none⟩ = some (.slice pe e.args.length ce))
    (first
      | (with_reducible exact sr)
      | (with_reducible exact SR.out _ (bl_drew BB.out))
      | (with_reducible exact SR.out _ D3.out)
      | (with_reducible exact SR.out _ (bl_drew D3.out))
      | (with_reducible exact SS.out _ D3.out _ _ _ _ _ _)
      | (with_reducible exact SR.out _ D4.out)
      | (with_reducible exact SR.out _ (bl_drew D4.out))
      | (with_reducible exact SS.out _ D4.out _ _ _ _ _ _)
      | fail)
    ((first
      | (go_at_call 111; (with_reducible refine (CE.out _ (bl_drew BB.out)).mono ?_); rintro x w3 ⟨q3, c3, rfl, ht, hb3⟩; have D3 := hid (bl_call (bl_drew BB.out) hb3); have M3 := hid ht; clear hb3 ht)
      | (go_at_call 113; (with_reducible refine (CA.out _ _ _ D3.out M3.out).mono ?_); rintro x w4 ⟨q4, rfl, ht, hb4⟩; have D4 := hid (bl_call D3.out hb4); have M9 := hid ht; have R9 := hid (obj_keep R0.out D4.out); have B9 := hid (B0.out.trans (D4.out.mono B0.out.size)); clear hb4 ht; obtain ⟨⟨z0, z1, z2, z3, z4, z5⟩, ⟨f0, f1, f2, f3, f4, f5⟩⟩ := six_free R9.out)
      | fail))
  go_wp2_with fail
  have hgr := set6_grown w4 (w.heap.size + 1 + 1 + 1) (.int .i64 r.kind) (.string r.name) (.string r.num) (.int .u64 r.bits) (.int .i64 r.var) (.slice q4 r.args.length 2)
  have hbw := set6_below B9.out (show w.heap.size ≤ w.heap.size + 1 + 1 + 1 by omega) (.int .i64 r.kind) (.string r.name) (.string r.num) (.int .u64 r.bits) (.int .i64 r.var) (.slice q4 r.args.length 2)
  have hm' := TmAt.past (b := w.heap.size + 1 + 1 + 1) (t := r) (p := q4) (show Blank w4 (w.heap.size + 1 + 1 + 1) from R9.out) (Past.grown hgr) GR.out M9.out
  exact bodyPost_ret (results_tm rfl _ _ (w.heap.size + 1 + 1 + 1) r q4 2 (by rfl) (set6 R9.out _ _ _ _ _ _)) rfl ⟨q4, 2, rfl, hm', hbw⟩
set_option maxRecDepth 100000 in
set_option maxHeartbeats 8000000 in
theorem body_nolist_b (t f e : Tm) (p pf pe : Option Addr) (c cf ce : Nat) (v : Value) (w : World) (hT : TmAt w t p) (hF : TmAt w f pf) (hE : TmAt w e pe) (hg : Good t) (hgf : Good f) (hge : Good e) (hX : Utf w) (hn : nodes t ≤ 4000) (hk : t.kind ≠ 1) (i1 : isOfT t nComma 2 = false) (i2 : isOfT t nArrow 2 = false) (i3 : isOfT t nSemi 2 = false) (i4 : isOfT t nBar 2 = false) (i5 : isOfT t nNot 1 = false) (i6 : isOfT t nBraces 0 = false) (i7 : isOfT t nBraces 1 = false) (i8 : isOfT t nCut 0 = false) (i9 : isOfT t nEmpty 0 = false) (i10 : isOfT t nDot 2 = true) (hi : isOfT (elems t).2 nEmpty 0 = false) :
    Calls Tryz.prog 68 #[t.val p c, f.val pf cf, e.val pe ce, v] w fun x w' => ∃ k, x = .panicked [{ v := .iface 105 (.pointer (some ⟨k, 0, none⟩)), recovered := false }] ∧ BallAt w' k (bType nList t) ∧ Below w.heap.size w w' := by
  obtain ⟨W0, hW0, y1, y2, y3, y4, y5, y6⟩ := boxes3 w (tobj t p c) (tobj f pf cf) (tobj e pe ce)
  have hs0 := hid y1
  have B0 := hid y2
  have e0 := hid y3
  have e1 := hid y4
  have e2 := hid y5
  have R0 := hid y6
  clear y1 y2 y3 y4 y5 y6
  have CI := hid (show ∀ W s n, Calls Tryz.prog 106 #[.agg #[.int .i64 t.kind, .string t.name, .string t.num, .int .u64 t.bits, .int .i64 t.var, .slice p t.args.length c], .string s, .int .i64 n] W fun x w' => x = .returned (.bool (isOfT t s n)) ∧ Below W.heap.size W w' from fun W s n => isOf_any t p c s n W (by have := hg.few; unfold maxLen; omega))
  obtain ⟨bb, hbb⟩ : ∃ bb, bb = bType nList t := ⟨_, rfl⟩
  have CE := hid (show ∀ W, Below W0.heap.size W0 W → Calls Tryz.prog 111 #[.agg #[.int .i64 t.kind, .string t.name, .string t.num, .int .u64 t.bits, .int .i64 t.var, .slice p t.args.length c], .agg #[.int .i64 e.kind, .string e.name, .string e.num, .int .u64 e.bits, .int .i64 e.var, .slice pe e.args.length ce]] W fun x w' => ∃ k, x = .panicked [{ v := .iface 105 (.pointer (some ⟨k, 0, none⟩)), recovered := false }] ∧ BallAt w' k bb ∧ Below W.heap.size W w' from fun W h => by
    have hb := B0.out.trans (h.mono B0.out.size)
    rw [hbb]
    exact ending_bad t e p pe c ce W (hT.keep hb) (hE.keep hb) hg (hX.keep hb) hn hi)
  rw [← hbb]
  clear hbb hi
  unfold nComma at i1
  unfold nArrow at i2
  unfold nSemi at i3
  unfold nBar at i4
  unfold nNot at i5
  unfold nBraces at i6
  unfold nBraces at i7
  unfold nCut at i8
  unfold nEmpty at i9
  unfold nDot at i10
  have HT := hid hT
  have HF := hid hF
  have HE := hid hE
  have SR := hid (fun (W : World) (h : Below W0.heap.size W0 W) => (show W.cell? ⟨w.heap.size, 0, none⟩ = some (.int .i64 t.kind) ∧ W.cell? ⟨w.heap.size, 1, none⟩ = some (.string t.name) ∧ W.cell? ⟨w.heap.size, 2, none⟩ = some (.string t.num) ∧ W.cell? ⟨w.heap.size, 3, none⟩ = some (.int .u64 t.bits) ∧ W.cell? ⟨w.heap.size, 4, none⟩ = some (.int .i64 t.var) ∧ W.cell? ⟨w.heap.size, 5, none⟩ = some (.slice p t.args.length c) ∧ W.cell? ⟨w.heap.size + 1, 0, none⟩ = some (.int .i64 f.kind) ∧ W.cell? ⟨w.heap.size + 1, 1, none⟩ = some (.string f.name) ∧ W.cell? ⟨w.heap.size + 1, 2, none⟩ = some (.string f.num) ∧ W.cell? ⟨w.heap.size + 1, 3, none⟩ = some (.int .u64 f.bits) ∧ W.cell? ⟨w.heap.size + 1, 4, none⟩ = some (.int .i64 f.var) ∧ W.cell? ⟨w.heap.size + 1, 5, none⟩ = some (.slice pf f.args.length cf) ∧ W.cell? ⟨w.heap.size + 1 + 1, 0, none⟩ = some (.int .i64 e.kind) ∧ W.cell? ⟨w.heap.size + 1 + 1, 1, none⟩ = some (.string e.name) ∧ W.cell? ⟨w.heap.size + 1 + 1, 2, none⟩ = some (.string e.num) ∧ W.cell? ⟨w.heap.size + 1 + 1, 3, none⟩ = some (.int .u64 e.bits) ∧ W.cell? ⟨w.heap.size + 1 + 1, 4, none⟩ = some (.int .i64 e.var) ∧ W.cell? ⟨w.heap.size + 1 + 1, 5, none⟩ = some (.slice pe e.args.length ce) from by
    have m0 := six_of (obj_keep e0.out h)
    have m1 := six_of (obj_keep e1.out h)
    have m2 := six_of (obj_keep e2.out h)
    exact ⟨m0.c0, m0.c1, m0.c2, m0.c3, m0.c4, m0.c5, m1.c0, m1.c1, m1.c2, m1.c3, m1.c4, m1.c5, m2.c0, m2.c1, m2.c2, m2.c3, m2.c4, m2.c5⟩))
  have BB := hid (Below.refl W0.heap.size W0)
  unfold tobj at hW0
  unfold Tm.val
  clear hT hF hE hg hgf hge hX hn
  go_enter Tryz.func68, Tryz.ntmps68
  go_upto_region 1 with fail
  rw [← hW0]
  clear hW0
  obtain ⟨a0, a1, a2, a3, a4, a5, b0, b1, b2, b3, b4, b5, d0, d1, d2, d3, d4, d5⟩ := SR.out _ BB.out
  go_upto_region 20 with (first
    | (go_at_call 106; (with_reducible refine (CI.out _ _ _).mono ?_); rintro x w2 ⟨rfl, hb2⟩; have BB := hid (BB.out.trans (hb2.mono BB.out.size)); clear hb2 a0 a1 a2 a3 a4 a5 b0 b1 b2 b3 b4 b5 d0 d1 d2 d3 d4 d5; obtain ⟨a0, a1, a2, a3, a4, a5, b0, b1, b2, b3, b4, b5, d0, d1, d2, d3, d4, d5⟩ := SR.out _ BB.out; first | rw [i1] | rw [i2] | rw [i3] | rw [i4] | rw [i5] | rw [i6] | rw [i7] | rw [i8] | rw [i9] | rw [i10])
    | fail)
  have sd := SR.out _ (bl_drew BB.out)
  clear a0 a1 a2 a3 a4 a5 b0 b1 b2 b3 b4 b5 d0 d1 d2 d3 d4 d5
  refine wp_region_held_drew (S := fun W => W.cell? ⟨w.heap.size, 0, none⟩ = some (.int .i64 t.kind) ∧ W.cell? ⟨w.heap.size, 1, none⟩ = some (.string t.name) ∧ W.cell? ⟨w.heap.size, 2, none⟩ = some (.string t.num) ∧ W.cell? ⟨w.heap.size, 3, none⟩ = some (.int .u64 t.bits) ∧ W.cell? ⟨w.heap.size, 4, none⟩ = some (.int .i64 t.var) ∧ W.cell? ⟨w.heap.size, 5, none⟩ = some (.slice p t.args.length c) ∧ W.cell? ⟨w.heap.size + 1, 0, none⟩ = some (.int .i64 f.kind) ∧ W.cell? ⟨w.heap.size + 1, 1, none⟩ = some (.string f.name) ∧ W.cell? ⟨w.heap.size + 1, 2, none⟩ = some (.string f.num) ∧ W.cell? ⟨w.heap.size + 1, 3, none⟩ = some (.int .u64 f.bits) ∧ W.cell? ⟨w.heap.size + 1, 4, none⟩ = some (.int .i64 f.var) ∧ W.cell? ⟨w.heap.size + 1, 5, none⟩ = some (.slice pf f.args.length cf) ∧ W.cell? ⟨w.heap.size + 1 + 1, 0, none⟩ = some (.int .i64 e.kind) ∧ W.cell? ⟨w.heap.size + 1 + 1, 1, none⟩ = some (.string e.name) ∧ W.cell? ⟨w.heap.size + 1 + 1, 2, none⟩ = some (.string e.num) ∧ W.cell? ⟨w.heap.size + 1 + 1, 3, none⟩ = some (.int .u64 e.bits) ∧ W.cell? ⟨w.heap.size + 1 + 1, 4, none⟩ = some (.int .i64 e.var) ∧ W.cell? ⟨w.heap.size + 1 + 1, 5, none⟩ = some (.slice pe e.args.length ce)) (by kernel_rfl) sd (fun hHeld => ?_)
  refine' wpAnyH_take (i := 0) (v := (.agg #[.int .i64 f.kind, .string f.name, .string f.num, .int .u64 f.bits, .int .i64 f.var, .slice pf f.args.length cf])) rfl (by decide +kernel) (by decide +kernel) (by decide +kernel) (fun _ _ _ h => h) (Or.inl ⟨by rfl, ?hyL0⟩) (by assumption) ?restL0
  case hyL0 => (intro w5 hSw; (try dsimp only at hSw); go_simp; try with_reducible rfl)
  case' restL0 => (try simp only [Act.put, List.setIfInBounds_toArray, List.set_cons_zero, List.set_cons_succ])
  refine' wpAnyH_take (i := 1) (v := (.agg #[.int .i64 t.kind, .string t.name, .string t.num, .int .u64 t.bits, .int .i64 t.var, .slice p t.args.length c])) rfl (by decide +kernel) (by decide +kernel) (by decide +kernel) (fun _ _ _ h => h) (Or.inl ⟨by rfl, ?hyL1⟩) (by assumption) ?restL1
  case hyL1 => (intro w5 hSw; (try dsimp only at hSw); go_simp; try with_reducible rfl)
  case' restL1 => (try simp only [Act.put, List.setIfInBounds_toArray, List.set_cons_zero, List.set_cons_succ])
  refine' wpAnyH_take (i := 2) (v := (.agg #[.int .i64 e.kind, .string e.name, .string e.num, .int .u64 e.bits, .int .i64 e.var, .slice pe e.args.length ce])) rfl (by decide +kernel) (by decide +kernel) (by decide +kernel) (fun _ _ _ h => h) (Or.inl ⟨by rfl, ?hyL2⟩) (by assumption) ?restL2
  case hyL2 => (intro w5 hSw; (try dsimp only at hSw); go_simp; try with_reducible rfl)
  case' restL2 => (try simp only [Act.put, List.setIfInBounds_toArray, List.set_cons_zero, List.set_cons_succ])
  refine wpAnyH_ready (rs := [3]) (by decide +kernel) (by simp) ?_
  refine AllReadyH.cons rfl (fun K hK => ?_) AllReadyH.nil
  go_simp
  (with_reducible refine (CE.out _ (bl_drew BB.out)).mono ?_)
  rintro x w3 ⟨k, rfl, ht, hb3⟩
  have D3 := hid (bl_call (bl_drew BB.out) hb3)
  clear hHeld sd
  go_simp
  exact ⟨rfl, k, rfl, ht, B0.out.trans (D3.out.mono B0.out.size)⟩
end Go.Proofs.YtiaddfedaikaiaaGreatDoor

namespace Go.Proofs.YtiaddfedaikaiaaGreatDoor
open Go.RowKit

/-- What a call of body comes to. -/
def BodyAt (bx : Nat) (t f e : Tm) (d : Nat) (n : Int) (w : World) (x : Ending) (w' : World) : Prop := match bodyN d t f e n with
  | .ok g m => ∃ q c', x = .returned (g.val q c') ∧ TmAt w' g q ∧ Box1 w' bx m ∧ But1 bx w w'
  | .ball b => ∃ k, x = .panicked [{ v := .iface 105 (.pointer (some ⟨k, 0, none⟩)), recovered := false }] ∧ BallAt w' k b ∧ But1 bx w w'
/-- What is known of calls of body on terms of not so many nodes. -/
def BodyIH (bx d : Nat) : Prop := ∀ (t f e : Tm) (n : Int) (p pf pe : Option Addr) (c cf ce : Nat) (w : World), nodes t ≤ d → TmAt w t p → TmAt w f pf → TmAt w e pe → Good t → Good f → Good e → (∀ W, But1 bx w W → Utf W) → nodes t ≤ 4000 → Box1 w bx n → 0 ≤ n → n + nodes t ≤ 9223372036854775806 →
  Calls Tryz.prog 68 #[t.val p c, f.val pf cf, e.val pe ce, .func (.func 104) #[] #[.pointer (some ⟨bx, 0, none⟩)]] w (BodyAt bx t f e d n w)
set_option maxRecDepth 100000 in
set_option maxHeartbeats 8000000 in
theorem body_not_ok (t f e : Tm) (pf pe : Option Addr) (b o : Nat) (c cf ce : Nat) (bx d : Nat) (n : Int) (w : World) (hT : TmAt w t (some ⟨b, o, none⟩)) (hF : TmAt w f pf) (hE : TmAt w e pe) (hg : Good t) (hgf : Good f) (hge : Good e) (hX : ∀ W, But1 bx w W → Utf W) (hbx : Box1 w bx n) (h0 : 0 ≤ n) (hmx : n + nodes t ≤ 9223372036854775806) (IH : BodyIH bx d) (hd : nodes t ≤ d + 1) (hn : nodes t ≤ 4000) (hk : t.kind ≠ 1) (i1 : isOfT t nComma 2 = false) (i2 : isOfT t nArrow 2 = false) (i3 : isOfT t nSemi 2 = false) (i4 : isOfT t nBar 2 = false) (i5 : isOfT t nNot 1 = true) (g : Tm) (n1 : Int) (hok : bodyN d (argT t 0) f (vrT n) (n + 1) = .ok g n1) :
    Calls Tryz.prog 68 #[t.val (some ⟨b, o, none⟩) c, f.val pf cf, e.val pe ce, .func (.func 104) #[] #[.pointer (some ⟨bx, 0, none⟩)]] w fun x w' => ∃ q c', x = .returned ((andT (cT t.name [g]) (eqT f e)).val q c') ∧ TmAt w' (andT (cT t.name [g]) (eqT f e)) q ∧ Box1 w' bx n1 ∧ But1 bx w w' := by
  obtain ⟨W0, hW0, y1, y2, y3, y4, y5, y6⟩ := boxes3 w (tobj t (some ⟨b, o, none⟩) c) (tobj f pf cf) (tobj e pe ce)
  have hs0 := hid y1
  have B0 := hid y2
  have e0 := hid y3
  have e1 := hid y4
  have e2 := hid y5
  have R0 := hid y6
  clear y1 y2 y3 y4 y5 y6
  have CI := hid (show ∀ W s n, Calls Tryz.prog 106 #[.agg #[.int .i64 t.kind, .string t.name, .string t.num, .int .u64 t.bits, .int .i64 t.var, .slice (some ⟨b, o, none⟩) t.args.length c], .string s, .int .i64 n] W fun x w' => x = .returned (.bool (isOfT t s n)) ∧ Below W.heap.size W w' from fun W s n => isOf_any t (some ⟨b, o, none⟩) c s n W (by have := hg.few; unfold maxLen; omega))
  have hlen := isOfT_len (k := 1) i5
  have h01 : (0 : Int) < (t.args.length : Int) := by omega
  have h02 : 0 < t.args.length := by omega
  have h03 : t.args ≠ [] := List.length_pos_iff.1 h02
  obtain ⟨b', o', hbo, q1, c1, hs1, ht1⟩ := hT.get 0 (by omega)
  obtain ⟨rfl, rfl⟩ : b = b' ∧ o = o' := by simpa using hbo
  have hga := (hg.arg _ (List.getElem_mem (by omega : 0 < t.args.length))).1
  have hnd : nodes t.args[0] < nodes t := (hg.arg _ (List.getElem_mem (by omega : 0 < t.args.length))).2
  rw [argT_get (by omega)] at hok
  generalize t.args[0] = a1 at *
  rw [Nat.zero_mul, Nat.add_zero] at hs1
  clear hbo hlen
  have hgg : Good g := body_good d a1 f (vrT n) (n + 1) g n1 (by omega) hga hgf (vrT_good h0 (by omega)) (by omega) (by omega) hok
  obtain ⟨m, hm⟩ : ∃ m, m = eqT f e := ⟨_, rfl⟩
  have GM := hid (show Good m by rw [hm]; exact eqT_good hgf hge)
  obtain ⟨y, hy⟩ : ∃ y, y = cT t.name [g] := ⟨_, rfl⟩
  have GY := hid (show Good y by
    rw [hy]
    refine Good.comp hg.nameOk.1 hg.nameOk.2 (by simp) (by simp) fun u hu => ?_
    simp only [List.mem_cons, List.not_mem_nil, or_false] at hu
    rw [hu]
    exact hgg)
  obtain ⟨r, hr⟩ : ∃ r, r = andT y m := ⟨_, rfl⟩
  have GR := hid (show Good r by rw [hr]; exact andT_good GY.out GM.out)
  have HX0 := hid hX
  have N1 := hid (But1.of_below hbx B0.out)
  have CF := hid (show ∀ W, Box1 W bx n → Calls Tryz.prog 104 #[.pointer (some ⟨bx, 0, none⟩)] W fun x w' => x = .returned (.agg #[.int .i64 1, .string ⟨#[]⟩, .string ⟨#[]⟩, .int .u64 0, .int .i64 n, .slice none 0 0]) ∧ Box1 w' bx (n + 1) ∧ But1 bx W w' from fun W h => fresh_any bx n W h h0 (by omega))
  have CB := hid (show ∀ W, But1 bx W0 W → Box1 W bx (n + 1) → Calls Tryz.prog 68 #[.agg #[.int .i64 a1.kind, .string a1.name, .string a1.num, .int .u64 a1.bits, .int .i64 a1.var, .slice q1 a1.args.length c1], .agg #[.int .i64 f.kind, .string f.name, .string f.num, .int .u64 f.bits, .int .i64 f.var, .slice pf f.args.length cf], .agg #[.int .i64 1, .string ⟨#[]⟩, .string ⟨#[]⟩, .int .u64 0, .int .i64 n, .slice none 0 0], .func (.func 104) #[] #[.pointer (some ⟨bx, 0, none⟩)]] W fun x w' => ∃ q c', x = .returned (.agg #[.int .i64 g.kind, .string g.name, .string g.num, .int .u64 g.bits, .int .i64 g.var, .slice q g.args.length c']) ∧ TmAt w' g q ∧ Box1 w' bx n1 ∧ But1 bx W w' from fun W h h2 => by
    have hb := N1.out.trans h
    have hc := IH a1 f (vrT n) (n + 1) q1 pf none c1 cf 0 W (by omega) (hb.tm ht1) (hb.tm hF) (leaf_mine W 1 ⟨#[]⟩ ⟨#[]⟩ n).at_ hga hgf (vrT_good h0 (by omega)) (fun W' h' => HX0.out W' (hb.trans h')) (by omega) h2 (by omega) (by omega)
    unfold BodyAt at hc
    rw [hok] at hc
    exact hc)
  have CO := hid (show ∀ W q, Calls Tryz.prog 109 #[.string t.name, .slice q 1 1] W fun x w' => x = .returned (.agg #[.int .i64 y.kind, .string y.name, .string y.num, .int .u64 y.bits, .int .i64 y.var, .slice q y.args.length 1]) ∧ Below W.heap.size W w' from fun W q => by rw [hy]; exact of_any t.name [g] q 1 W)
  have TY := hid (show ∀ W k qg cg, W.heap[k]? = some (.cells #[.int .i64 g.kind, .string g.name, .string g.num, .int .u64 g.bits, .int .i64 g.var, .slice qg g.args.length cg] 25 (0, 0)) → TmAt W g qg → TmAt W y (some ⟨k, 0, none⟩) from fun W k qg cg h h2 => by
    rw [hy]
    exact built t.name [(g, qg, cg)] h rfl (by simp) (fun x hx => by simp at hx; subst hx; exact h2))
  have CE := hid (show ∀ W, But1 bx W0 W → Calls Tryz.prog 113 #[.agg #[.int .i64 f.kind, .string f.name, .string f.num, .int .u64 f.bits, .int .i64 f.var, .slice pf f.args.length cf], .agg #[.int .i64 e.kind, .string e.name, .string e.num, .int .u64 e.bits, .int .i64 e.var, .slice pe e.args.length ce]] W fun x w' => ∃ q, x = .returned (.agg #[.int .i64 m.kind, .string m.name, .string m.num, .int .u64 m.bits, .int .i64 m.var, .slice q m.args.length 2]) ∧ TmAt w' m q ∧ Below W.heap.size W w' from fun W h => by
    have hb := N1.out.trans h
    rw [hm]
    exact equal_any f e pf pe cf ce W (hb.tm hF) (hb.tm hE))
  have CA := hid (show ∀ W q q', TmAt W y q' → TmAt W m q → Calls Tryz.prog 112 #[.agg #[.int .i64 y.kind, .string y.name, .string y.num, .int .u64 y.bits, .int .i64 y.var, .slice q' y.args.length 1], .agg #[.int .i64 m.kind, .string m.name, .string m.num, .int .u64 m.bits, .int .i64 m.var, .slice q m.args.length 2]] W fun x w' => ∃ q, x = .returned (.agg #[.int .i64 r.kind, .string r.name, .string r.num, .int .u64 r.bits, .int .i64 r.var, .slice q r.args.length 2]) ∧ TmAt w' r q ∧ Below W.heap.size W w' from fun W q q' h h2 => by
    rw [hr]
    exact and_any y m q' q 1 2 W h h2)
  rw [← hy, ← hm, ← hr]
  clear hr hm hy hgg
  unfold nComma at i1
  unfold nArrow at i2
  unfold nSemi at i3
  unfold nBar at i4
  unfold nNot at i5
  have HT := hid hT
  have HF := hid hF
  have HE := hid hE
  have N0 := hid (But1.of_below hbx B0.out)
  have hbl := hid (lt_of_block hbx)
  have SR := hid (fun (W : World) (h : But1 bx W0 W) => (show W.cell? ⟨w.heap.size, 0, none⟩ = some (.int .i64 t.kind) ∧ W.cell? ⟨w.heap.size, 1, none⟩ = some (.string t.name) ∧ W.cell? ⟨w.heap.size, 2, none⟩ = some (.string t.num) ∧ W.cell? ⟨w.heap.size, 3, none⟩ = some (.int .u64 t.bits) ∧ W.cell? ⟨w.heap.size, 4, none⟩ = some (.int .i64 t.var) ∧ W.cell? ⟨w.heap.size, 5, none⟩ = some (.slice (some ⟨b, o, none⟩) t.args.length c) ∧ W.cell? ⟨w.heap.size + 1, 0, none⟩ = some (.int .i64 f.kind) ∧ W.cell? ⟨w.heap.size + 1, 1, none⟩ = some (.string f.name) ∧ W.cell? ⟨w.heap.size + 1, 2, none⟩ = some (.string f.num) ∧ W.cell? ⟨w.heap.size + 1, 3, none⟩ = some (.int .u64 f.bits) ∧ W.cell? ⟨w.heap.size + 1, 4, none⟩ = some (.int .i64 f.var) ∧ W.cell? ⟨w.heap.size + 1, 5, none⟩ = some (.slice pf f.args.length cf) ∧ W.cell? ⟨w.heap.size + 1 + 1, 0, none⟩ = some (.int .i64 e.kind) ∧ W.cell? ⟨w.heap.size + 1 + 1, 1, none⟩ = some (.string e.name) ∧ W.cell? ⟨w.heap.size + 1 + 1, 2, none⟩ = some (.string e.num) ∧ W.cell? ⟨w.heap.size + 1 + 1, 3, none⟩ = some (.int .u64 e.bits) ∧ W.cell? ⟨w.heap.size + 1 + 1, 4, none⟩ = some (.int .i64 e.var) ∧ W.cell? ⟨w.heap.size + 1 + 1, 5, none⟩ = some (.slice pe e.args.length ce) ∧ W.cell? ⟨b, o, none⟩ = some (.int .i64 a1.kind) ∧ W.cell? ⟨b, o + 1, none⟩ = some (.string a1.name) ∧ W.cell? ⟨b, o + 2, none⟩ = some (.string a1.num) ∧ W.cell? ⟨b, o + 3, none⟩ = some (.int .u64 a1.bits) ∧ W.cell? ⟨b, o + 4, none⟩ = some (.int .i64 a1.var) ∧ W.cell? ⟨b, o + 5, none⟩ = some (.slice q1 a1.args.length c1) from by
    have hq := hbl.out
    have m0 := six_of (h.obj e0.out (by omega))
    have m1 := six_of (h.obj e1.out (by omega))
    have m2 := six_of (h.obj e2.out (by omega))
    have m := (N0.out.trans h).six hs1
    exact ⟨m0.c0, m0.c1, m0.c2, m0.c3, m0.c4, m0.c5, m1.c0, m1.c1, m1.c2, m1.c3, m1.c4, m1.c5, m2.c0, m2.c1, m2.c2, m2.c3, m2.c4, m2.c5, m.c0, m.c1, m.c2, m.c3, m.c4, m.c5⟩))
  have SS := hid (fun (W : World) (h : But1 bx W0 W) (u0 u1 u2 u3 u4 u5 : Value) => (show (fun W : World => W.cell? ⟨w.heap.size, 0, none⟩ = some (.int .i64 t.kind) ∧ W.cell? ⟨w.heap.size, 1, none⟩ = some (.string t.name) ∧ W.cell? ⟨w.heap.size, 2, none⟩ = some (.string t.num) ∧ W.cell? ⟨w.heap.size, 3, none⟩ = some (.int .u64 t.bits) ∧ W.cell? ⟨w.heap.size, 4, none⟩ = some (.int .i64 t.var) ∧ W.cell? ⟨w.heap.size, 5, none⟩ = some (.slice (some ⟨b, o, none⟩) t.args.length c) ∧ W.cell? ⟨w.heap.size + 1, 0, none⟩ = some (.int .i64 f.kind) ∧ W.cell? ⟨w.heap.size + 1, 1, none⟩ = some (.string f.name) ∧ W.cell? ⟨w.heap.size + 1, 2, none⟩ = some (.string f.num) ∧ W.cell? ⟨w.heap.size + 1, 3, none⟩ = some (.int .u64 f.bits) ∧ W.cell? ⟨w.heap.size + 1, 4, none⟩ = some (.int .i64 f.var) ∧ W.cell? ⟨w.heap.size + 1, 5, none⟩ = some (.slice pf f.args.length cf) ∧ W.cell? ⟨w.heap.size + 1 + 1, 0, none⟩ = some (.int .i64 e.kind) ∧ W.cell? ⟨w.heap.size + 1 + 1, 1, none⟩ = some (.string e.name) ∧ W.cell? ⟨w.heap.size + 1 + 1, 2, none⟩ = some (.string e.num) ∧ W.cell? ⟨w.heap.size + 1 + 1, 3, none⟩ = some (.int .u64 e.bits) ∧ W.cell? ⟨w.heap.size + 1 + 1, 4, none⟩ = some (.int .i64 e.var) ∧ W.cell? ⟨w.heap.size + 1 + 1, 5, none⟩ = some (.slice pe e.args.length ce) ∧ W.cell? ⟨b, o, none⟩ = some (.int .i64 a1.kind) ∧ W.cell? ⟨b, o + 1, none⟩ = some (.string a1.name) ∧ W.cell? ⟨b, o + 2, none⟩ = some (.string a1.num) ∧ W.cell? ⟨b, o + 3, none⟩ = some (.int .u64 a1.bits) ∧ W.cell? ⟨b, o + 4, none⟩ = some (.int .i64 a1.var) ∧ W.cell? ⟨b, o + 5, none⟩ = some (.slice q1 a1.args.length c1)) ((((((((W.setCell ⟨w.heap.size + 1 + 1 + 1, 0, none⟩ u0).setCell ⟨w.heap.size + 1 + 1 + 1, 1, none⟩ u1).setCell ⟨w.heap.size + 1 + 1 + 1, 2, none⟩ u2).setCell ⟨w.heap.size + 1 + 1 + 1, 3, none⟩ u3).setCell ⟨w.heap.size + 1 + 1 + 1, 4, none⟩ u4).setCell ⟨w.heap.size + 1 + 1 + 1, 5, none⟩ u5))) from by
    have hq := hbl.out
    have hg := set6_grown W (w.heap.size + 1 + 1 + 1) u0 u1 u2 u3 u4 u5
    have k0 := h.obj e0.out (by omega)
    have k1 := h.obj e1.out (by omega)
    have k2 := h.obj e2.out (by omega)
    have m0 := six_of ((hg.block _ (lt_of_block k0) (fun e => by have := Option.some.inj e; omega)).trans k0)
    have m1 := six_of ((hg.block _ (lt_of_block k1) (fun e => by have := Option.some.inj e; omega)).trans k1)
    have m2 := six_of ((hg.block _ (lt_of_block k2) (fun e => by have := Option.some.inj e; omega)).trans k2)
    have hlt : b < w.heap.size := by
      have := World.block_lt_of_cell? w _ hs1.c0
      simpa using this
    have m := ((N0.out.trans h).six hs1).same (hg.block b (Nat.lt_of_lt_of_le hlt (N0.out.trans h).size) (fun e => by have := Option.some.inj e; omega))
    exact ⟨m0.c0, m0.c1, m0.c2, m0.c3, m0.c4, m0.c5, m1.c0, m1.c1, m1.c2, m1.c3, m1.c4, m1.c5, m2.c0, m2.c1, m2.c2, m2.c3, m2.c4, m2.c5, m.c0, m.c1, m.c2, m.c3, m.c4, m.c5⟩))
  clear hs1
  have XB := hid (hbx.keep B0.out)
  have BB := hid (But1.refl XB.out)
  unfold tobj at hW0
  unfold Tm.val
  clear hT hF hE hg hgf hge hX hn hbx h0 hmx IH hd hga ht1 hnd hok
  go_enter Tryz.func68, Tryz.ntmps68
  go_upto_region 1 with fail
  rw [← hW0]
  clear hW0
  obtain ⟨a0, a1, a2, a3, a4, a5, b0, b1, b2, b3, b4, b5, d0, d1, d2, d3, d4, d5, g0, g1, g2, g3, g4, g5⟩ := SR.out _ BB.out
  go_upto_region 11 with (first
    | (go_at_call 106; (with_reducible refine (CI.out _ _ _).mono ?_); rintro x w2 ⟨rfl, hb2⟩; have BB := hid (BB.out.trans (But1.of_below XB.out hb2)); have XB := hid (XB.out.keep hb2); clear hb2 a0 a1 a2 a3 a4 a5 b0 b1 b2 b3 b4 b5 d0 d1 d2 d3 d4 d5 g0 g1 g2 g3 g4 g5; obtain ⟨a0, a1, a2, a3, a4, a5, b0, b1, b2, b3, b4, b5, d0, d1, d2, d3, d4, d5, g0, g1, g2, g3, g4, g5⟩ := SR.out _ BB.out; first | rw [i1] | rw [i2] | rw [i3] | rw [i4] | rw [i5] | rw [i6] | rw [i7] | rw [i8] | rw [i9] | rw [i10])
    | fail)
  have BD := hid (show But1 bx W0 (World.drew _) from BB.out.trans (But1.of_below XB.out (bl_drew (Below.refl _ _))))
  have XD := hid (show Box1 (World.drew _) bx n from XB.out)
  have sr := SR.out _ BB.out
  clear a0 a1 a2 a3 a4 a5 b0 b1 b2 b3 b4 b5 d0 d1 d2 d3 d4 d5 g0 g1 g2 g3 g4 g5
  go_region_held3 (fun W => W.cell? ⟨w.heap.size, 0, none⟩ = some (.int .i64 t.kind) ∧ W.cell? ⟨w.heap.size, 1, none⟩ = some (.string t.name) ∧ W.cell? ⟨w.heap.size, 2, none⟩ = some (.string t.num) ∧ W.cell? ⟨w.heap.size, 3, none⟩ = some (.int .u64 t.bits) ∧ W.cell? ⟨w.heap.size, 4, none⟩ = some (.int .i64 t.var) ∧ W.cell? ⟨w.heap.size, 5, none⟩ = some (.slice (some ⟨b, o, none⟩) t.args.length c) ∧ W.cell? ⟨w.heap.size + 1, 0, none⟩ = some (.int .i64 f.kind) ∧ W.cell? ⟨w.heap.size + 1, 1, none⟩ = some (.string f.name) ∧ W.cell? ⟨w.heap.size + 1, 2, none⟩ = some (.string f.num) ∧ W.cell? ⟨w.heap.size + 1, 3, none⟩ = some (.int .u64 f.bits) ∧ W.cell? ⟨w.heap.size + 1, 4, none⟩ = some (.int .i64 f.var) ∧ W.cell? ⟨w.heap.size + 1, 5, none⟩ = some (.slice pf f.args.length cf) ∧ W.cell? ⟨w.heap.size + 1 + 1, 0, none⟩ = some (.int .i64 e.kind) ∧ W.cell? ⟨w.heap.size + 1 + 1, 1, none⟩ = some (.string e.name) ∧ W.cell? ⟨w.heap.size + 1 + 1, 2, none⟩ = some (.string e.num) ∧ W.cell? ⟨w.heap.size + 1 + 1, 3, none⟩ = some (.int .u64 e.bits) ∧ W.cell? ⟨w.heap.size + 1 + 1, 4, none⟩ = some (.int .i64 e.var) ∧ W.cell? ⟨w.heap.size + 1 + 1, 5, none⟩ = some (.slice pe e.args.length ce) ∧ W.cell? ⟨b, o, none⟩ = some (.int .i64 a1.kind) ∧ W.cell? ⟨b, o + 1, none⟩ = some (.string a1.name) ∧ W.cell? ⟨b, o + 2, none⟩ = some (.string a1.num) ∧ W.cell? ⟨b, o + 3, none⟩ = some (.int .u64 a1.bits) ∧ W.cell? ⟨b, o + 4, none⟩ = some (.int .i64 a1.var) ∧ W.cell? ⟨b, o + 5, none⟩ = some (.slice q1 a1.args.length c1))
    (first
      | (with_reducible exact sr)
      | (with_reducible exact SR.out _ BD.out)
      | (with_reducible exact SR.out _ D3.out)
      | (with_reducible exact SS.out _ D3.out _ _ _ _ _ _)
      | (with_reducible exact SR.out _ D4.out)
      | (with_reducible exact SS.out _ D4.out _ _ _ _ _ _)
      | (with_reducible exact SR.out _ D5.out)
      | (with_reducible exact SS.out _ D5.out _ _ _ _ _ _)
      | (with_reducible exact SR.out _ D6.out)
      | (with_reducible exact SS.out _ D6.out _ _ _ _ _ _)
      | (with_reducible exact SR.out _ D7.out)
      | (with_reducible exact SS.out _ D7.out _ _ _ _ _ _)
      | (with_reducible exact SR.out _ D8.out)
      | (with_reducible exact SS.out _ D8.out _ _ _ _ _ _)
      | fail)
    ((first
      | (go_at_call 104; (with_reducible refine (CF.out _ XD.out).mono ?_); rintro x w3 ⟨rfl, hx3, hb3⟩; have D3 := hid (BD.out.trans hb3); have X3 := hid hx3; clear hx3 hb3)
      | (go_at_call 68; (with_reducible refine (CB.out _ D3.out X3.out).mono ?_); rintro x w4 ⟨qg, cg, rfl, hm4, hx4, hb4⟩; have D4 := hid (D3.out.trans hb4); have X4 := hid hx4; have M4 := hid hm4; clear hm4 hx4 hb4; obtain ⟨W5, hW5⟩ : ∃ W5, W5 = w4.alloc (.cells #[.int .i64 g.kind, .string g.name, .string g.num, .int .u64 g.bits, .int .i64 g.var, .slice qg g.args.length cg] 25) := ⟨_, rfl⟩; have A5 := hid (show Below w4.heap.size w4 W5 by rw [hW5]; exact (Below.refl _ _).alloc (Nat.le_refl _) _); have D5 := hid (show But1 bx W0 (w4.alloc (.cells #[.int .i64 g.kind, .string g.name, .string g.num, .int .u64 g.bits, .int .i64 g.var, .slice qg g.args.length cg] 25)) by rw [← hW5]; exact D4.out.trans (But1.of_below X4.out A5.out)); have X5 := hid (X4.out.keep A5.out); have Y5 := hid (TY.out W5 w4.heap.size qg cg (by rw [hW5]; exact heap_alloc_new w4 _) (M4.out.keep A5.out)))
      | (go_at_call 109; rw [← hW5]; (with_reducible refine (CO.out _ _).mono ?_); rintro x w6 ⟨rfl, hb6⟩; have D6 := hid ((show But1 bx W0 W5 by rw [hW5]; exact D5.out).trans (But1.of_below X5.out hb6)); have X6 := hid (X5.out.keep hb6); have Y6 := hid (Y5.out.keep hb6); clear hb6)
      | (go_at_call 113; (with_reducible refine (CE.out _ D6.out).mono ?_); rintro x w7 ⟨q7, rfl, ht, hb7⟩; have D7 := hid (D6.out.trans (But1.of_below X6.out hb7)); have X7 := hid (X6.out.keep hb7); have Y7 := hid (Y6.out.keep hb7); have M7 := hid ht; clear hb7 ht)
      | (go_at_call 112; (with_reducible refine (CA.out _ _ _ Y7.out M7.out).mono ?_); rintro x w8 ⟨q8, rfl, ht, hb8⟩; have D8 := hid (D7.out.trans (But1.of_below X7.out hb8)); have X9 := hid (X7.out.keep hb8); have M9 := hid ht; have D9 := hid D8.out; have R9 := hid (D8.out.obj R0.out (by have := hbl.out; omega)); clear hb8 ht; obtain ⟨⟨z0, z1, z2, z3, z4, z5⟩, ⟨f0, f1, f2, f3, f4, f5⟩⟩ := six_free R9.out)
      | fail))
  all_goals
    go_wp2_with fail
    have hq := hbl.out
    have hgr := set6_grown w8 (w.heap.size + 1 + 1 + 1) (.int .i64 r.kind) (.string r.name) (.string r.num) (.int .u64 r.bits) (.int .i64 r.var) (.slice q8 r.args.length 2)
    have hm' := TmAt.past (b := w.heap.size + 1 + 1 + 1) (t := r) (p := q8) (show Blank w8 (w.heap.size + 1 + 1 + 1) from R9.out) (Past.grown hgr) GR.out M9.out
    have hx' : Box1 _ bx n1 := (hgr.block bx (lt_of_block X9.out) (fun e => by have := Option.some.inj e; omega)).trans X9.out
    exact bodyPost_ret (results_tm rfl _ _ (w.heap.size + 1 + 1 + 1) r q8 2 (by rfl) (set6 R9.out _ _ _ _ _ _)) rfl ⟨q8, 2, rfl, hm', hx', ⟨(N0.out.trans D9.out).chg.grown1 hgr (fun x e => .inl (by have := Option.some.inj e; omega)), N0.out.here, ⟨_, hx'⟩⟩⟩
set_option maxRecDepth 100000 in
set_option maxHeartbeats 8000000 in
theorem body_not_ball (t f e : Tm) (pf pe : Option Addr) (b o : Nat) (c cf ce : Nat) (bx d : Nat) (n : Int) (w : World) (hT : TmAt w t (some ⟨b, o, none⟩)) (hF : TmAt w f pf) (hE : TmAt w e pe) (hg : Good t) (hgf : Good f) (hge : Good e) (hX : ∀ W, But1 bx w W → Utf W) (hbx : Box1 w bx n) (h0 : 0 ≤ n) (hmx : n + nodes t ≤ 9223372036854775806) (IH : BodyIH bx d) (hd : nodes t ≤ d + 1) (hn : nodes t ≤ 4000) (hk : t.kind ≠ 1) (i1 : isOfT t nComma 2 = false) (i2 : isOfT t nArrow 2 = false) (i3 : isOfT t nSemi 2 = false) (i4 : isOfT t nBar 2 = false) (i5 : isOfT t nNot 1 = true) (bb : Tm) (hok : bodyN d (argT t 0) f (vrT n) (n + 1) = .ball bb) :
    Calls Tryz.prog 68 #[t.val (some ⟨b, o, none⟩) c, f.val pf cf, e.val pe ce, .func (.func 104) #[] #[.pointer (some ⟨bx, 0, none⟩)]] w fun x w' => ∃ k, x = .panicked [{ v := .iface 105 (.pointer (some ⟨k, 0, none⟩)), recovered := false }] ∧ BallAt w' k bb ∧ But1 bx w w' := by
  obtain ⟨W0, hW0, y1, y2, y3, y4, y5, y6⟩ := boxes3 w (tobj t (some ⟨b, o, none⟩) c) (tobj f pf cf) (tobj e pe ce)
  have hs0 := hid y1
  have B0 := hid y2
  have e0 := hid y3
  have e1 := hid y4
  have e2 := hid y5
  have R0 := hid y6
  clear y1 y2 y3 y4 y5 y6
  have CI := hid (show ∀ W s n, Calls Tryz.prog 106 #[.agg #[.int .i64 t.kind, .string t.name, .string t.num, .int .u64 t.bits, .int .i64 t.var, .slice (some ⟨b, o, none⟩) t.args.length c], .string s, .int .i64 n] W fun x w' => x = .returned (.bool (isOfT t s n)) ∧ Below W.heap.size W w' from fun W s n => isOf_any t (some ⟨b, o, none⟩) c s n W (by have := hg.few; unfold maxLen; omega))
  have hlen := isOfT_len (k := 1) i5
  have h01 : (0 : Int) < (t.args.length : Int) := by omega
  have h02 : 0 < t.args.length := by omega
  have h03 : t.args ≠ [] := List.length_pos_iff.1 h02
  obtain ⟨b', o', hbo, q1, c1, hs1, ht1⟩ := hT.get 0 (by omega)
  obtain ⟨rfl, rfl⟩ : b = b' ∧ o = o' := by simpa using hbo
  have hga := (hg.arg _ (List.getElem_mem (by omega : 0 < t.args.length))).1
  have hnd : nodes t.args[0] < nodes t := (hg.arg _ (List.getElem_mem (by omega : 0 < t.args.length))).2
  rw [argT_get (by omega)] at hok
  generalize t.args[0] = a1 at *
  rw [Nat.zero_mul, Nat.add_zero] at hs1
  clear hbo hlen
  have HX0 := hid hX
  have N1 := hid (But1.of_below hbx B0.out)
  have CF := hid (show ∀ W, Box1 W bx n → Calls Tryz.prog 104 #[.pointer (some ⟨bx, 0, none⟩)] W fun x w' => x = .returned (.agg #[.int .i64 1, .string ⟨#[]⟩, .string ⟨#[]⟩, .int .u64 0, .int .i64 n, .slice none 0 0]) ∧ Box1 w' bx (n + 1) ∧ But1 bx W w' from fun W h => fresh_any bx n W h h0 (by omega))
  have CB := hid (show ∀ W, But1 bx W0 W → Box1 W bx (n + 1) → Calls Tryz.prog 68 #[.agg #[.int .i64 a1.kind, .string a1.name, .string a1.num, .int .u64 a1.bits, .int .i64 a1.var, .slice q1 a1.args.length c1], .agg #[.int .i64 f.kind, .string f.name, .string f.num, .int .u64 f.bits, .int .i64 f.var, .slice pf f.args.length cf], .agg #[.int .i64 1, .string ⟨#[]⟩, .string ⟨#[]⟩, .int .u64 0, .int .i64 n, .slice none 0 0], .func (.func 104) #[] #[.pointer (some ⟨bx, 0, none⟩)]] W fun x w' => ∃ k, x = .panicked [{ v := .iface 105 (.pointer (some ⟨k, 0, none⟩)), recovered := false }] ∧ BallAt w' k bb ∧ But1 bx W w' from fun W h h2 => by
    have hb := N1.out.trans h
    have hc := IH a1 f (vrT n) (n + 1) q1 pf none c1 cf 0 W (by omega) (hb.tm ht1) (hb.tm hF) (leaf_mine W 1 ⟨#[]⟩ ⟨#[]⟩ n).at_ hga hgf (vrT_good h0 (by omega)) (fun W' h' => HX0.out W' (hb.trans h')) (by omega) h2 (by omega) (by omega)
    unfold BodyAt at hc
    rw [hok] at hc
    exact hc)
  unfold nComma at i1
  unfold nArrow at i2
  unfold nSemi at i3
  unfold nBar at i4
  unfold nNot at i5
  have HT := hid hT
  have HF := hid hF
  have HE := hid hE
  have N0 := hid (But1.of_below hbx B0.out)
  have hbl := hid (lt_of_block hbx)
  have SR := hid (fun (W : World) (h : But1 bx W0 W) => (show W.cell? ⟨w.heap.size, 0, none⟩ = some (.int .i64 t.kind) ∧ W.cell? ⟨w.heap.size, 1, none⟩ = some (.string t.name) ∧ W.cell? ⟨w.heap.size, 2, none⟩ = some (.string t.num) ∧ W.cell? ⟨w.heap.size, 3, none⟩ = some (.int .u64 t.bits) ∧ W.cell? ⟨w.heap.size, 4, none⟩ = some (.int .i64 t.var) ∧ W.cell? ⟨w.heap.size, 5, none⟩ = some (.slice (some ⟨b, o, none⟩) t.args.length c) ∧ W.cell? ⟨w.heap.size + 1, 0, none⟩ = some (.int .i64 f.kind) ∧ W.cell? ⟨w.heap.size + 1, 1, none⟩ = some (.string f.name) ∧ W.cell? ⟨w.heap.size + 1, 2, none⟩ = some (.string f.num) ∧ W.cell? ⟨w.heap.size + 1, 3, none⟩ = some (.int .u64 f.bits) ∧ W.cell? ⟨w.heap.size + 1, 4, none⟩ = some (.int .i64 f.var) ∧ W.cell? ⟨w.heap.size + 1, 5, none⟩ = some (.slice pf f.args.length cf) ∧ W.cell? ⟨w.heap.size + 1 + 1, 0, none⟩ = some (.int .i64 e.kind) ∧ W.cell? ⟨w.heap.size + 1 + 1, 1, none⟩ = some (.string e.name) ∧ W.cell? ⟨w.heap.size + 1 + 1, 2, none⟩ = some (.string e.num) ∧ W.cell? ⟨w.heap.size + 1 + 1, 3, none⟩ = some (.int .u64 e.bits) ∧ W.cell? ⟨w.heap.size + 1 + 1, 4, none⟩ = some (.int .i64 e.var) ∧ W.cell? ⟨w.heap.size + 1 + 1, 5, none⟩ = some (.slice pe e.args.length ce) ∧ W.cell? ⟨b, o, none⟩ = some (.int .i64 a1.kind) ∧ W.cell? ⟨b, o + 1, none⟩ = some (.string a1.name) ∧ W.cell? ⟨b, o + 2, none⟩ = some (.string a1.num) ∧ W.cell? ⟨b, o + 3, none⟩ = some (.int .u64 a1.bits) ∧ W.cell? ⟨b, o + 4, none⟩ = some (.int .i64 a1.var) ∧ W.cell? ⟨b, o + 5, none⟩ = some (.slice q1 a1.args.length c1) from by
    have hq := hbl.out
    have m0 := six_of (h.obj e0.out (by omega))
    have m1 := six_of (h.obj e1.out (by omega))
    have m2 := six_of (h.obj e2.out (by omega))
    have m := (N0.out.trans h).six hs1
    exact ⟨m0.c0, m0.c1, m0.c2, m0.c3, m0.c4, m0.c5, m1.c0, m1.c1, m1.c2, m1.c3, m1.c4, m1.c5, m2.c0, m2.c1, m2.c2, m2.c3, m2.c4, m2.c5, m.c0, m.c1, m.c2, m.c3, m.c4, m.c5⟩))
  clear hs1
  have XB := hid (hbx.keep B0.out)
  have BB := hid (But1.refl XB.out)
  unfold tobj at hW0
  unfold Tm.val
  clear hT hF hE hg hgf hge hX hn hbx h0 hmx IH hd hga ht1 hnd hok
  go_enter Tryz.func68, Tryz.ntmps68
  go_upto_region 1 with fail
  rw [← hW0]
  clear hW0
  obtain ⟨a0, a1, a2, a3, a4, a5, b0, b1, b2, b3, b4, b5, d0, d1, d2, d3, d4, d5, g0, g1, g2, g3, g4, g5⟩ := SR.out _ BB.out
  go_upto_region 11 with (first
    | (go_at_call 106; (with_reducible refine (CI.out _ _ _).mono ?_); rintro x w2 ⟨rfl, hb2⟩; have BB := hid (BB.out.trans (But1.of_below XB.out hb2)); have XB := hid (XB.out.keep hb2); clear hb2 a0 a1 a2 a3 a4 a5 b0 b1 b2 b3 b4 b5 d0 d1 d2 d3 d4 d5 g0 g1 g2 g3 g4 g5; obtain ⟨a0, a1, a2, a3, a4, a5, b0, b1, b2, b3, b4, b5, d0, d1, d2, d3, d4, d5, g0, g1, g2, g3, g4, g5⟩ := SR.out _ BB.out; first | rw [i1] | rw [i2] | rw [i3] | rw [i4] | rw [i5] | rw [i6] | rw [i7] | rw [i8] | rw [i9] | rw [i10])
    | fail)
  have BD := hid (show But1 bx W0 (World.drew _) from BB.out.trans (But1.of_below XB.out (bl_drew (Below.refl _ _))))
  have XD := hid (show Box1 (World.drew _) bx n from XB.out)
  have sd := SR.out _ BD.out
  clear a0 a1 a2 a3 a4 a5 b0 b1 b2 b3 b4 b5 d0 d1 d2 d3 d4 d5 g0 g1 g2 g3 g4 g5
  refine wp_region_held_drew (S := fun W => W.cell? ⟨w.heap.size, 0, none⟩ = some (.int .i64 t.kind) ∧ W.cell? ⟨w.heap.size, 1, none⟩ = some (.string t.name) ∧ W.cell? ⟨w.heap.size, 2, none⟩ = some (.string t.num) ∧ W.cell? ⟨w.heap.size, 3, none⟩ = some (.int .u64 t.bits) ∧ W.cell? ⟨w.heap.size, 4, none⟩ = some (.int .i64 t.var) ∧ W.cell? ⟨w.heap.size, 5, none⟩ = some (.slice (some ⟨b, o, none⟩) t.args.length c) ∧ W.cell? ⟨w.heap.size + 1, 0, none⟩ = some (.int .i64 f.kind) ∧ W.cell? ⟨w.heap.size + 1, 1, none⟩ = some (.string f.name) ∧ W.cell? ⟨w.heap.size + 1, 2, none⟩ = some (.string f.num) ∧ W.cell? ⟨w.heap.size + 1, 3, none⟩ = some (.int .u64 f.bits) ∧ W.cell? ⟨w.heap.size + 1, 4, none⟩ = some (.int .i64 f.var) ∧ W.cell? ⟨w.heap.size + 1, 5, none⟩ = some (.slice pf f.args.length cf) ∧ W.cell? ⟨w.heap.size + 1 + 1, 0, none⟩ = some (.int .i64 e.kind) ∧ W.cell? ⟨w.heap.size + 1 + 1, 1, none⟩ = some (.string e.name) ∧ W.cell? ⟨w.heap.size + 1 + 1, 2, none⟩ = some (.string e.num) ∧ W.cell? ⟨w.heap.size + 1 + 1, 3, none⟩ = some (.int .u64 e.bits) ∧ W.cell? ⟨w.heap.size + 1 + 1, 4, none⟩ = some (.int .i64 e.var) ∧ W.cell? ⟨w.heap.size + 1 + 1, 5, none⟩ = some (.slice pe e.args.length ce) ∧ W.cell? ⟨b, o, none⟩ = some (.int .i64 a1.kind) ∧ W.cell? ⟨b, o + 1, none⟩ = some (.string a1.name) ∧ W.cell? ⟨b, o + 2, none⟩ = some (.string a1.num) ∧ W.cell? ⟨b, o + 3, none⟩ = some (.int .u64 a1.bits) ∧ W.cell? ⟨b, o + 4, none⟩ = some (.int .i64 a1.var) ∧ W.cell? ⟨b, o + 5, none⟩ = some (.slice q1 a1.args.length c1)) (by kernel_rfl) sd (fun hHeld => ?_)
  refine' wpAnyH_take (i := 0) (v := (.pointer (some ⟨w.heap.size, 1, none⟩))) rfl (by decide +kernel) (by decide +kernel) (by decide +kernel) (fun _ _ _ h => h) (Or.inl ⟨by rfl, ?_⟩) (by assumption) ?_
  · (intro w5 hSw; (try dsimp only at hSw); go_simp; try with_reducible rfl)
  (try simp only [Act.put, List.setIfInBounds_toArray, List.set_cons_zero, List.set_cons_succ])
  refine' wpAnyH_take (i := 1) (v := (.string t.name)) rfl (by decide +kernel) (by decide +kernel) (by decide +kernel) (fun _ _ _ h => h) (Or.inl ⟨by rfl, ?_⟩) (by assumption) ?_
  · (intro w5 hSw; (try dsimp only at hSw); go_simp; try with_reducible rfl)
  (try simp only [Act.put, List.setIfInBounds_toArray, List.set_cons_zero, List.set_cons_succ])
  refine' wpAnyH_take (i := 2) (v := (.pointer (some ⟨w.heap.size, 5, none⟩))) rfl (by decide +kernel) (by decide +kernel) (by decide +kernel) (fun _ _ _ h => h) (Or.inl ⟨by rfl, ?_⟩) (by assumption) ?_
  · (intro w5 hSw; (try dsimp only at hSw); go_simp; try with_reducible rfl)
  (try simp only [Act.put, List.setIfInBounds_toArray, List.set_cons_zero, List.set_cons_succ])
  refine' wpAnyH_take (i := 3) (v := (.slice (some ⟨b, o, none⟩) t.args.length c)) rfl (by decide +kernel) (by decide +kernel) (by decide +kernel) (fun _ _ _ h => h) (Or.inl ⟨by rfl, ?_⟩) (by assumption) ?_
  · (intro w5 hSw; (try dsimp only at hSw); go_simp; try with_reducible rfl)
  (try simp only [Act.put, List.setIfInBounds_toArray, List.set_cons_zero, List.set_cons_succ])
  refine' wpAnyH_take (i := 4) (v := (.pointer (some ⟨b, o, none⟩))) rfl (by decide +kernel) (by decide +kernel) (by decide +kernel) (fun _ _ _ h => h) (Or.inl ⟨by rfl, ?_⟩) (by assumption) ?_
  · (intro w5 hSw; (try dsimp only at hSw); go_simp; try with_reducible rfl)
  (try simp only [Act.put, List.setIfInBounds_toArray, List.set_cons_zero, List.set_cons_succ])
  refine' wpAnyH_take (i := 5) (v := (.agg #[.int .i64 a1.kind, .string a1.name, .string a1.num, .int .u64 a1.bits, .int .i64 a1.var, .slice q1 a1.args.length c1])) rfl (by decide +kernel) (by decide +kernel) (by decide +kernel) (fun _ _ _ h => h) (Or.inl ⟨by rfl, ?_⟩) (by assumption) ?_
  · (intro w5 hSw; (try dsimp only at hSw); go_simp; try with_reducible rfl)
  (try simp only [Act.put, List.setIfInBounds_toArray, List.set_cons_zero, List.set_cons_succ])
  refine' wpAnyH_take (i := 6) (v := (.agg #[.int .i64 f.kind, .string f.name, .string f.num, .int .u64 f.bits, .int .i64 f.var, .slice pf f.args.length cf])) rfl (by decide +kernel) (by decide +kernel) (by decide +kernel) (fun _ _ _ h => h) (Or.inl ⟨by rfl, ?_⟩) (by assumption) ?_
  · (intro w5 hSw; (try dsimp only at hSw); go_simp; try with_reducible rfl)
  (try simp only [Act.put, List.setIfInBounds_toArray, List.set_cons_zero, List.set_cons_succ])
  refine' wpAnyH_take (i := 7) (v := (.func (.func 104) #[] #[.pointer (some ⟨bx, 0, none⟩)])) rfl (by decide +kernel) (by decide +kernel) (by decide +kernel) (fun _ _ _ h => h) (Or.inl ⟨by rfl, ?_⟩) (by assumption) ?_
  · (intro w5 hSw; (try dsimp only at hSw); go_simp; try with_reducible rfl)
  (try simp only [Act.put, List.setIfInBounds_toArray, List.set_cons_zero, List.set_cons_succ])
  refine' wpAnyH_take (i := 9) (v := (.func (.func 104) #[] #[.pointer (some ⟨bx, 0, none⟩)])) rfl (by decide +kernel) (by decide +kernel) (by decide +kernel) (fun _ _ _ h => h) (Or.inl ⟨by rfl, ?_⟩) (by assumption) ?_
  · (intro w5 hSw; (try dsimp only at hSw); go_simp; try with_reducible rfl)
  (try simp only [Act.put, List.setIfInBounds_toArray, List.set_cons_zero, List.set_cons_succ])
  refine' wpAnyH_take (i := 13) (v := (.agg #[.int .i64 f.kind, .string f.name, .string f.num, .int .u64 f.bits, .int .i64 f.var, .slice pf f.args.length cf])) rfl (by decide +kernel) (by decide +kernel) (by decide +kernel) (fun _ _ _ h => h) (Or.inl ⟨by rfl, ?_⟩) (by assumption) ?_
  · (intro w5 hSw; (try dsimp only at hSw); go_simp; try with_reducible rfl)
  (try simp only [Act.put, List.setIfInBounds_toArray, List.set_cons_zero, List.set_cons_succ])
  refine' wpAnyH_take (i := 14) (v := (.agg #[.int .i64 e.kind, .string e.name, .string e.num, .int .u64 e.bits, .int .i64 e.var, .slice pe e.args.length ce])) rfl (by decide +kernel) (by decide +kernel) (by decide +kernel) (fun _ _ _ h => h) (Or.inl ⟨by rfl, ?_⟩) (by assumption) ?_
  · (intro w5 hSw; (try dsimp only at hSw); go_simp; try with_reducible rfl)
  (try simp only [Act.put, List.setIfInBounds_toArray, List.set_cons_zero, List.set_cons_succ])
  refine wpAnyH_ready (rs := [8]) (by decide +kernel) (by simp) ?_
  refine AllReadyH.cons rfl (fun K hK => ?_) AllReadyH.nil
  go_simp
  (with_reducible refine (CF.out _ XD.out).mono ?_)
  rintro x w3 ⟨rfl, hx3, hb3⟩
  have D3 := hid (BD.out.trans hb3)
  have X3 := hid hx3
  clear hx3 hb3
  refine hK.out _ _ (SR.out w3 D3.out) (fun hHeld => ?_)
  clear hK K
  (try simp only [Act.put, List.setIfInBounds_toArray, List.set_cons_zero, List.set_cons_succ])
  refine wpAnyH_ready (rs := [10]) (by decide +kernel) (by simp) ?_
  refine AllReadyH.cons rfl (fun K hK => ?_) AllReadyH.nil
  go_simp
  (with_reducible refine (CB.out _ D3.out X3.out).mono ?_)
  rintro x w4 ⟨k, rfl, ht, hb4⟩
  have D4 := hid (D3.out.trans hb4)
  clear hHeld sd hb4
  go_simp
  exact ⟨rfl, k, rfl, ht, N1.out.trans D4.out⟩
end Go.Proofs.YtiaddfedaikaiaaGreatDoor
