/- Walks: body where it asks no body of its own: a cut, braces, a list. No condition but those that each theorem names. Walks: body where it asks no body of its own: braces around a goal. No condition but those that each theorem names. -/
import Derived.Test.YtiaddfedaikaiaaGreatDoorD15m
namespace Go.Proofs.YtiaddfedaikaiaaGreatDoor
open Go.RowKit

set_option maxRecDepth 100000 in
set_option maxHeartbeats 8000000 in
theorem body_cut (t f e : Tm) (p pf pe : Option Addr) (c cf ce : Nat) (v : Value) (w : World) (hT : TmAt w t p) (hF : TmAt w f pf) (hE : TmAt w e pe) (hg : Good t) (hgf : Good f) (hge : Good e) (_hX : Utf w) (_hn : nodes t ≤ 4000) (hk : t.kind ≠ 1) (i1 : isOfT t nComma 2 = false) (i2 : isOfT t nArrow 2 = false) (i3 : isOfT t nSemi 2 = false) (i4 : isOfT t nBar 2 = false) (i5 : isOfT t nNot 1 = false) (i6 : isOfT t nBraces 0 = false) (i7 : isOfT t nBraces 1 = false) (i8 : isOfT t nCut 0 = true) :
    Calls Tryz.prog 68 #[t.val p c, f.val pf cf, e.val pe ce, v] w fun x w' => ∃ q c', x = .returned ((andT t (eqT f e)).val q c') ∧ TmAt w' (andT t (eqT f e)) q ∧ Below w.heap.size w w' := by
  obtain ⟨W0, hW0, y1, y2, y3, y4, y5, y6⟩ := boxes3 w (tobj t p c) (tobj f pf cf) (tobj e pe ce)
  have hs0 := hid y1
  have B0 := hid y2
  have e0 := hid y3
  have e1 := hid y4
  have e2 := hid y5
  have R0 := hid y6
  clear y1 y2 y3 y4 y5 y6
  have CI := hid (show ∀ W s n, Calls Tryz.prog 106 #[.agg #[.int .i64 t.kind, .string t.name, .string t.num, .int .u64 t.bits, .int .i64 t.var, .slice p t.args.length c], .string s, .int .i64 n] W fun x w' => x = .returned (.bool (isOfT t s n)) ∧ Below W.heap.size W w' from fun W s n => isOf_any t p c s n W (by have := hg.few; unfold maxLen; omega))
  obtain ⟨m, hm⟩ : ∃ m, m = eqT f e := ⟨_, rfl⟩
  have GM := hid (show Good m by rw [hm]; exact eqT_good hgf hge)
  have CE := hid (show ∀ W, Below W0.heap.size W0 W → Calls Tryz.prog 113 #[.agg #[.int .i64 f.kind, .string f.name, .string f.num, .int .u64 f.bits, .int .i64 f.var, .slice pf f.args.length cf], .agg #[.int .i64 e.kind, .string e.name, .string e.num, .int .u64 e.bits, .int .i64 e.var, .slice pe e.args.length ce]] W fun x w' => ∃ q, x = .returned (.agg #[.int .i64 m.kind, .string m.name, .string m.num, .int .u64 m.bits, .int .i64 m.var, .slice q m.args.length 2]) ∧ TmAt w' m q ∧ Below W.heap.size W w' from fun W h => by
    have hb := B0.out.trans (h.mono B0.out.size)
    rw [hm]
    exact equal_any f e pf pe cf ce W (hF.keep hb) (hE.keep hb))
  obtain ⟨r, hr⟩ : ∃ r, r = andT t m := ⟨_, rfl⟩
  have GR := hid (show Good r by rw [hr]; exact andT_good hg GM.out)
  have CA := hid (show ∀ W q, Below W0.heap.size W0 W → TmAt W m q → Calls Tryz.prog 112 #[.agg #[.int .i64 t.kind, .string t.name, .string t.num, .int .u64 t.bits, .int .i64 t.var, .slice p t.args.length c], .agg #[.int .i64 m.kind, .string m.name, .string m.num, .int .u64 m.bits, .int .i64 m.var, .slice q m.args.length 2]] W fun x w' => ∃ q, x = .returned (.agg #[.int .i64 r.kind, .string r.name, .string r.num, .int .u64 r.bits, .int .i64 r.var, .slice q r.args.length 2]) ∧ TmAt w' r q ∧ Below W.heap.size W w' from fun W q h h2 => by
    have hb := B0.out.trans (h.mono B0.out.size)
    rw [hr]
    exact and_any t m p q c 2 W (hT.keep hb) h2)
  rw [← hm, ← hr]
  clear hr hm
  have SS := hid (fun (W : World) (h : Below W0.heap.size W0 W) (u0 u1 u2 u3 u4 u5 : Value) => (show (fun W : World => W.cell? ⟨w.heap.size, 0, none⟩ = some (.int .i64 t.kind) ∧ W.cell? ⟨w.heap.size, 1, none⟩ = some (.string t.name) ∧ W.cell? ⟨w.heap.size, 2, none⟩ = some (.string t.num) ∧ W.cell? ⟨w.heap.size, 3, none⟩ = some (.int .u64 t.bits) ∧ W.cell? ⟨w.heap.size, 4, none⟩ = some (.int .i64 t.var) ∧ W.cell? ⟨w.heap.size, 5, none⟩ = some (.slice p t.args.length c) ∧ W.cell? ⟨w.heap.size + 1, 0, none⟩ = some (.int .i64 f.kind) ∧ W.cell? ⟨w.heap.size + 1, 1, none⟩ = some (.string f.name) ∧ W.cell? ⟨w.heap.size + 1, 2, none⟩ = some (.string f.num) ∧ W.cell? ⟨w.heap.size + 1, 3, none⟩ = some (.int .u64 f.bits) ∧ W.cell? ⟨w.heap.size + 1, 4, none⟩ = some (.int .i64 f.var) ∧ W.cell? ⟨w.heap.size + 1, 5, none⟩ = some (.slice pf f.args.length cf) ∧ W.cell? ⟨w.heap.size + 1 + 1, 0, none⟩ = some (.int .i64 e.kind) ∧ W.cell? ⟨w.heap.size + 1 + 1, 1, none⟩ = some (.string e.name) ∧ W.cell? ⟨w.heap.size + 1 + 1, 2, none⟩ = some (.string e.num) ∧ W.cell? ⟨w.heap.size + 1 + 1, 3, none⟩ = some (.int .u64 e.bits) ∧ W.cell? ⟨w.heap.size + 1 + 1, 4, none⟩ = some (.int .i64 e.var) ∧ W.cell? ⟨w.heap.size + 1 + 1, 5, none⟩ = some (.slice pe e.args.length ce)) ((((((((W.setCell ⟨w.heap.size + 1 + 1 + 1, 0, none⟩ u0).setCell ⟨w.heap.size + 1 + 1 + 1, 1, none⟩ u1).setCell ⟨w.heap.size + 1 + 1 + 1, 2, none⟩ u2).setCell ⟨w.heap.size + 1 + 1 + 1, 3, none⟩ u3).setCell ⟨w.heap.size + 1 + 1 + 1, 4, none⟩ u4).setCell ⟨w.heap.size + 1 + 1 + 1, 5, none⟩ u5))) from by
    have hg := set6_grown W (w.heap.size + 1 + 1 + 1) u0 u1 u2 u3 u4 u5
    have k0 := obj_keep e0.out h
    have k1 := obj_keep e1.out h
    have k2 := obj_keep e2.out h
    have m0 := six_of ((hg.block _ (lt_of_block k0) (fun e => by have := Option.some.inj e; omega)).trans k0)
    have m1 := six_of ((hg.block _ (lt_of_block k1) (fun e => by have := Option.some.inj e; omega)).trans k1)
    have m2 := six_of ((hg.block _ (lt_of_block k2) (fun e => by have := Option.some.inj e; omega)).trans k2)
    exact ⟨m0.c0, m0.c1, m0.c2, m0.c3, m0.c4, m0.c5, m1.c0, m1.c1, m1.c2, m1.c3, m1.c4, m1.c5, m2.c0, m2.c1, m2.c2, m2.c3, m2.c4, m2.c5⟩))
  unfold nComma at i1
  unfold nArrow at i2
  unfold nSemi at i3
  unfold nBar at i4
  unfold nNot at i5
  unfold nBraces at i6
  unfold nBraces at i7
  unfold nCut at i8
  have HT := hid hT
  have HF := hid hF
  have HE := hid hE
  have SR := hid (fun (W : World) (h : Below W0.heap.size W0 W) => (show W.cell? ⟨w.heap.size, 0, none⟩ = some (.int .i64 t.kind) ∧ W.cell? ⟨w.heap.size, 1, none⟩ = some (.string t.name) ∧ W.cell? ⟨w.heap.size, 2, none⟩ = some (.string t.num) ∧ W.cell? ⟨w.heap.size, 3, none⟩ = some (.int .u64 t.bits) ∧ W.cell? ⟨w.heap.size, 4, none⟩ = some (.int .i64 t.var) ∧ W.cell? ⟨w.heap.size, 5, none⟩ = some (.slice p t.args.length c) ∧ W.cell? ⟨w.heap.size + 1, 0, none⟩ = some (.int .i64 f.kind) ∧ W.cell? ⟨w.heap.size + 1, 1, none⟩ = some (.string f.name) ∧ W.cell? ⟨w.heap.size + 1, 2, none⟩ = some (.string f.num) ∧ W.cell? ⟨w.heap.size + 1, 3, none⟩ = some (.int .u64 f.bits) ∧ W.cell? ⟨w.heap.size + 1, 4, none⟩ = some (.int .i64 f.var) ∧ W.cell? ⟨w.heap.size + 1, 5, none⟩ = some (.slice pf f.args.length cf) ∧ W.cell? ⟨w.heap.size + 1 + 1, 0, none⟩ = some (.int .i64 e.kind) ∧ W.cell? ⟨w.heap.size + 1 + 1, 1, none⟩ = some (.string e.name) ∧ W.cell? ⟨w.heap.size + 1 + 1, 2, none⟩ = some (.string e.num) ∧ W.cell? ⟨w.heap.size + 1 + 1, 3, none⟩ = some (.int .u64 e.bits) ∧ W.cell? ⟨w.heap.size + 1 + 1, 4, none⟩ = some (.int .i64 e.var) ∧ W.cell? ⟨w.heap.size + 1 + 1, 5, none⟩ = some (.slice pe e.args.length ce) from by
    have m0 := six_of (obj_keep e0.out h)
    have m1 := six_of (obj_keep e1.out h)
    have m2 := six_of (obj_keep e2.out h)
    exact ⟨m0.c0, m0.c1, m0.c2, m0.c3, m0.c4, m0.c5, m1.c0, m1.c1, m1.c2, m1.c3, m1.c4, m1.c5, m2.c0, m2.c1, m2.c2, m2.c3, m2.c4, m2.c5⟩))
  have BB := hid (Below.refl W0.heap.size W0)
  unfold tobj at hW0
  unfold Tm.val
  clear hT hF hE hg hgf hge _hX _hn
  go_enter Tryz.func68, Tryz.ntmps68
  go_upto_region 1 with fail
  rw [← hW0]
  clear hW0
  obtain ⟨a0, a1, a2, a3, a4, a5, b0, b1, b2, b3, b4, b5, d0, d1, d2, d3, d4, d5⟩ := SR.out _ BB.out
  go_upto_region 17 with (first
    | (go_at_call 106; (with_reducible refine (CI.out _ _ _).mono ?_); rintro x w2 ⟨rfl, hb2⟩; have BB := hid (BB.out.trans (hb2.mono BB.out.size)); clear hb2 a0 a1 a2 a3 a4 a5 b0 b1 b2 b3 b4 b5 d0 d1 d2 d3 d4 d5; obtain ⟨a0, a1, a2, a3, a4, a5, b0, b1, b2, b3, b4, b5, d0, d1, d2, d3, d4, d5⟩ := SR.out _ BB.out; first | rw [i1] | rw [i2] | rw [i3] | rw [i4] | rw [i5] | rw [i6] | rw [i7] | rw [i8] | rw [i9] | rw [i10])
    | fail)
  have sr := SR.out _ BB.out
  clear a0 a1 a2 a3 a4 a5 b0 b1 b2 b3 b4 b5 d0 d1 d2 d3 d4 d5
  go_region_held3 (fun W => W.cell? ⟨w.heap.size, 0, none⟩ = some (.int .i64 t.kind) ∧ W.cell? ⟨w.heap.size, 1, none⟩ = some (.string t.name) ∧ W.cell? ⟨w.heap.size, 2, none⟩ = some (.string t.num) ∧ W.cell? ⟨w.heap.size, 3, none⟩ = some (.int .u64 t.bits) ∧ W.cell? ⟨w.heap.size, 4, none⟩ = some (.int .i64 t.var) ∧ W.cell? ⟨w.heap.size, 5, none⟩ = some (.slice p t.args.length c) ∧ W.cell? ⟨w.heap.size + 1, 0, none⟩ = some (.int .i64 f.kind) ∧ W.cell? ⟨w.heap.size + 1, 1, none⟩ = some (.string f.name) ∧ W.cell? ⟨w.heap.size + 1, 2, none⟩ = some (.string f.num) ∧ W.cell? ⟨w.heap.size + 1, 3, none⟩ = some (.int .u64 f.bits) ∧ W.cell? ⟨w.heap.size + 1, 4, none⟩ = some (.int .i64 f.var) ∧ W.cell? ⟨w.heap.size + 1, 5, none⟩ = some (.slice pf f.args.length cf) ∧ W.cell? ⟨w.heap.size + 1 + 1, 0, none⟩ = some (.int .i64 e.kind) ∧ W.cell? ⟨w.heap.size + 1 + 1, 1, none⟩ = some (.string e.name) ∧ W.cell? ⟨w.heap.size + 1 + 1, 2, none⟩ = some (.string e.num) ∧ W.cell? ⟨w.heap.size + 1 + 1, 3, none⟩ = some (.int .u64 e.bits) ∧ W.cell? ⟨w.heap.size + 1 + 1, 4, none⟩ = some (.int .i64 e.var) ∧ W.cell? ⟨w.heap.size + 1 + 1, 5, none⟩ = some (.slice pe e.args.length ce))
    (first
      | (with_reducible exact sr)
      | (with_reducible exact SR.out _ (bl_drew BB.out))
      | (with_reducible exact SR.out _ D3.out)
      | (with_reducible exact SR.out _ (bl_drew D3.out))
      | (with_reducible exact SS.out _ D3.out _ _ _ _ _ _)
      | (with_reducible exact SR.out _ D4.out)
      | (with_reducible exact SR.out _ (bl_drew D4.out))
      | (with_reducible exact SS.out _ D4.out _ _ _ _ _ _)
      | fail)
    ((first
      | (go_at_call 113; (with_reducible refine (CE.out _ (bl_drew BB.out)).mono ?_); rintro x w3 ⟨q3, rfl, ht, hb3⟩; have D3 := hid (bl_call (bl_drew BB.out) hb3); have M3 := hid ht; clear hb3 ht)
      | (go_at_call 112; (with_reducible refine (CA.out _ _ D3.out M3.out).mono ?_); rintro x w4 ⟨q4, rfl, ht, hb4⟩; have D4 := hid (bl_call D3.out hb4); have M9 := hid ht; have R9 := hid (obj_keep R0.out D4.out); have B9 := hid (B0.out.trans (D4.out.mono B0.out.size)); clear hb4 ht; obtain ⟨⟨z0, z1, z2, z3, z4, z5⟩, ⟨f0, f1, f2, f3, f4, f5⟩⟩ := six_free R9.out)
      | fail))
  go_wp2_with fail
  have hgr := set6_grown w4 (w.heap.size + 1 + 1 + 1) (.int .i64 r.kind) (.string r.name) (.string r.num) (.int .u64 r.bits) (.int .i64 r.var) (.slice q4 r.args.length 2)
  have hbw := set6_below B9.out (show w.heap.size ≤ w.heap.size + 1 + 1 + 1 by omega) (.int .i64 r.kind) (.string r.name) (.string r.num) (.int .u64 r.bits) (.int .i64 r.var) (.slice q4 r.args.length 2)
  have hm' := TmAt.past (b := w.heap.size + 1 + 1 + 1) (t := r) (p := q4) (show Blank w4 (w.heap.size + 1 + 1 + 1) from R9.out) (Past.grown hgr) GR.out M9.out
  exact bodyPost_ret (results_tm rfl _ _ (w.heap.size + 1 + 1 + 1) r q4 2 (by rfl) (set6 R9.out _ _ _ _ _ _)) rfl ⟨q4, 2, rfl, hm', hbw⟩
set_option maxRecDepth 100000 in
set_option maxHeartbeats 8000000 in
theorem body_none (t f e : Tm) (p pf pe : Option Addr) (c cf ce : Nat) (v : Value) (w : World) (hT : TmAt w t p) (hF : TmAt w f pf) (hE : TmAt w e pe) (hg : Good t) (hgf : Good f) (hge : Good e) (_hX : Utf w) (_hn : nodes t ≤ 4000) (hk : t.kind ≠ 1) (i1 : isOfT t nComma 2 = false) (i2 : isOfT t nArrow 2 = false) (i3 : isOfT t nSemi 2 = false) (i4 : isOfT t nBar 2 = false) (i5 : isOfT t nNot 1 = false) (i6 : isOfT t nBraces 0 = true) :
    Calls Tryz.prog 68 #[t.val p c, f.val pf cf, e.val pe ce, v] w fun x w' => ∃ q c', x = .returned ((andT (aT nTrue) (eqT f e)).val q c') ∧ TmAt w' (andT (aT nTrue) (eqT f e)) q ∧ Below w.heap.size w w' := by
  obtain ⟨W0, hW0, y1, y2, y3, y4, y5, y6⟩ := boxes3 w (tobj t p c) (tobj f pf cf) (tobj e pe ce)
  have hs0 := hid y1
  have B0 := hid y2
  have e0 := hid y3
  have e1 := hid y4
  have e2 := hid y5
  have R0 := hid y6
  clear y1 y2 y3 y4 y5 y6
  have CI := hid (show ∀ W s n, Calls Tryz.prog 106 #[.agg #[.int .i64 t.kind, .string t.name, .string t.num, .int .u64 t.bits, .int .i64 t.var, .slice p t.args.length c], .string s, .int .i64 n] W fun x w' => x = .returned (.bool (isOfT t s n)) ∧ Below W.heap.size W w' from fun W s n => isOf_any t p c s n W (by have := hg.few; unfold maxLen; omega))
  obtain ⟨m, hm⟩ : ∃ m, m = eqT f e := ⟨_, rfl⟩
  have GM := hid (show Good m by rw [hm]; exact eqT_good hgf hge)
  have CE := hid (show ∀ W, Below W0.heap.size W0 W → Calls Tryz.prog 113 #[.agg #[.int .i64 f.kind, .string f.name, .string f.num, .int .u64 f.bits, .int .i64 f.var, .slice pf f.args.length cf], .agg #[.int .i64 e.kind, .string e.name, .string e.num, .int .u64 e.bits, .int .i64 e.var, .slice pe e.args.length ce]] W fun x w' => ∃ q, x = .returned (.agg #[.int .i64 m.kind, .string m.name, .string m.num, .int .u64 m.bits, .int .i64 m.var, .slice q m.args.length 2]) ∧ TmAt w' m q ∧ Below W.heap.size W w' from fun W h => by
    have hb := B0.out.trans (h.mono B0.out.size)
    rw [hm]
    exact equal_any f e pf pe cf ce W (hF.keep hb) (hE.keep hb))
  obtain ⟨r, hr⟩ : ∃ r, r = andT (aT nTrue) m := ⟨_, rfl⟩
  have GR := hid (show Good r by rw [hr]; exact andT_good (Good.atom (by decide) (by decide +kernel)) GM.out)
  have CT := hid (show ∀ W, Calls Tryz.prog 120 #[.string ⟨#[116, 114, 117, 101]⟩] W fun x w' => x = .returned (.agg #[.int .i64 2, .string ⟨#[116, 114, 117, 101]⟩, .string ⟨#[]⟩, .int .u64 0, .int .i64 0, .slice none 0 0]) ∧ Below W.heap.size W w' from fun W => atom_any nTrue W)
  have CA := hid (show ∀ W q, Below W0.heap.size W0 W → TmAt W m q → Calls Tryz.prog 112 #[.agg #[.int .i64 2, .string ⟨#[116, 114, 117, 101]⟩, .string ⟨#[]⟩, .int .u64 0, .int .i64 0, .slice none 0 0], .agg #[.int .i64 m.kind, .string m.name, .string m.num, .int .u64 m.bits, .int .i64 m.var, .slice q m.args.length 2]] W fun x w' => ∃ q, x = .returned (.agg #[.int .i64 r.kind, .string r.name, .string r.num, .int .u64 r.bits, .int .i64 r.var, .slice q r.args.length 2]) ∧ TmAt w' r q ∧ Below W.heap.size W w' from fun W q h h2 => by
    rw [hr]
    exact and_any (aT nTrue) m none q 0 2 W (leaf_mine W 2 nTrue ⟨#[]⟩ 0).at_ h2)
  rw [← hm, ← hr]
  clear hr hm
  have SS := hid (fun (W : World) (h : Below W0.heap.size W0 W) (u0 u1 u2 u3 u4 u5 : Value) => (show (fun W : World => W.cell? ⟨w.heap.size, 0, none⟩ = some (.int .i64 t.kind) ∧ W.cell? ⟨w.heap.size, 1, none⟩ = some (.string t.name) ∧ W.cell? ⟨w.heap.size, 2, none⟩ = some (.string t.num) ∧ W.cell? ⟨w.heap.size, 3, none⟩ = some (.int .u64 t.bits) ∧ W.cell? ⟨w.heap.size, 4, none⟩ = some (.int .i64 t.var) ∧ W.cell? ⟨w.heap.size, 5, none⟩ = some (.slice p t.args.length c) ∧ W.cell? ⟨w.heap.size + 1, 0, none⟩ = some (.int .i64 f.kind) ∧ W.cell? ⟨w.heap.size + 1, 1, none⟩ = some (.string f.name) ∧ W.cell? ⟨w.heap.size + 1, 2, none⟩ = some (.string f.num) ∧ W.cell? ⟨w.heap.size + 1, 3, none⟩ = some (.int .u64 f.bits) ∧ W.cell? ⟨w.heap.size + 1, 4, none⟩ = some (.int .i64 f.var) ∧ W.cell? ⟨w.heap.size + 1, 5, none⟩ = some (.slice pf f.args.length cf) ∧ W.cell? ⟨w.heap.size + 1 + 1, 0, none⟩ = some (.int .i64 e.kind) ∧ W.cell? ⟨w.heap.size + 1 + 1, 1, none⟩ = some (.string e.name) ∧ W.cell? ⟨w.heap.size + 1 + 1, 2, none⟩ = some (.string e.num) ∧ W.cell? ⟨w.heap.size + 1 + 1, 3, none⟩ = some (.int .u64 e.bits) ∧ W.cell? ⟨w.heap.size + 1 + 1, 4, none⟩ = some (.int .i64 e.var) ∧ W.cell? ⟨w.heap.size + 1 + 1, 5, none⟩ = some (.slice pe e.args.length ce)) ((((((((W.setCell ⟨w.heap.size + 1 + 1 + 1, 0, none⟩ u0).setCell ⟨w.heap.size + 1 + 1 + 1, 1, none⟩ u1).setCell ⟨w.heap.size + 1 + 1 + 1, 2, none⟩ u2).setCell ⟨w.heap.size + 1 + 1 + 1, 3, none⟩ u3).setCell ⟨w.heap.size + 1 + 1 + 1, 4, none⟩ u4).setCell ⟨w.heap.size + 1 + 1 + 1, 5, none⟩ u5))) from by
    have hg := set6_grown W (w.heap.size + 1 + 1 + 1) u0 u1 u2 u3 u4 u5
    have k0 := obj_keep e0.out h
    have k1 := obj_keep e1.out h
    have k2 := obj_keep e2.out h
    have m0 := six_of ((hg.block _ (lt_of_block k0) (fun e => by have := Option.some.inj e; omega)).trans k0)
    have m1 := six_of ((hg.block _ (lt_of_block k1) (fun e => by have := Option.some.inj e; omega)).trans k1)
    have m2 := six_of ((hg.block _ (lt_of_block k2) (fun e => by have := Option.some.inj e; omega)).trans k2)
    exact ⟨m0.c0, m0.c1, m0.c2, m0.c3, m0.c4, m0.c5, m1.c0, m1.c1, m1.c2, m1.c3, m1.c4, m1.c5, m2.c0, m2.c1, m2.c2, m2.c3, m2.c4, m2.c5⟩))
  unfold nComma at i1
  unfold nArrow at i2
  unfold nSemi at i3
  unfold nBar at i4
  unfold nNot at i5
  unfold nBraces at i6
  have HT := hid hT
  have HF := hid hF
  have HE := hid hE
  have SR := hid (fun (W : World) (h : Below W0.heap.size W0 W) => (show W.cell? ⟨w.heap.size, 0, none⟩ = some (.int .i64 t.kind) ∧ W.cell? ⟨w.heap.size, 1, none⟩ = some (.string t.name) ∧ W.cell? ⟨w.heap.size, 2, none⟩ = some (.string t.num) ∧ W.cell? ⟨w.heap.size, 3, none⟩ = some (.int .u64 t.bits) ∧ W.cell? ⟨w.heap.size, 4, none⟩ = some (.int .i64 t.var) ∧ W.cell? ⟨w.heap.size, 5, none⟩ = some (.slice p t.args.length c) ∧ W.cell? ⟨w.heap.size + 1, 0, none⟩ = some (.int .i64 f.kind) ∧ W.cell? ⟨w.heap.size + 1, 1, none⟩ = some (.string f.name) ∧ W.cell? ⟨w.heap.size + 1, 2, none⟩ = some (.string f.num) ∧ W.cell? ⟨w.heap.size + 1, 3, none⟩ = some (.int .u64 f.bits) ∧ W.cell? ⟨w.heap.size + 1, 4, none⟩ = some (.int .i64 f.var) ∧ W.cell? ⟨w.heap.size + 1, 5, none⟩ = some (.slice pf f.args.length cf) ∧ W.cell? ⟨w.heap.size + 1 + 1, 0, none⟩ = some (.int .i64 e.kind) ∧ W.cell? ⟨w.heap.size + 1 + 1, 1, none⟩ = some (.string e.name) ∧ W.cell? ⟨w.heap.size + 1 + 1, 2, none⟩ = some (.string e.num) ∧ W.cell? ⟨w.heap.size + 1 + 1, 3, none⟩ = some (.int .u64 e.bits) ∧ W.cell? ⟨w.heap.size + 1 + 1, 4, none⟩ = some (.int .i64 e.var) ∧ W.cell? ⟨w.heap.size + 1 + 1, 5, none⟩ = some (.slice pe e.args.length ce) from by
    have m0 := six_of (obj_keep e0.out h)
    have m1 := six_of (obj_keep e1.out h)
    have m2 := six_of (obj_keep e2.out h)
    exact ⟨m0.c0, m0.c1, m0.c2, m0.c3, m0.c4, m0.c5, m1.c0, m1.c1, m1.c2, m1.c3, m1.c4, m1.c5, m2.c0, m2.c1, m2.c2, m2.c3, m2.c4, m2.c5⟩))
  have BB := hid (Below.refl W0.heap.size W0)
  unfold tobj at hW0
  unfold Tm.val
  clear hT hF hE hg hgf hge _hX _hn
  go_enter Tryz.func68, Tryz.ntmps68
  go_upto_region 1 with fail
  rw [← hW0]
  clear hW0
  obtain ⟨a0, a1, a2, a3, a4, a5, b0, b1, b2, b3, b4, b5, d0, d1, d2, d3, d4, d5⟩ := SR.out _ BB.out
  go_upto_region 13 with (first
    | (go_at_call 106; (with_reducible refine (CI.out _ _ _).mono ?_); rintro x w2 ⟨rfl, hb2⟩; have BB := hid (BB.out.trans (hb2.mono BB.out.size)); clear hb2 a0 a1 a2 a3 a4 a5 b0 b1 b2 b3 b4 b5 d0 d1 d2 d3 d4 d5; obtain ⟨a0, a1, a2, a3, a4, a5, b0, b1, b2, b3, b4, b5, d0, d1, d2, d3, d4, d5⟩ := SR.out _ BB.out; first | rw [i1] | rw [i2] | rw [i3] | rw [i4] | rw [i5] | rw [i6] | rw [i7] | rw [i8] | rw [i9] | rw [i10])
    | fail)
  have sr := SR.out _ BB.out
  clear a0 a1 a2 a3 a4 a5 b0 b1 b2 b3 b4 b5 d0 d1 d2 d3 d4 d5
  go_region_held3 (fun W => W.cell? ⟨w.heap.size, 0, none⟩ = some (.int .i64 t.kind) ∧ W.cell? ⟨w.heap.size, 1, none⟩ = some (.string t.name) ∧ W.cell? ⟨w.heap.size, 2, none⟩ = some (.string t.num) ∧ W.cell? ⟨w.heap.size, 3, none⟩ = some (.int .u64 t.bits) ∧ W.cell? ⟨w.heap.size, 4, none⟩ = some (.int .i64 t.var) ∧ W.cell? ⟨w.heap.size, 5, none⟩ = some (.slice p t.args.length c) ∧ W.cell? ⟨w.heap.size + 1, 0, none⟩ = some (.int .i64 f.kind) ∧ W.cell? ⟨w.heap.size + 1, 1, none⟩ = some (.string f.name) ∧ W.cell? ⟨w.heap.size + 1, 2, none⟩ = some (.string f.num) ∧ W.cell? ⟨w.heap.size + 1, 3, none⟩ = some (.int .u64 f.bits) ∧ W.cell? ⟨w.heap.size + 1, 4, none⟩ = some (.int .i64 f.var) ∧ W.cell? ⟨w.heap.size + 1, 5, none⟩ = some (.slice pf f.args.length cf) ∧ W.cell? ⟨w.heap.size + 1 + 1, 0, none⟩ = some (.int .i64 e.kind) ∧ W.cell? ⟨w.heap.size + 1 + 1, 1, none⟩ = some (.string e.name) ∧ W.cell? ⟨w.heap.size + 1 + 1, 2, none⟩ = some (.string e.num) ∧ W.cell? ⟨w.heap.size + 1 + 1, 3, none⟩ = some (.int .u64 e.bits) ∧ W.cell? ⟨w.heap.size + 1 + 1, 4, none⟩ = some (.int .i64 e.var) ∧ W.cell? ⟨w.heap.size + 1 + 1, 5, none⟩ = some (.slice pe e.args.length ce))
    (first
      | (with_reducible exact sr)
      | (with_reducible exact SR.out _ (bl_drew BB.out))
      | (with_reducible exact SR.out _ D2.out)
      | (with_reducible exact SR.out _ (bl_drew D2.out))
      | (with_reducible exact SS.out _ D2.out _ _ _ _ _ _)
      | (with_reducible exact SR.out _ D3.out)
      | (with_reducible exact SR.out _ (bl_drew D3.out))
      | (with_reducible exact SS.out _ D3.out _ _ _ _ _ _)
      | (with_reducible exact SR.out _ D4.out)
      | (with_reducible exact SR.out _ (bl_drew D4.out))
      | (with_reducible exact SS.out _ D4.out _ _ _ _ _ _)
      | fail)
    ((first
      | (go_at_call 120; (with_reducible refine (CT.out _).mono ?_); rintro x w5 ⟨rfl, hb5⟩; have D2 := hid (bl_call (bl_drew BB.out) hb5); clear hb5)
      | (go_at_call 113; (with_reducible refine (CE.out _ D2.out).mono ?_); rintro x w3 ⟨q3, rfl, ht, hb3⟩; have D3 := hid (bl_call D2.out hb3); have M3 := hid ht; clear hb3 ht)
      | (go_at_call 112; (with_reducible refine (CA.out _ _ D3.out M3.out).mono ?_); rintro x w4 ⟨q4, rfl, ht, hb4⟩; have D4 := hid (bl_call D3.out hb4); have M9 := hid ht; have R9 := hid (obj_keep R0.out D4.out); have B9 := hid (B0.out.trans (D4.out.mono B0.out.size)); clear hb4 ht; obtain ⟨⟨z0, z1, z2, z3, z4, z5⟩, ⟨f0, f1, f2, f3, f4, f5⟩⟩ := six_free R9.out)
      | fail))
  go_wp2_with fail
  have hgr := set6_grown w4 (w.heap.size + 1 + 1 + 1) (.int .i64 r.kind) (.string r.name) (.string r.num) (.int .u64 r.bits) (.int .i64 r.var) (.slice q4 r.args.length 2)
  have hbw := set6_below B9.out (show w.heap.size ≤ w.heap.size + 1 + 1 + 1 by omega) (.int .i64 r.kind) (.string r.name) (.string r.num) (.int .u64 r.bits) (.int .i64 r.var) (.slice q4 r.args.length 2)
  have hm' := TmAt.past (b := w.heap.size + 1 + 1 + 1) (t := r) (p := q4) (show Blank w4 (w.heap.size + 1 + 1 + 1) from R9.out) (Past.grown hgr) GR.out M9.out
  exact bodyPost_ret (results_tm rfl _ _ (w.heap.size + 1 + 1 + 1) r q4 2 (by rfl) (set6 R9.out _ _ _ _ _ _)) rfl ⟨q4, 2, rfl, hm', hbw⟩
end Go.Proofs.YtiaddfedaikaiaaGreatDoor

namespace Go.Proofs.YtiaddfedaikaiaaGreatDoor
open Go.RowKit

set_option maxRecDepth 100000 in
set_option maxHeartbeats 8000000 in
theorem body_goal (t f e : Tm) (pf pe : Option Addr) (b o : Nat) (c cf ce : Nat) (v : Value) (w : World) (hT : TmAt w t (some ⟨b, o, none⟩)) (hF : TmAt w f pf) (hE : TmAt w e pe) (hg : Good t) (hgf : Good f) (hge : Good e) (_hX : Utf w) (_hn : nodes t ≤ 4000) (hk : t.kind ≠ 1) (i1 : isOfT t nComma 2 = false) (i2 : isOfT t nArrow 2 = false) (i3 : isOfT t nSemi 2 = false) (i4 : isOfT t nBar 2 = false) (i5 : isOfT t nNot 1 = false) (i6 : isOfT t nBraces 0 = false) (i7 : isOfT t nBraces 1 = true) :
    Calls Tryz.prog 68 #[t.val (some ⟨b, o, none⟩) c, f.val pf cf, e.val pe ce, v] w fun x w' => ∃ q c', x = .returned ((andT (argT t 0) (eqT f e)).val q c') ∧ TmAt w' (andT (argT t 0) (eqT f e)) q ∧ Below w.heap.size w w' := by
  obtain ⟨W0, hW0, y1, y2, y3, y4, y5, y6⟩ := boxes3 w (tobj t (some ⟨b, o, none⟩) c) (tobj f pf cf) (tobj e pe ce)
  have hs0 := hid y1
  have B0 := hid y2
  have e0 := hid y3
  have e1 := hid y4
  have e2 := hid y5
  have R0 := hid y6
  clear y1 y2 y3 y4 y5 y6
  have CI := hid (show ∀ W s n, Calls Tryz.prog 106 #[.agg #[.int .i64 t.kind, .string t.name, .string t.num, .int .u64 t.bits, .int .i64 t.var, .slice (some ⟨b, o, none⟩) t.args.length c], .string s, .int .i64 n] W fun x w' => x = .returned (.bool (isOfT t s n)) ∧ Below W.heap.size W w' from fun W s n => isOf_any t (some ⟨b, o, none⟩) c s n W (by have := hg.few; unfold maxLen; omega))
  have hlen := isOfT_len (k := 1) i7
  have h01 : (0 : Int) < (t.args.length : Int) := by omega
  have h02 : 0 < t.args.length := by omega
  have h03 : t.args ≠ [] := List.length_pos_iff.1 h02
  obtain ⟨b', o', hbo, q1, c1, hs1, ht1⟩ := hT.get 0 (by omega)
  obtain ⟨rfl, rfl⟩ : b = b' ∧ o = o' := by simpa using hbo
  have hga := (hg.arg _ (List.getElem_mem (by omega : 0 < t.args.length))).1
  rw [argT_get (by omega)]
  generalize t.args[0] = a1 at *
  rw [Nat.zero_mul, Nat.add_zero] at hs1
  clear hbo hlen
  obtain ⟨m, hm⟩ : ∃ m, m = eqT f e := ⟨_, rfl⟩
  have GM := hid (show Good m by rw [hm]; exact eqT_good hgf hge)
  have CE := hid (show ∀ W, Below W0.heap.size W0 W → Calls Tryz.prog 113 #[.agg #[.int .i64 f.kind, .string f.name, .string f.num, .int .u64 f.bits, .int .i64 f.var, .slice pf f.args.length cf], .agg #[.int .i64 e.kind, .string e.name, .string e.num, .int .u64 e.bits, .int .i64 e.var, .slice pe e.args.length ce]] W fun x w' => ∃ q, x = .returned (.agg #[.int .i64 m.kind, .string m.name, .string m.num, .int .u64 m.bits, .int .i64 m.var, .slice q m.args.length 2]) ∧ TmAt w' m q ∧ Below W.heap.size W w' from fun W h => by
    have hb := B0.out.trans (h.mono B0.out.size)
    rw [hm]
    exact equal_any f e pf pe cf ce W (hF.keep hb) (hE.keep hb))
  obtain ⟨r, hr⟩ : ∃ r, r = andT a1 m := ⟨_, rfl⟩
  have GR := hid (show Good r by rw [hr]; exact andT_good hga GM.out)
  have CA := hid (show ∀ W q, Below W0.heap.size W0 W → TmAt W m q → Calls Tryz.prog 112 #[.agg #[.int .i64 a1.kind, .string a1.name, .string a1.num, .int .u64 a1.bits, .int .i64 a1.var, .slice q1 a1.args.length c1], .agg #[.int .i64 m.kind, .string m.name, .string m.num, .int .u64 m.bits, .int .i64 m.var, .slice q m.args.length 2]] W fun x w' => ∃ q, x = .returned (.agg #[.int .i64 r.kind, .string r.name, .string r.num, .int .u64 r.bits, .int .i64 r.var, .slice q r.args.length 2]) ∧ TmAt w' r q ∧ Below W.heap.size W w' from fun W q h h2 => by
    have hb := B0.out.trans (h.mono B0.out.size)
    rw [hr]
    exact and_any a1 m q1 q c1 2 W (ht1.keep hb) h2)
  rw [← hm, ← hr]
  clear hr hm
  have SS := hid (fun (W : World) (h : Below W0.heap.size W0 W) (u0 u1 u2 u3 u4 u5 : Value) => (show (fun W : World => W.cell? ⟨w.heap.size, 0, none⟩ = some (.int .i64 t.kind) ∧ W.cell? ⟨w.heap.size, 1, none⟩ = some (.string t.name) ∧ W.cell? ⟨w.heap.size, 2, none⟩ = some (.string t.num) ∧ W.cell? ⟨w.heap.size, 3, none⟩ = some (.int .u64 t.bits) ∧ W.cell? ⟨w.heap.size, 4, none⟩ = some (.int .i64 t.var) ∧ W.cell? ⟨w.heap.size, 5, none⟩ = some (.slice (some ⟨b, o, none⟩) t.args.length c) ∧ W.cell? ⟨w.heap.size + 1, 0, none⟩ = some (.int .i64 f.kind) ∧ W.cell? ⟨w.heap.size + 1, 1, none⟩ = some (.string f.name) ∧ W.cell? ⟨w.heap.size + 1, 2, none⟩ = some (.string f.num) ∧ W.cell? ⟨w.heap.size + 1, 3, none⟩ = some (.int .u64 f.bits) ∧ W.cell? ⟨w.heap.size + 1, 4, none⟩ = some (.int .i64 f.var) ∧ W.cell? ⟨w.heap.size + 1, 5, none⟩ = some (.slice pf f.args.length cf) ∧ W.cell? ⟨w.heap.size + 1 + 1, 0, none⟩ = some (.int .i64 e.kind) ∧ W.cell? ⟨w.heap.size + 1 + 1, 1, none⟩ = some (.string e.name) ∧ W.cell? ⟨w.heap.size + 1 + 1, 2, none⟩ = some (.string e.num) ∧ W.cell? ⟨w.heap.size + 1 + 1, 3, none⟩ = some (.int .u64 e.bits) ∧ W.cell? ⟨w.heap.size + 1 + 1, 4, none⟩ = some (.int .i64 e.var) ∧ W.cell? ⟨w.heap.size + 1 + 1, 5, none⟩ = some (.slice pe e.args.length ce)) ((((((((W.setCell ⟨w.heap.size + 1 + 1 + 1, 0, none⟩ u0).setCell ⟨w.heap.size + 1 + 1 + 1, 1, none⟩ u1).setCell ⟨w.heap.size + 1 + 1 + 1, 2, none⟩ u2).setCell ⟨w.heap.size + 1 + 1 + 1, 3, none⟩ u3).setCell ⟨w.heap.size + 1 + 1 + 1, 4, none⟩ u4).setCell ⟨w.heap.size + 1 + 1 + 1, 5, none⟩ u5))) from by
    have hg := set6_grown W (w.heap.size + 1 + 1 + 1) u0 u1 u2 u3 u4 u5
    have k0 := obj_keep e0.out h
    have k1 := obj_keep e1.out h
    have k2 := obj_keep e2.out h
    have m0 := six_of ((hg.block _ (lt_of_block k0) (fun e => by have := Option.some.inj e; omega)).trans k0)
    have m1 := six_of ((hg.block _ (lt_of_block k1) (fun e => by have := Option.some.inj e; omega)).trans k1)
    have m2 := six_of ((hg.block _ (lt_of_block k2) (fun e => by have := Option.some.inj e; omega)).trans k2)
    exact ⟨m0.c0, m0.c1, m0.c2, m0.c3, m0.c4, m0.c5, m1.c0, m1.c1, m1.c2, m1.c3, m1.c4, m1.c5, m2.c0, m2.c1, m2.c2, m2.c3, m2.c4, m2.c5⟩))
  unfold nComma at i1
  unfold nArrow at i2
  unfold nSemi at i3
  unfold nBar at i4
  unfold nNot at i5
  unfold nBraces at i6
  unfold nBraces at i7
  have HT := hid hT
  have HF := hid hF
  have HE := hid hE
  have SR := hid (fun (W : World) (h : Below W0.heap.size W0 W) => (show W.cell? ⟨w.heap.size, 0, none⟩ = some (.int .i64 t.kind) ∧ W.cell? ⟨w.heap.size, 1, none⟩ = some (.string t.name) ∧ W.cell? ⟨w.heap.size, 2, none⟩ = some (.string t.num) ∧ W.cell? ⟨w.heap.size, 3, none⟩ = some (.int .u64 t.bits) ∧ W.cell? ⟨w.heap.size, 4, none⟩ = some (.int .i64 t.var) ∧ W.cell? ⟨w.heap.size, 5, none⟩ = some (.slice (some ⟨b, o, none⟩) t.args.length c) ∧ W.cell? ⟨w.heap.size + 1, 0, none⟩ = some (.int .i64 f.kind) ∧ W.cell? ⟨w.heap.size + 1, 1, none⟩ = some (.string f.name) ∧ W.cell? ⟨w.heap.size + 1, 2, none⟩ = some (.string f.num) ∧ W.cell? ⟨w.heap.size + 1, 3, none⟩ = some (.int .u64 f.bits) ∧ W.cell? ⟨w.heap.size + 1, 4, none⟩ = some (.int .i64 f.var) ∧ W.cell? ⟨w.heap.size + 1, 5, none⟩ = some (.slice pf f.args.length cf) ∧ W.cell? ⟨w.heap.size + 1 + 1, 0, none⟩ = some (.int .i64 e.kind) ∧ W.cell? ⟨w.heap.size + 1 + 1, 1, none⟩ = some (.string e.name) ∧ W.cell? ⟨w.heap.size + 1 + 1, 2, none⟩ = some (.string e.num) ∧ W.cell? ⟨w.heap.size + 1 + 1, 3, none⟩ = some (.int .u64 e.bits) ∧ W.cell? ⟨w.heap.size + 1 + 1, 4, none⟩ = some (.int .i64 e.var) ∧ W.cell? ⟨w.heap.size + 1 + 1, 5, none⟩ = some (.slice pe e.args.length ce) from by
    have m0 := six_of (obj_keep e0.out h)
    have m1 := six_of (obj_keep e1.out h)
    have m2 := six_of (obj_keep e2.out h)
    exact ⟨m0.c0, m0.c1, m0.c2, m0.c3, m0.c4, m0.c5, m1.c0, m1.c1, m1.c2, m1.c3, m1.c4, m1.c5, m2.c0, m2.c1, m2.c2, m2.c3, m2.c4, m2.c5⟩))
  have SR2 := hid (fun (W : World) (h : Below W0.heap.size W0 W) => (show W.cell? ⟨w.heap.size, 0, none⟩ = some (.int .i64 t.kind) ∧ W.cell? ⟨w.heap.size, 1, none⟩ = some (.string t.name) ∧ W.cell? ⟨w.heap.size, 2, none⟩ = some (.string t.num) ∧ W.cell? ⟨w.heap.size, 3, none⟩ = some (.int .u64 t.bits) ∧ W.cell? ⟨w.heap.size, 4, none⟩ = some (.int .i64 t.var) ∧ W.cell? ⟨w.heap.size, 5, none⟩ = some (.slice (some ⟨b, o, none⟩) t.args.length c) ∧ W.cell? ⟨w.heap.size + 1, 0, none⟩ = some (.int .i64 f.kind) ∧ W.cell? ⟨w.heap.size + 1, 1, none⟩ = some (.string f.name) ∧ W.cell? ⟨w.heap.size + 1, 2, none⟩ = some (.string f.num) ∧ W.cell? ⟨w.heap.size + 1, 3, none⟩ = some (.int .u64 f.bits) ∧ W.cell? ⟨w.heap.size + 1, 4, none⟩ = some (.int .i64 f.var) ∧ W.cell? ⟨w.heap.size + 1, 5, none⟩ = some (.slice pf f.args.length cf) ∧ W.cell? ⟨w.heap.size + 1 + 1, 0, none⟩ = some (.int .i64 e.kind) ∧ W.cell? ⟨w.heap.size + 1 + 1, 1, none⟩ = some (.string e.name) ∧ W.cell? ⟨w.heap.size + 1 + 1, 2, none⟩ = some (.string e.num) ∧ W.cell? ⟨w.heap.size + 1 + 1, 3, none⟩ = some (.int .u64 e.bits) ∧ W.cell? ⟨w.heap.size + 1 + 1, 4, none⟩ = some (.int .i64 e.var) ∧ W.cell? ⟨w.heap.size + 1 + 1, 5, none⟩ = some (.slice pe e.args.length ce) ∧ W.cell? ⟨b, o, none⟩ = some (.int .i64 a1.kind) ∧ W.cell? ⟨b, o + 1, none⟩ = some (.string a1.name) ∧ W.cell? ⟨b, o + 2, none⟩ = some (.string a1.num) ∧ W.cell? ⟨b, o + 3, none⟩ = some (.int .u64 a1.bits) ∧ W.cell? ⟨b, o + 4, none⟩ = some (.int .i64 a1.var) ∧ W.cell? ⟨b, o + 5, none⟩ = some (.slice q1 a1.args.length c1) from by
    obtain ⟨a0, a1, a2, a3, a4, a5, b0, b1, b2, b3, b4, b5, d0, d1, d2, d3, d4, d5⟩ := SR.out W h
    have m := hs1.keep (B0.out.trans (h.mono B0.out.size))
    exact ⟨a0, a1, a2, a3, a4, a5, b0, b1, b2, b3, b4, b5, d0, d1, d2, d3, d4, d5, m.c0, m.c1, m.c2, m.c3, m.c4, m.c5⟩))
  have SS2 := hid (fun (W : World) (h : Below W0.heap.size W0 W) (u0 u1 u2 u3 u4 u5 : Value) => (show (fun W : World => W.cell? ⟨w.heap.size, 0, none⟩ = some (.int .i64 t.kind) ∧ W.cell? ⟨w.heap.size, 1, none⟩ = some (.string t.name) ∧ W.cell? ⟨w.heap.size, 2, none⟩ = some (.string t.num) ∧ W.cell? ⟨w.heap.size, 3, none⟩ = some (.int .u64 t.bits) ∧ W.cell? ⟨w.heap.size, 4, none⟩ = some (.int .i64 t.var) ∧ W.cell? ⟨w.heap.size, 5, none⟩ = some (.slice (some ⟨b, o, none⟩) t.args.length c) ∧ W.cell? ⟨w.heap.size + 1, 0, none⟩ = some (.int .i64 f.kind) ∧ W.cell? ⟨w.heap.size + 1, 1, none⟩ = some (.string f.name) ∧ W.cell? ⟨w.heap.size + 1, 2, none⟩ = some (.string f.num) ∧ W.cell? ⟨w.heap.size + 1, 3, none⟩ = some (.int .u64 f.bits) ∧ W.cell? ⟨w.heap.size + 1, 4, none⟩ = some (.int .i64 f.var) ∧ W.cell? ⟨w.heap.size + 1, 5, none⟩ = some (.slice pf f.args.length cf) ∧ W.cell? ⟨w.heap.size + 1 + 1, 0, none⟩ = some (.int .i64 e.kind) ∧ W.cell? ⟨w.heap.size + 1 + 1, 1, none⟩ = some (.string e.name) ∧ W.cell? ⟨w.heap.size + 1 + 1, 2, none⟩ = some (.string e.num) ∧ W.cell? ⟨w.heap.size + 1 + 1, 3, none⟩ = some (.int .u64 e.bits) ∧ W.cell? ⟨w.heap.size + 1 + 1, 4, none⟩ = some (.int .i64 e.var) ∧ W.cell? ⟨w.heap.size + 1 + 1, 5, none⟩ = some (.slice pe e.args.length ce) ∧ W.cell? ⟨b, o, none⟩ = some (.int .i64 a1.kind) ∧ W.cell? ⟨b, o + 1, none⟩ = some (.string a1.name) ∧ W.cell? ⟨b, o + 2, none⟩ = some (.string a1.num) ∧ W.cell? ⟨b, o + 3, none⟩ = some (.int .u64 a1.bits) ∧ W.cell? ⟨b, o + 4, none⟩ = some (.int .i64 a1.var) ∧ W.cell? ⟨b, o + 5, none⟩ = some (.slice q1 a1.args.length c1)) ((((((((W.setCell ⟨w.heap.size + 1 + 1 + 1, 0, none⟩ u0).setCell ⟨w.heap.size + 1 + 1 + 1, 1, none⟩ u1).setCell ⟨w.heap.size + 1 + 1 + 1, 2, none⟩ u2).setCell ⟨w.heap.size + 1 + 1 + 1, 3, none⟩ u3).setCell ⟨w.heap.size + 1 + 1 + 1, 4, none⟩ u4).setCell ⟨w.heap.size + 1 + 1 + 1, 5, none⟩ u5))) from by
    obtain ⟨a0, a1, a2, a3, a4, a5, b0, b1, b2, b3, b4, b5, d0, d1, d2, d3, d4, d5⟩ := SS.out W h u0 u1 u2 u3 u4 u5
    have m := hs1.keep (set6_below (B0.out.trans (h.mono B0.out.size)) (show w.heap.size ≤ w.heap.size + 1 + 1 + 1 by omega) u0 u1 u2 u3 u4 u5)
    exact ⟨a0, a1, a2, a3, a4, a5, b0, b1, b2, b3, b4, b5, d0, d1, d2, d3, d4, d5, m.c0, m.c1, m.c2, m.c3, m.c4, m.c5⟩))
  clear hs1
  have BB := hid (Below.refl W0.heap.size W0)
  unfold tobj at hW0
  unfold Tm.val
  clear hT hF hE hg hgf hge _hX _hn hga ht1
  go_enter Tryz.func68, Tryz.ntmps68
  go_upto_region 1 with fail
  rw [← hW0]
  clear hW0
  obtain ⟨a0, a1, a2, a3, a4, a5, b0, b1, b2, b3, b4, b5, d0, d1, d2, d3, d4, d5⟩ := SR.out _ BB.out
  go_upto_region 15 with (first
    | (go_at_call 106; (with_reducible refine (CI.out _ _ _).mono ?_); rintro x w2 ⟨rfl, hb2⟩; have BB := hid (BB.out.trans (hb2.mono BB.out.size)); clear hb2 a0 a1 a2 a3 a4 a5 b0 b1 b2 b3 b4 b5 d0 d1 d2 d3 d4 d5; obtain ⟨a0, a1, a2, a3, a4, a5, b0, b1, b2, b3, b4, b5, d0, d1, d2, d3, d4, d5⟩ := SR.out _ BB.out; first | rw [i1] | rw [i2] | rw [i3] | rw [i4] | rw [i5] | rw [i6] | rw [i7] | rw [i8] | rw [i9] | rw [i10])
    | fail)
  have sr := SR2.out _ BB.out
  clear a0 a1 a2 a3 a4 a5 b0 b1 b2 b3 b4 b5 d0 d1 d2 d3 d4 d5
  go_region_held3 (fun W => W.cell? ⟨w.heap.size, 0, none⟩ = some (.int .i64 t.kind) ∧ W.cell? ⟨w.heap.size, 1, none⟩ = some (.string t.name) ∧ W.cell? ⟨w.heap.size, 2, none⟩ = some (.string t.num) ∧ W.cell? ⟨w.heap.size, 3, none⟩ = some (.int .u64 t.bits) ∧ W.cell? ⟨w.heap.size, 4, none⟩ = some (.int .i64 t.var) ∧ W.cell? ⟨w.heap.size, 5, none⟩ = some (.slice (some ⟨b, o, none⟩) t.args.length c) ∧ W.cell? ⟨w.heap.size + 1, 0, none⟩ = some (.int .i64 f.kind) ∧ W.cell? ⟨w.heap.size + 1, 1, none⟩ = some (.string f.name) ∧ W.cell? ⟨w.heap.size + 1, 2, none⟩ = some (.string f.num) ∧ W.cell? ⟨w.heap.size + 1, 3, none⟩ = some (.int .u64 f.bits) ∧ W.cell? ⟨w.heap.size + 1, 4, none⟩ = some (.int .i64 f.var) ∧ W.cell? ⟨w.heap.size + 1, 5, none⟩ = some (.slice pf f.args.length cf) ∧ W.cell? ⟨w.heap.size + 1 + 1, 0, none⟩ = some (.int .i64 e.kind) ∧ W.cell? ⟨w.heap.size + 1 + 1, 1, none⟩ = some (.string e.name) ∧ W.cell? ⟨w.heap.size + 1 + 1, 2, none⟩ = some (.string e.num) ∧ W.cell? ⟨w.heap.size + 1 + 1, 3, none⟩ = some (.int .u64 e.bits) ∧ W.cell? ⟨w.heap.size + 1 + 1, 4, none⟩ = some (.int .i64 e.var) ∧ W.cell? ⟨w.heap.size + 1 + 1, 5, none⟩ = some (.slice pe e.args.length ce) ∧ W.cell? ⟨b, o, none⟩ = some (.int .i64 a1.kind) ∧ W.cell? ⟨b, o + 1, none⟩ = some (.string a1.name) ∧ W.cell? ⟨b, o + 2, none⟩ = some (.string a1.num) ∧ W.cell? ⟨b, o + 3, none⟩ = some (.int .u64 a1.bits) ∧ W.cell? ⟨b, o + 4, none⟩ = some (.int .i64 a1.var) ∧ W.cell? ⟨b, o + 5, none⟩ = some (.slice q1 a1.args.length c1))
    (first
      | (with_reducible exact sr)
      | (with_reducible exact SR2.out _ (bl_drew BB.out))
      | (with_reducible exact SR2.out _ D3.out)
      | (with_reducible exact SR2.out _ (bl_drew D3.out))
      | (with_reducible exact SS2.out _ D3.out _ _ _ _ _ _)
      | (with_reducible exact SR2.out _ D4.out)
      | (with_reducible exact SR2.out _ (bl_drew D4.out))
      | (with_reducible exact SS2.out _ D4.out _ _ _ _ _ _)
      | fail)
    ((first
      | (go_at_call 113; (with_reducible refine (CE.out _ (bl_drew BB.out)).mono ?_); rintro x w3 ⟨q3, rfl, ht, hb3⟩; have D3 := hid (bl_call (bl_drew BB.out) hb3); have M3 := hid ht; clear hb3 ht)
      | (go_at_call 112; (with_reducible refine (CA.out _ _ D3.out M3.out).mono ?_); rintro x w4 ⟨q4, rfl, ht, hb4⟩; have D4 := hid (bl_call D3.out hb4); have M9 := hid ht; have R9 := hid (obj_keep R0.out D4.out); have B9 := hid (B0.out.trans (D4.out.mono B0.out.size)); clear hb4 ht; obtain ⟨⟨z0, z1, z2, z3, z4, z5⟩, ⟨f0, f1, f2, f3, f4, f5⟩⟩ := six_free R9.out)
      | fail))
  all_goals
    go_wp2_with fail
    have hgr := set6_grown w4 (w.heap.size + 1 + 1 + 1) (.int .i64 r.kind) (.string r.name) (.string r.num) (.int .u64 r.bits) (.int .i64 r.var) (.slice q4 r.args.length 2)
    have hbw := set6_below B9.out (show w.heap.size ≤ w.heap.size + 1 + 1 + 1 by omega) (.int .i64 r.kind) (.string r.name) (.string r.num) (.int .u64 r.bits) (.int .i64 r.var) (.slice q4 r.args.length 2)
    have hm' := TmAt.past (b := w.heap.size + 1 + 1 + 1) (t := r) (p := q4) (show Blank w4 (w.heap.size + 1 + 1 + 1) from R9.out) (Past.grown hgr) GR.out M9.out
    exact bodyPost_ret (results_tm rfl _ _ (w.heap.size + 1 + 1 + 1) r q4 2 (by rfl) (set6 R9.out _ _ _ _ _ _)) rfl ⟨q4, 2, rfl, hm', hbw⟩
end Go.Proofs.YtiaddfedaikaiaaGreatDoor
