/- Walks: body where it asks no body of its own: a variable, a nonterminal, what is not callable. No condition but those that each theorem names. Walks: body where it asks no body of its own: a nonterminal, what is not callable. No condition but those that each theorem names. -/
import Derived.Test.YtiaddfedaikaiaaGreatDoorD9um
import Derived.Test.YtiaddfedaikaiaaGreatDoorD13m
namespace Go.Proofs.YtiaddfedaikaiaaGreatDoor
open Go.RowKit

/-- Three boxes and one for what comes out. -/
theorem boxes3 (w : World) (a b d : Obj) : ∃ W0, W0 = (((w.alloc a).alloc b).alloc d).alloc (.cells #[.int .i64 0, .string ⟨#[]⟩, .string ⟨#[]⟩, .int .u64 0, .int .i64 0, .slice none 0 0] 25) ∧ W0.heap.size = w.heap.size + 4 ∧ Below w.heap.size w W0 ∧ W0.heap[w.heap.size]? = some a ∧ W0.heap[w.heap.size + 1]? = some b ∧ W0.heap[w.heap.size + 1 + 1]? = some d ∧ W0.heap[w.heap.size + 1 + 1 + 1]? = some (.cells #[.int .i64 0, .string ⟨#[]⟩, .string ⟨#[]⟩, .int .u64 0, .int .i64 0, .slice none 0 0] 25 (0, 0)) := by
  refine ⟨_, rfl, by simp, ((((Below.refl w.heap.size w).alloc (Nat.le_refl _) _).alloc (by simp) _).alloc (by simp <;> omega) _).alloc (by simp <;> omega) _, ?_, ?_, ?_, ?_⟩
  · exact (heap_alloc_old (((w.alloc _).alloc _).alloc _) _ (by simp <;> omega)).trans ((heap_alloc_old ((w.alloc _).alloc _) _ (by simp <;> omega)).trans ((heap_alloc_old (w.alloc _) _ (by simp)).trans (heap_alloc_new w _)))
  · exact (heap_alloc_old (((w.alloc _).alloc _).alloc _) _ (by simp <;> omega)).trans ((heap_alloc_old ((w.alloc _).alloc _) _ (by simp)).trans (by have h := heap_alloc_new (w.alloc a) b; rwa [World.size_alloc] at h))
  · exact (heap_alloc_old (((w.alloc _).alloc _).alloc _) _ (by simp)).trans (by have h := heap_alloc_new ((w.alloc a).alloc b) d; rwa [World.size_alloc, World.size_alloc] at h)
  · have h := heap_alloc_new (((w.alloc a).alloc b).alloc d) (.cells #[.int .i64 0, .string ⟨#[]⟩, .string ⟨#[]⟩, .int .u64 0, .int .i64 0, .slice none 0 0] 25)
    rw [World.size_alloc, World.size_alloc, World.size_alloc] at h
    exact h
set_option maxRecDepth 100000 in
set_option maxHeartbeats 8000000 in
theorem body_var (t f e : Tm) (p pf pe : Option Addr) (c cf ce : Nat) (v : Value) (w : World) (hT : TmAt w t p) (hF : TmAt w f pf) (hE : TmAt w e pe) (hg : Good t) (hgf : Good f) (hge : Good e) (_hX : Utf w) (hn : nodes t ≤ 4000) (hk : t.kind = 1) :
    Calls Tryz.prog 68 #[t.val p c, f.val pf cf, e.val pe ce, v] w fun x w' => ∃ q c', x = .returned ((cT nPhrase [t, f, e]).val q c') ∧ TmAt w' (cT nPhrase [t, f, e]) q ∧ Below w.heap.size w w' := by
  obtain ⟨W0, hW0, y1, y2, y3, y4, y5, y6⟩ := boxes3 w (tobj t p c) (tobj f pf cf) (tobj e pe ce)
  have hs0 := hid y1
  have B0 := hid y2
  have e0 := hid y3
  have e1 := hid y4
  have e2 := hid y5
  have R0 := hid y6
  clear y1 y2 y3 y4 y5 y6
  have CI := hid (show ∀ W s n, Calls Tryz.prog 106 #[.agg #[.int .i64 t.kind, .string t.name, .string t.num, .int .u64 t.bits, .int .i64 t.var, .slice p t.args.length c], .string s, .int .i64 n] W fun x w' => x = .returned (.bool (isOfT t s n)) ∧ Below W.heap.size W w' from fun W s n => isOf_any t p c s n W (by have := hg.few; unfold maxLen; omega))
  obtain ⟨r, hr⟩ : ∃ r, r = cT nPhrase [t, f, e] := ⟨_, rfl⟩
  have hra : r.args.length = 3 := by rw [hr]; rfl
  have GR := hid (show Good r by
    rw [hr]
    refine Good.comp (by decide) (by decide +kernel) (by simp) (by simp) fun u hu => ?_
    simp only [List.mem_cons, List.not_mem_nil, or_false] at hu
    rcases hu with rfl | rfl | rfl
    · exact hg
    · exact hgf
    · exact hge)
  have CO := hid (show ∀ W q, Calls Tryz.prog 109 #[.string ⟨#[112, 104, 114, 97, 115, 101]⟩, .slice q 3 3] W fun x w' => x = .returned (.agg #[.int .i64 r.kind, .string r.name, .string r.num, .int .u64 r.bits, .int .i64 r.var, .slice q r.args.length 3]) ∧ Below W.heap.size W w' from fun W q => by rw [hr]; exact of_any nPhrase [t, f, e] q 3 W)
  obtain ⟨W1, hW1⟩ : ∃ W1, W1 = W0.alloc (.cells #[.int .i64 t.kind, .string t.name, .string t.num, .int .u64 t.bits, .int .i64 t.var, .slice p t.args.length c, .int .i64 f.kind, .string f.name, .string f.num, .int .u64 f.bits, .int .i64 f.var, .slice pf f.args.length cf, .int .i64 e.kind, .string e.name, .string e.num, .int .u64 e.bits, .int .i64 e.var, .slice pe e.args.length ce] 25) := ⟨_, rfl⟩
  have D1 := hid (show Below W0.heap.size W0 W1 by rw [hW1]; exact (Below.refl _ _).alloc (Nat.le_refl _) _)
  have T1 := hid (show TmAt W1 r (some ⟨W0.heap.size, 0, none⟩) by
    have hb := B0.out.trans (D1.out.mono B0.out.size)
    rw [hr]
    exact built nPhrase [(t, p, c), (f, pf, cf), (e, pe, ce)] (by rw [hW1]; exact heap_alloc_new W0 _) rfl (by simp) (fun x hx => by
      simp at hx
      rcases hx with rfl | rfl | rfl
      · exact hT.keep hb
      · exact hF.keep hb
      · exact hE.keep hb))
  rw [← hr]
  have HK := hid hk
  clear hk hr hra
  have HT := hid hT
  have HF := hid hF
  have HE := hid hE
  have SR := hid (fun (W : World) (h : Below W0.heap.size W0 W) => (show W.cell? ⟨w.heap.size, 0, none⟩ = some (.int .i64 t.kind) ∧ W.cell? ⟨w.heap.size, 1, none⟩ = some (.string t.name) ∧ W.cell? ⟨w.heap.size, 2, none⟩ = some (.string t.num) ∧ W.cell? ⟨w.heap.size, 3, none⟩ = some (.int .u64 t.bits) ∧ W.cell? ⟨w.heap.size, 4, none⟩ = some (.int .i64 t.var) ∧ W.cell? ⟨w.heap.size, 5, none⟩ = some (.slice p t.args.length c) ∧ W.cell? ⟨w.heap.size + 1, 0, none⟩ = some (.int .i64 f.kind) ∧ W.cell? ⟨w.heap.size + 1, 1, none⟩ = some (.string f.name) ∧ W.cell? ⟨w.heap.size + 1, 2, none⟩ = some (.string f.num) ∧ W.cell? ⟨w.heap.size + 1, 3, none⟩ = some (.int .u64 f.bits) ∧ W.cell? ⟨w.heap.size + 1, 4, none⟩ = some (.int .i64 f.var) ∧ W.cell? ⟨w.heap.size + 1, 5, none⟩ = some (.slice pf f.args.length cf) ∧ W.cell? ⟨w.heap.size + 1 + 1, 0, none⟩ = some (.int .i64 e.kind) ∧ W.cell? ⟨w.heap.size + 1 + 1, 1, none⟩ = some (.string e.name) ∧ W.cell? ⟨w.heap.size + 1 + 1, 2, none⟩ = some (.string e.num) ∧ W.cell? ⟨w.heap.size + 1 + 1, 3, none⟩ = some (.int .u64 e.bits) ∧ W.cell? ⟨w.heap.size + 1 + 1, 4, none⟩ = some (.int .i64 e.var) ∧ W.cell? ⟨w.heap.size + 1 + 1, 5, none⟩ = some (.slice pe e.args.length ce) from by
    have m0 := six_of (obj_keep e0.out h)
    have m1 := six_of (obj_keep e1.out h)
    have m2 := six_of (obj_keep e2.out h)
    exact ⟨m0.c0, m0.c1, m0.c2, m0.c3, m0.c4, m0.c5, m1.c0, m1.c1, m1.c2, m1.c3, m1.c4, m1.c5, m2.c0, m2.c1, m2.c2, m2.c3, m2.c4, m2.c5⟩))
  have BB := hid (Below.refl W0.heap.size W0)
  unfold tobj at hW0
  unfold Tm.val
  clear hT hF hE hg hgf hge _hX hn
  go_enter Tryz.func68, Tryz.ntmps68
  go_upto_region 1 with fail
  rw [← hW0]
  clear hW0
  obtain ⟨a0, a1, a2, a3, a4, a5, b0, b1, b2, b3, b4, b5, d0, d1, d2, d3, d4, d5⟩ := SR.out _ BB.out
  rw [HK.out] at a0
  go_wp2_with (first
    | (go_at_call 109; rw [← HK.out, ← hW1]; (with_reducible refine (CO.out _ _).mono ?_); rintro x w4 ⟨rfl, hb4⟩; have BB := hid (D1.out.trans (hb4.mono D1.out.size)); have M9 := hid (T1.out.keep hb4); clear hb4 hW1; have R9 := hid (obj_keep R0.out BB.out); have B9 := hid (B0.out.trans (BB.out.mono B0.out.size)); obtain ⟨⟨z0, z1, z2, z3, z4, z5⟩, ⟨f0, f1, f2, f3, f4, f5⟩⟩ := six_free R9.out)
    | fail)
  have hgr := set6_grown w4 (w.heap.size + 1 + 1 + 1) (.int .i64 r.kind) (.string r.name) (.string r.num) (.int .u64 r.bits) (.int .i64 r.var) (.slice (some ⟨W0.heap.size, 0, none⟩) r.args.length 3)
  have hbw := set6_below B9.out (show w.heap.size ≤ w.heap.size + 1 + 1 + 1 by omega) (.int .i64 r.kind) (.string r.name) (.string r.num) (.int .u64 r.bits) (.int .i64 r.var) (.slice (some ⟨W0.heap.size, 0, none⟩) r.args.length 3)
  have hm' := TmAt.past (b := w.heap.size + 1 + 1 + 1) (t := r) (p := (some ⟨W0.heap.size, 0, none⟩)) (show Blank w4 (w.heap.size + 1 + 1 + 1) from R9.out) (Past.grown hgr) GR.out M9.out
  exact bodyPost_ret (results_tm rfl _ _ (w.heap.size + 1 + 1 + 1) r (some ⟨W0.heap.size, 0, none⟩) 3 (by rfl) (set6 R9.out _ _ _ _ _ _)) rfl ⟨(some ⟨W0.heap.size, 0, none⟩), 3, rfl, hm', hbw⟩
end Go.Proofs.YtiaddfedaikaiaaGreatDoor

namespace Go.Proofs.YtiaddfedaikaiaaGreatDoor
open Go.RowKit

set_option maxRecDepth 100000 in
set_option maxHeartbeats 8000000 in
theorem body_num (t f e : Tm) (p pf pe : Option Addr) (c cf ce : Nat) (v : Value) (w : World) (hT : TmAt w t p) (hF : TmAt w f pf) (hE : TmAt w e pe) (hg : Good t) (_hgf : Good f) (_hge : Good e) (hX : Utf w) (hn : nodes t ≤ 4000) (hk : t.kind ≠ 1) (i1 : isOfT t nComma 2 = false) (i2 : isOfT t nArrow 2 = false) (i3 : isOfT t nSemi 2 = false) (i4 : isOfT t nBar 2 = false) (i5 : isOfT t nNot 1 = false) (i6 : isOfT t nBraces 0 = false) (i7 : isOfT t nBraces 1 = false) (i8 : isOfT t nCut 0 = false) (i9 : isOfT t nEmpty 0 = false) (i10 : isOfT t nDot 2 = false) (h3 : t.kind = 3 ∨ t.kind = 4) :
    Calls Tryz.prog 68 #[t.val p c, f.val pf cf, e.val pe ce, v] w fun x w' => ∃ k, x = .panicked [{ v := .iface 105 (.pointer (some ⟨k, 0, none⟩)), recovered := false }] ∧ BallAt w' k (bType nCallable t) ∧ Below w.heap.size w w' := by
  obtain ⟨W0, hW0, y1, y2, y3, y4, y5, y6⟩ := boxes3 w (tobj t p c) (tobj f pf cf) (tobj e pe ce)
  have hs0 := hid y1
  have B0 := hid y2
  have e0 := hid y3
  have e1 := hid y4
  have e2 := hid y5
  have R0 := hid y6
  clear y1 y2 y3 y4 y5 y6
  have CI := hid (show ∀ W s n, Calls Tryz.prog 106 #[.agg #[.int .i64 t.kind, .string t.name, .string t.num, .int .u64 t.bits, .int .i64 t.var, .slice p t.args.length c], .string s, .int .i64 n] W fun x w' => x = .returned (.bool (isOfT t s n)) ∧ Below W.heap.size W w' from fun W s n => isOf_any t p c s n W (by have := hg.few; unfold maxLen; omega))
  obtain ⟨bb, hbb⟩ : ∃ bb, bb = bType nCallable t := ⟨_, rfl⟩
  have CN := hid (show ∀ W, Below W0.heap.size W0 W → Calls Tryz.prog 108 #[.agg #[.int .i64 t.kind, .string t.name, .string t.num, .int .u64 t.bits, .int .i64 t.var, .slice p t.args.length c]] W fun x w' => ∃ k, x = .panicked [{ v := .iface 105 (.pointer (some ⟨k, 0, none⟩)), recovered := false }] ∧ BallAt w' k bb ∧ Below W.heap.size W w' from fun W h => by
    have hb := B0.out.trans (h.mono B0.out.size)
    have h := callable_any t p c W (hT.keep hb) hg (hX.keep hb) hn
    have hc : callE t = some bb := by unfold callE; rw [if_neg hk, if_pos h3, hbb]
    rw [hc] at h
    exact h.mono fun x w' ⟨⟨k, a, b⟩, d⟩ => ⟨k, a, b, d⟩)
  rw [← hbb]
  clear hbb h3
  unfold nComma at i1
  unfold nArrow at i2
  unfold nSemi at i3
  unfold nBar at i4
  unfold nNot at i5
  unfold nBraces at i6
  unfold nBraces at i7
  unfold nCut at i8
  unfold nEmpty at i9
  unfold nDot at i10
  have HT := hid hT
  have HF := hid hF
  have HE := hid hE
  have SR := hid (fun (W : World) (h : Below W0.heap.size W0 W) => (show W.cell? ⟨w.heap.size, 0, none⟩ = some (.int .i64 t.kind) ∧ W.cell? ⟨w.heap.size, 1, none⟩ = some (.string t.name) ∧ W.cell? ⟨w.heap.size, 2, none⟩ = some (.string t.num) ∧ W.cell? ⟨w.heap.size, 3, none⟩ = some (.int .u64 t.bits) ∧ W.cell? ⟨w.heap.size, 4, none⟩ = some (.int .i64 t.var) ∧ W.cell? ⟨w.heap.size, 5, none⟩ = some (.slice p t.args.length c) ∧ W.cell? ⟨w.heap.size + 1, 0, none⟩ = some (.int .i64 f.kind) ∧ W.cell? ⟨w.heap.size + 1, 1, none⟩ = some (.string f.name) ∧ W.cell? ⟨w.heap.size + 1, 2, none⟩ = some (.string f.num) ∧ W.cell? ⟨w.heap.size + 1, 3, none⟩ = some (.int .u64 f.bits) ∧ W.cell? ⟨w.heap.size + 1, 4, none⟩ = some (.int .i64 f.var) ∧ W.cell? ⟨w.heap.size + 1, 5, none⟩ = some (.slice pf f.args.length cf) ∧ W.cell? ⟨w.heap.size + 1 + 1, 0, none⟩ = some (.int .i64 e.kind) ∧ W.cell? ⟨w.heap.size + 1 + 1, 1, none⟩ = some (.string e.name) ∧ W.cell? ⟨w.heap.size + 1 + 1, 2, none⟩ = some (.string e.num) ∧ W.cell? ⟨w.heap.size + 1 + 1, 3, none⟩ = some (.int .u64 e.bits) ∧ W.cell? ⟨w.heap.size + 1 + 1, 4, none⟩ = some (.int .i64 e.var) ∧ W.cell? ⟨w.heap.size + 1 + 1, 5, none⟩ = some (.slice pe e.args.length ce) from by
    have m0 := six_of (obj_keep e0.out h)
    have m1 := six_of (obj_keep e1.out h)
    have m2 := six_of (obj_keep e2.out h)
    exact ⟨m0.c0, m0.c1, m0.c2, m0.c3, m0.c4, m0.c5, m1.c0, m1.c1, m1.c2, m1.c3, m1.c4, m1.c5, m2.c0, m2.c1, m2.c2, m2.c3, m2.c4, m2.c5⟩))
  have BB := hid (Below.refl W0.heap.size W0)
  unfold tobj at hW0
  unfold Tm.val
  clear hT hF hE hg _hgf _hge hX hn
  go_enter Tryz.func68, Tryz.ntmps68
  go_upto_region 1 with fail
  rw [← hW0]
  clear hW0
  obtain ⟨a0, a1, a2, a3, a4, a5, b0, b1, b2, b3, b4, b5, d0, d1, d2, d3, d4, d5⟩ := SR.out _ BB.out
  go_wp2_with (first
    | (go_at_call 106; (with_reducible refine (CI.out _ _ _).mono ?_); rintro x w2 ⟨rfl, hb2⟩; have BB := hid (BB.out.trans (hb2.mono BB.out.size)); clear hb2 a0 a1 a2 a3 a4 a5 b0 b1 b2 b3 b4 b5 d0 d1 d2 d3 d4 d5; obtain ⟨a0, a1, a2, a3, a4, a5, b0, b1, b2, b3, b4, b5, d0, d1, d2, d3, d4, d5⟩ := SR.out _ BB.out; first | rw [i1] | rw [i2] | rw [i3] | rw [i4] | rw [i5] | rw [i6] | rw [i7] | rw [i8] | rw [i9] | rw [i10])
    | (go_at_call 108; (with_reducible refine (CN.out _ BB.out).mono ?_); rintro x w3 ⟨k, rfl, hb, hb3⟩; have K3 := hid hb; have BB := hid (BB.out.trans (hb3.mono BB.out.size)); clear hb3 hb)
    | fail)
  exact ⟨rfl, k, rfl, K3.out, B0.out.trans (BB.out.mono B0.out.size)⟩
set_option maxRecDepth 100000 in
set_option maxHeartbeats 8000000 in
theorem body_bet_ok (t f e : Tm) (p pf pe : Option Addr) (c cf ce : Nat) (v : Value) (w : World) (hT : TmAt w t p) (hF : TmAt w f pf) (hE : TmAt w e pe) (hg : Good t) (hgf : Good f) (hge : Good e) (_hX : Utf w) (_hn : nodes t ≤ 4000) (hk : t.kind ≠ 1) (i1 : isOfT t nComma 2 = false) (i2 : isOfT t nArrow 2 = false) (i3 : isOfT t nSemi 2 = false) (i4 : isOfT t nBar 2 = false) (i5 : isOfT t nNot 1 = false) (i6 : isOfT t nBraces 0 = false) (i7 : isOfT t nBraces 1 = false) (i8 : isOfT t nCut 0 = false) (i9 : isOfT t nEmpty 0 = false) (i10 : isOfT t nDot 2 = false) (h3 : t.kind ≠ 3) (h4 : t.kind ≠ 4) (hi : t.args.length + 2 ≤ 64) :
    Calls Tryz.prog 68 #[t.val p c, f.val pf cf, e.val pe ce, v] w fun x w' => ∃ q c', x = .returned ((cT t.name (t.args ++ [f, e])).val q c') ∧ TmAt w' (cT t.name (t.args ++ [f, e])) q ∧ Below w.heap.size w w' := by
  obtain ⟨W0, hW0, y1, y2, y3, y4, y5, y6⟩ := boxes3 w (tobj t p c) (tobj f pf cf) (tobj e pe ce)
  have hs0 := hid y1
  have B0 := hid y2
  have e0 := hid y3
  have e1 := hid y4
  have e2 := hid y5
  have R0 := hid y6
  clear y1 y2 y3 y4 y5 y6
  have CI := hid (show ∀ W s n, Calls Tryz.prog 106 #[.agg #[.int .i64 t.kind, .string t.name, .string t.num, .int .u64 t.bits, .int .i64 t.var, .slice p t.args.length c], .string s, .int .i64 n] W fun x w' => x = .returned (.bool (isOfT t s n)) ∧ Below W.heap.size W w' from fun W s n => isOf_any t p c s n W (by have := hg.few; unfold maxLen; omega))
  obtain ⟨r, hr⟩ : ∃ r, r = cT t.name (t.args ++ [f, e]) := ⟨_, rfl⟩
  have GR := hid (show Good r from betT_good hg hgf hge (by unfold betT; rw [if_pos hi, hr]))
  have CN := hid (show ∀ W, Below W0.heap.size W0 W → Calls Tryz.prog 108 #[.agg #[.int .i64 t.kind, .string t.name, .string t.num, .int .u64 t.bits, .int .i64 t.var, .slice p t.args.length c]] W fun x w' => x = .returned (.tuple #[]) ∧ Below W.heap.size W w' from fun W _ => callable_ok t p c W hk h3 h4)
  have CB := hid (show ∀ W, Below W0.heap.size W0 W → Calls Tryz.prog 110 #[.agg #[.int .i64 t.kind, .string t.name, .string t.num, .int .u64 t.bits, .int .i64 t.var, .slice p t.args.length c], .agg #[.int .i64 f.kind, .string f.name, .string f.num, .int .u64 f.bits, .int .i64 f.var, .slice pf f.args.length cf], .agg #[.int .i64 e.kind, .string e.name, .string e.num, .int .u64 e.bits, .int .i64 e.var, .slice pe e.args.length ce]] W fun x w' => ∃ q c', x = .returned (.agg #[.int .i64 r.kind, .string r.name, .string r.num, .int .u64 r.bits, .int .i64 r.var, .slice q r.args.length c']) ∧ TmAt w' r q ∧ Below W.heap.size W w' from fun W h => by
    have hb := B0.out.trans (h.mono B0.out.size)
    rw [hr]
    exact between_ok t f e p pf pe c cf ce W (hT.keep hb) (hF.keep hb) (hE.keep hb) hg hgf hge hi)
  rw [← hr]
  clear hr h3 h4 hi
  unfold nComma at i1
  unfold nArrow at i2
  unfold nSemi at i3
  unfold nBar at i4
  unfold nNot at i5
  unfold nBraces at i6
  unfold nBraces at i7
  unfold nCut at i8
  unfold nEmpty at i9
  unfold nDot at i10
  have HT := hid hT
  have HF := hid hF
  have HE := hid hE
  have SR := hid (fun (W : World) (h : Below W0.heap.size W0 W) => (show W.cell? ⟨w.heap.size, 0, none⟩ = some (.int .i64 t.kind) ∧ W.cell? ⟨w.heap.size, 1, none⟩ = some (.string t.name) ∧ W.cell? ⟨w.heap.size, 2, none⟩ = some (.string t.num) ∧ W.cell? ⟨w.heap.size, 3, none⟩ = some (.int .u64 t.bits) ∧ W.cell? ⟨w.heap.size, 4, none⟩ = some (.int .i64 t.var) ∧ W.cell? ⟨w.heap.size, 5, none⟩ = some (.slice p t.args.length c) ∧ W.cell? ⟨w.heap.size + 1, 0, none⟩ = some (.int .i64 f.kind) ∧ W.cell? ⟨w.heap.size + 1, 1, none⟩ = some (.string f.name) ∧ W.cell? ⟨w.heap.size + 1, 2, none⟩ = some (.string f.num) ∧ W.cell? ⟨w.heap.size + 1, 3, none⟩ = some (.int .u64 f.bits) ∧ W.cell? ⟨w.heap.size + 1, 4, none⟩ = some (.int .i64 f.var) ∧ W.cell? ⟨w.heap.size + 1, 5, none⟩ = some (.slice pf f.args.length cf) ∧ W.cell? ⟨w.heap.size + 1 + 1, 0, none⟩ = some (.int .i64 e.kind) ∧ W.cell? ⟨w.heap.size + 1 + 1, 1, none⟩ = some (.string e.name) ∧ W.cell? ⟨w.heap.size + 1 + 1, 2, none⟩ = some (.string e.num) ∧ W.cell? ⟨w.heap.size + 1 + 1, 3, none⟩ = some (.int .u64 e.bits) ∧ W.cell? ⟨w.heap.size + 1 + 1, 4, none⟩ = some (.int .i64 e.var) ∧ W.cell? ⟨w.heap.size + 1 + 1, 5, none⟩ = some (.slice pe e.args.length ce) from by
    have m0 := six_of (obj_keep e0.out h)
    have m1 := six_of (obj_keep e1.out h)
    have m2 := six_of (obj_keep e2.out h)
    exact ⟨m0.c0, m0.c1, m0.c2, m0.c3, m0.c4, m0.c5, m1.c0, m1.c1, m1.c2, m1.c3, m1.c4, m1.c5, m2.c0, m2.c1, m2.c2, m2.c3, m2.c4, m2.c5⟩))
  have BB := hid (Below.refl W0.heap.size W0)
  unfold tobj at hW0
  unfold Tm.val
  clear hT hF hE hg hgf hge _hX _hn
  go_enter Tryz.func68, Tryz.ntmps68
  go_upto_region 1 with fail
  rw [← hW0]
  clear hW0
  obtain ⟨a0, a1, a2, a3, a4, a5, b0, b1, b2, b3, b4, b5, d0, d1, d2, d3, d4, d5⟩ := SR.out _ BB.out
  go_wp2_with (first
    | (go_at_call 106; (with_reducible refine (CI.out _ _ _).mono ?_); rintro x w2 ⟨rfl, hb2⟩; have BB := hid (BB.out.trans (hb2.mono BB.out.size)); clear hb2 a0 a1 a2 a3 a4 a5 b0 b1 b2 b3 b4 b5 d0 d1 d2 d3 d4 d5; obtain ⟨a0, a1, a2, a3, a4, a5, b0, b1, b2, b3, b4, b5, d0, d1, d2, d3, d4, d5⟩ := SR.out _ BB.out; first | rw [i1] | rw [i2] | rw [i3] | rw [i4] | rw [i5] | rw [i6] | rw [i7] | rw [i8] | rw [i9] | rw [i10])
    | (go_at_call 108; (with_reducible refine (CN.out _ BB.out).mono ?_); rintro x w3 ⟨rfl, hb3⟩; have BB := hid (BB.out.trans (hb3.mono BB.out.size)); clear hb3 a0 a1 a2 a3 a4 a5 b0 b1 b2 b3 b4 b5 d0 d1 d2 d3 d4 d5; obtain ⟨a0, a1, a2, a3, a4, a5, b0, b1, b2, b3, b4, b5, d0, d1, d2, d3, d4, d5⟩ := SR.out _ BB.out)
    | (go_at_call 110; (with_reducible refine (CB.out _ BB.out).mono ?_); rintro x w4 ⟨q4, c4, rfl, ht, hb4⟩; have BB := hid (BB.out.trans (hb4.mono BB.out.size)); have M9 := hid ht; clear hb4 ht; have R9 := hid (obj_keep R0.out BB.out); have B9 := hid (B0.out.trans (BB.out.mono B0.out.size)); obtain ⟨⟨z0, z1, z2, z3, z4, z5⟩, ⟨f0, f1, f2, f3, f4, f5⟩⟩ := six_free R9.out)
    | fail)
  have hgr := set6_grown w4 (w.heap.size + 1 + 1 + 1) (.int .i64 r.kind) (.string r.name) (.string r.num) (.int .u64 r.bits) (.int .i64 r.var) (.slice q4 r.args.length c4)
  have hbw := set6_below B9.out (show w.heap.size ≤ w.heap.size + 1 + 1 + 1 by omega) (.int .i64 r.kind) (.string r.name) (.string r.num) (.int .u64 r.bits) (.int .i64 r.var) (.slice q4 r.args.length c4)
  have hm' := TmAt.past (b := w.heap.size + 1 + 1 + 1) (t := r) (p := q4) (show Blank w4 (w.heap.size + 1 + 1 + 1) from R9.out) (Past.grown hgr) GR.out M9.out
  exact bodyPost_ret (results_tm rfl _ _ (w.heap.size + 1 + 1 + 1) r q4 c4 (by rfl) (set6 R9.out _ _ _ _ _ _)) rfl ⟨q4, c4, rfl, hm', hbw⟩
set_option maxRecDepth 100000 in
set_option maxHeartbeats 8000000 in
theorem body_bet_bad (t f e : Tm) (p pf pe : Option Addr) (c cf ce : Nat) (v : Value) (w : World) (hT : TmAt w t p) (hF : TmAt w f pf) (hE : TmAt w e pe) (hg : Good t) (_hgf : Good f) (_hge : Good e) (_hX : Utf w) (_hn : nodes t ≤ 4000) (hk : t.kind ≠ 1) (i1 : isOfT t nComma 2 = false) (i2 : isOfT t nArrow 2 = false) (i3 : isOfT t nSemi 2 = false) (i4 : isOfT t nBar 2 = false) (i5 : isOfT t nNot 1 = false) (i6 : isOfT t nBraces 0 = false) (i7 : isOfT t nBraces 1 = false) (i8 : isOfT t nCut 0 = false) (i9 : isOfT t nEmpty 0 = false) (i10 : isOfT t nDot 2 = false) (h3 : t.kind ≠ 3) (h4 : t.kind ≠ 4) (hi : ¬ t.args.length + 2 ≤ 64) :
    Calls Tryz.prog 68 #[t.val p c, f.val pf cf, e.val pe ce, v] w fun x w' => ∃ k, x = .panicked [{ v := .iface 105 (.pointer (some ⟨k, 0, none⟩)), recovered := false }] ∧ BallAt w' k (bArity) ∧ Below w.heap.size w w' := by
  obtain ⟨W0, hW0, y1, y2, y3, y4, y5, y6⟩ := boxes3 w (tobj t p c) (tobj f pf cf) (tobj e pe ce)
  have hs0 := hid y1
  have B0 := hid y2
  have e0 := hid y3
  have e1 := hid y4
  have e2 := hid y5
  have R0 := hid y6
  clear y1 y2 y3 y4 y5 y6
  have CI := hid (show ∀ W s n, Calls Tryz.prog 106 #[.agg #[.int .i64 t.kind, .string t.name, .string t.num, .int .u64 t.bits, .int .i64 t.var, .slice p t.args.length c], .string s, .int .i64 n] W fun x w' => x = .returned (.bool (isOfT t s n)) ∧ Below W.heap.size W w' from fun W s n => isOf_any t p c s n W (by have := hg.few; unfold maxLen; omega))
  have CN := hid (show ∀ W, Below W0.heap.size W0 W → Calls Tryz.prog 108 #[.agg #[.int .i64 t.kind, .string t.name, .string t.num, .int .u64 t.bits, .int .i64 t.var, .slice p t.args.length c]] W fun x w' => x = .returned (.tuple #[]) ∧ Below W.heap.size W w' from fun W _ => callable_ok t p c W hk h3 h4)
  have CB := hid (show ∀ W, Below W0.heap.size W0 W → Calls Tryz.prog 110 #[.agg #[.int .i64 t.kind, .string t.name, .string t.num, .int .u64 t.bits, .int .i64 t.var, .slice p t.args.length c], .agg #[.int .i64 f.kind, .string f.name, .string f.num, .int .u64 f.bits, .int .i64 f.var, .slice pf f.args.length cf], .agg #[.int .i64 e.kind, .string e.name, .string e.num, .int .u64 e.bits, .int .i64 e.var, .slice pe e.args.length ce]] W fun x w' => ∃ k, x = .panicked [{ v := .iface 105 (.pointer (some ⟨k, 0, none⟩)), recovered := false }] ∧ BallAt w' k bArity ∧ Below W.heap.size W w' from fun W h => by
    have hb := B0.out.trans (h.mono B0.out.size)
    exact between_bad t f e p pf pe c cf ce W (hT.keep hb) (hF.keep hb) (hE.keep hb) hg hi)
  clear h3 h4 hi
  unfold nComma at i1
  unfold nArrow at i2
  unfold nSemi at i3
  unfold nBar at i4
  unfold nNot at i5
  unfold nBraces at i6
  unfold nBraces at i7
  unfold nCut at i8
  unfold nEmpty at i9
  unfold nDot at i10
  have HT := hid hT
  have HF := hid hF
  have HE := hid hE
  have SR := hid (fun (W : World) (h : Below W0.heap.size W0 W) => (show W.cell? ⟨w.heap.size, 0, none⟩ = some (.int .i64 t.kind) ∧ W.cell? ⟨w.heap.size, 1, none⟩ = some (.string t.name) ∧ W.cell? ⟨w.heap.size, 2, none⟩ = some (.string t.num) ∧ W.cell? ⟨w.heap.size, 3, none⟩ = some (.int .u64 t.bits) ∧ W.cell? ⟨w.heap.size, 4, none⟩ = some (.int .i64 t.var) ∧ W.cell? ⟨w.heap.size, 5, none⟩ = some (.slice p t.args.length c) ∧ W.cell? ⟨w.heap.size + 1, 0, none⟩ = some (.int .i64 f.kind) ∧ W.cell? ⟨w.heap.size + 1, 1, none⟩ = some (.string f.name) ∧ W.cell? ⟨w.heap.size + 1, 2, none⟩ = some (.string f.num) ∧ W.cell? ⟨w.heap.size + 1, 3, none⟩ = some (.int .u64 f.bits) ∧ W.cell? ⟨w.heap.size + 1, 4, none⟩ = some (.int .i64 f.var) ∧ W.cell? ⟨w.heap.size + 1, 5, none⟩ = some (.slice pf f.args.length cf) ∧ W.cell? ⟨w.heap.size + 1 + 1, 0, none⟩ = some (.int .i64 e.kind) ∧ W.cell? ⟨w.heap.size + 1 + 1, 1, none⟩ = some (.string e.name) ∧ W.cell? ⟨w.heap.size + 1 + 1, 2, none⟩ = some (.string e.num) ∧ W.cell? ⟨w.heap.size + 1 + 1, 3, none⟩ = some (.int .u64 e.bits) ∧ W.cell? ⟨w.heap.size + 1 + 1, 4, none⟩ = some (.int .i64 e.var) ∧ W.cell? ⟨w.heap.size + 1 + 1, 5, none⟩ = some (.slice pe e.args.length ce) from by
    have m0 := six_of (obj_keep e0.out h)
    have m1 := six_of (obj_keep e1.out h)
    have m2 := six_of (obj_keep e2.out h)
    exact ⟨m0.c0, m0.c1, m0.c2, m0.c3, m0.c4, m0.c5, m1.c0, m1.c1, m1.c2, m1.c3, m1.c4, m1.c5, m2.c0, m2.c1, m2.c2, m2.c3, m2.c4, m2.c5⟩))
  have BB := hid (Below.refl W0.heap.size W0)
  unfold tobj at hW0
  unfold Tm.val
  clear hT hF hE hg _hgf _hge _hX _hn
  go_enter Tryz.func68, Tryz.ntmps68
  go_upto_region 1 with fail
  rw [← hW0]
  clear hW0
  obtain ⟨a0, a1, a2, a3, a4, a5, b0, b1, b2, b3, b4, b5, d0, d1, d2, d3, d4, d5⟩ := SR.out _ BB.out
  go_wp2_with (first
    | (go_at_call 106; (with_reducible refine (CI.out _ _ _).mono ?_); rintro x w2 ⟨rfl, hb2⟩; have BB := hid (BB.out.trans (hb2.mono BB.out.size)); clear hb2 a0 a1 a2 a3 a4 a5 b0 b1 b2 b3 b4 b5 d0 d1 d2 d3 d4 d5; obtain ⟨a0, a1, a2, a3, a4, a5, b0, b1, b2, b3, b4, b5, d0, d1, d2, d3, d4, d5⟩ := SR.out _ BB.out; first | rw [i1] | rw [i2] | rw [i3] | rw [i4] | rw [i5] | rw [i6] | rw [i7] | rw [i8] | rw [i9] | rw [i10])
    | (go_at_call 108; (with_reducible refine (CN.out _ BB.out).mono ?_); rintro x w3 ⟨rfl, hb3⟩; have BB := hid (BB.out.trans (hb3.mono BB.out.size)); clear hb3 a0 a1 a2 a3 a4 a5 b0 b1 b2 b3 b4 b5 d0 d1 d2 d3 d4 d5; obtain ⟨a0, a1, a2, a3, a4, a5, b0, b1, b2, b3, b4, b5, d0, d1, d2, d3, d4, d5⟩ := SR.out _ BB.out)
    | (go_at_call 110; (with_reducible refine (CB.out _ BB.out).mono ?_); rintro x w4 ⟨k, rfl, hb, hb4⟩; have BB := hid (BB.out.trans (hb4.mono BB.out.size)); have K4 := hid hb; clear hb4 hb)
    | fail)
  exact ⟨rfl, k, rfl, K4.out, B0.out.trans (BB.out.mono B0.out.size)⟩
end Go.Proofs.YtiaddfedaikaiaaGreatDoor
