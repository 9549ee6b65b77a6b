/- Walks: body where it asks bodies of its own: an alternative. No condition but those that each theorem names. Walks: body where it asks bodies of its own: one goal behind another. No condition but those that each theorem names. -/
import Derived.Test.YtiaddfedaikaiaaGreatDoorD19m
namespace Go.Proofs.YtiaddfedaikaiaaGreatDoor
open Go.RowKit

set_option maxRecDepth 100000 in
set_option maxHeartbeats 8000000 in
theorem body_alt_ball1 (t f e : Tm) (pf pe : Option Addr) (b o : Nat) (c cf ce : Nat) (bx d : Nat) (n : Int) (w : World) (hT : TmAt w t (some ⟨b, o, none⟩)) (hF : TmAt w f pf) (hE : TmAt w e pe) (hg : Good t) (hgf : Good f) (hge : Good e) (hX : ∀ W, But1 bx w W → Utf W) (hbx : Box1 w bx n) (h0 : 0 ≤ n) (hmx : n + nodes t ≤ 9223372036854775806) (IH : BodyIH bx d) (hd : nodes t ≤ d + 1) (hn : nodes t ≤ 4000) (hk : t.kind ≠ 1) (i1 : isOfT t nComma 2 = false) (i2 : isOfT t nArrow 2 = false) (i34 : isOfT t nSemi 2 = true ∨ (isOfT t nSemi 2 = false ∧ isOfT t nBar 2 = true)) (bb : Tm) (hok1 : bodyN d (argT t 0) f e n = .ball bb) :
    Calls Tryz.prog 68 #[t.val (some ⟨b, o, none⟩) c, f.val pf cf, e.val pe ce, .func (.func 104) #[] #[.pointer (some ⟨bx, 0, none⟩)]] w fun x w' => ∃ k, x = .panicked [{ v := .iface 105 (.pointer (some ⟨k, 0, none⟩)), recovered := false }] ∧ BallAt w' k bb ∧ But1 bx w w' := by
  obtain ⟨W0, hW0, y1, y2, y3, y4, y5, y6⟩ := boxes3 w (tobj t (some ⟨b, o, none⟩) c) (tobj f pf cf) (tobj e pe ce)
  have hs0 := hid y1
  have B0 := hid y2
  have e0 := hid y3
  have e1 := hid y4
  have e2 := hid y5
  have R0 := hid y6
  clear y1 y2 y3 y4 y5 y6
  have CI := hid (show ∀ W s n, Calls Tryz.prog 106 #[.agg #[.int .i64 t.kind, .string t.name, .string t.num, .int .u64 t.bits, .int .i64 t.var, .slice (some ⟨b, o, none⟩) t.args.length c], .string s, .int .i64 n] W fun x w' => x = .returned (.bool (isOfT t s n)) ∧ Below W.heap.size W w' from fun W s n => isOf_any t (some ⟨b, o, none⟩) c s n W (by have := hg.few; unfold maxLen; omega))
  obtain ⟨sind, hs⟩ : ∃ s, isOfT t s 2 = true := by
    rcases i34 with h | h
    · exact ⟨_, h⟩
    · exact ⟨_, h.2⟩
  have hlen := isOfT_len (k := 2) hs
  have hnod := (two_of hg hs).2.2.1
  have h01 : (0 : Int) < (t.args.length : Int) := by omega
  have h02 : 0 < t.args.length := by omega
  have h03 : t.args ≠ [] := List.length_pos_iff.1 h02
  have h04 : (1 : Int) < (t.args.length : Int) := by omega
  have h05 : 1 < t.args.length := by omega
  obtain ⟨b', o', hbo, q1, c1, hs1, ht1⟩ := hT.get 0 h02
  obtain ⟨rfl, rfl⟩ : b = b' ∧ o = o' := by simpa using hbo
  obtain ⟨b', o', hbo, q2, c2, hs2, ht2⟩ := hT.get 1 h05
  obtain ⟨rfl, rfl⟩ : b = b' ∧ o = o' := by simpa using hbo
  have hga := (hg.arg _ (List.getElem_mem h02)).1
  have hgb := (hg.arg _ (List.getElem_mem h05)).1
  rw [argT_get h02, argT_get h05] at hnod
  simp only [argT_get h02] at *
  generalize t.args[0] = a1 at *
  generalize t.args[1] = a2 at *
  rw [Nat.zero_mul, Nat.add_zero] at hs1
  rw [Nat.one_mul] at hs2
  clear hbo hlen hs sind
  have HX0 := hid hX
  have N1 := hid (But1.of_below hbx B0.out)
  have CB := hid (show ∀ W, But1 bx W0 W → Box1 W bx n → Calls Tryz.prog 68 #[.agg #[.int .i64 a1.kind, .string a1.name, .string a1.num, .int .u64 a1.bits, .int .i64 a1.var, .slice q1 a1.args.length c1], .agg #[.int .i64 f.kind, .string f.name, .string f.num, .int .u64 f.bits, .int .i64 f.var, .slice pf f.args.length cf], .agg #[.int .i64 e.kind, .string e.name, .string e.num, .int .u64 e.bits, .int .i64 e.var, .slice pe e.args.length ce], .func (.func 104) #[] #[.pointer (some ⟨bx, 0, none⟩)]] W fun x w' => ∃ k, x = .panicked [{ v := .iface 105 (.pointer (some ⟨k, 0, none⟩)), recovered := false }] ∧ BallAt w' k bb ∧ But1 bx W w' from fun W h h2 => by
    have hb := N1.out.trans h
    have hc := IH a1 f e n q1 pf pe c1 cf ce W (by omega) (hb.tm ht1) (hb.tm hF) (hb.tm hE) hga hgf hge (fun W' h' => HX0.out W' (hb.trans h')) (by omega) h2 (by omega) (by omega)
    unfold BodyAt at hc
    rw [hok1] at hc
    exact hc)
  unfold nComma at i1
  unfold nArrow at i2
  have HT := hid hT
  have HF := hid hF
  have HE := hid hE
  have N0 := hid (But1.of_below hbx B0.out)
  have hbl := hid (lt_of_block hbx)
  have SR := hid (fun (W : World) (h : But1 bx W0 W) => (show W.cell? ⟨w.heap.size, 0, none⟩ = some (.int .i64 t.kind) ∧ W.cell? ⟨w.heap.size, 1, none⟩ = some (.string t.name) ∧ W.cell? ⟨w.heap.size, 2, none⟩ = some (.string t.num) ∧ W.cell? ⟨w.heap.size, 3, none⟩ = some (.int .u64 t.bits) ∧ W.cell? ⟨w.heap.size, 4, none⟩ = some (.int .i64 t.var) ∧ W.cell? ⟨w.heap.size, 5, none⟩ = some (.slice (some ⟨b, o, none⟩) t.args.length c) ∧ W.cell? ⟨w.heap.size + 1, 0, none⟩ = some (.int .i64 f.kind) ∧ W.cell? ⟨w.heap.size + 1, 1, none⟩ = some (.string f.name) ∧ W.cell? ⟨w.heap.size + 1, 2, none⟩ = some (.string f.num) ∧ W.cell? ⟨w.heap.size + 1, 3, none⟩ = some (.int .u64 f.bits) ∧ W.cell? ⟨w.heap.size + 1, 4, none⟩ = some (.int .i64 f.var) ∧ W.cell? ⟨w.heap.size + 1, 5, none⟩ = some (.slice pf f.args.length cf) ∧ W.cell? ⟨w.heap.size + 1 + 1, 0, none⟩ = some (.int .i64 e.kind) ∧ W.cell? ⟨w.heap.size + 1 + 1, 1, none⟩ = some (.string e.name) ∧ W.cell? ⟨w.heap.size + 1 + 1, 2, none⟩ = some (.string e.num) ∧ W.cell? ⟨w.heap.size + 1 + 1, 3, none⟩ = some (.int .u64 e.bits) ∧ W.cell? ⟨w.heap.size + 1 + 1, 4, none⟩ = some (.int .i64 e.var) ∧ W.cell? ⟨w.heap.size + 1 + 1, 5, none⟩ = some (.slice pe e.args.length ce) ∧ W.cell? ⟨b, o, none⟩ = some (.int .i64 a1.kind) ∧ W.cell? ⟨b, o + 1, none⟩ = some (.string a1.name) ∧ W.cell? ⟨b, o + 2, none⟩ = some (.string a1.num) ∧ W.cell? ⟨b, o + 3, none⟩ = some (.int .u64 a1.bits) ∧ W.cell? ⟨b, o + 4, none⟩ = some (.int .i64 a1.var) ∧ W.cell? ⟨b, o + 5, none⟩ = some (.slice q1 a1.args.length c1) ∧ W.cell? ⟨b, o + 6, none⟩ = some (.int .i64 a2.kind) ∧ W.cell? ⟨b, o + 7, none⟩ = some (.string a2.name) ∧ W.cell? ⟨b, o + 8, none⟩ = some (.string a2.num) ∧ W.cell? ⟨b, o + 9, none⟩ = some (.int .u64 a2.bits) ∧ W.cell? ⟨b, o + 10, none⟩ = some (.int .i64 a2.var) ∧ W.cell? ⟨b, o + 11, none⟩ = some (.slice q2 a2.args.length c2) from by
    have hq := hbl.out
    have m0 := six_of (h.obj e0.out (by omega))
    have m1 := six_of (h.obj e1.out (by omega))
    have m2 := six_of (h.obj e2.out (by omega))
    have m := (N0.out.trans h).six hs1
    have m' := (N0.out.trans h).six hs2
    exact ⟨m0.c0, m0.c1, m0.c2, m0.c3, m0.c4, m0.c5, m1.c0, m1.c1, m1.c2, m1.c3, m1.c4, m1.c5, m2.c0, m2.c1, m2.c2, m2.c3, m2.c4, m2.c5, m.c0, m.c1, m.c2, m.c3, m.c4, m.c5, m'.c0, m'.c1, m'.c2, m'.c3, m'.c4, m'.c5⟩))
  clear hs1 hs2
  have XB := hid (hbx.keep B0.out)
  have BB := hid (But1.refl XB.out)
  unfold tobj at hW0
  unfold Tm.val
  clear hT hF hE hg hgf hge hX hn hbx h0 hmx IH hd hga hgb ht1 ht2 hnod hok1
  rcases i34 with i3 | ⟨i3, i4⟩
  all_goals
    (try unfold nSemi at i3)
    (try unfold nBar at i4)
    go_enter Tryz.func68, Tryz.ntmps68
    go_upto_region 1 with fail
    rw [← hW0]
    clear hW0
    obtain ⟨a0, a1, a2, a3, a4, a5, b0, b1, b2, b3, b4, b5, d0, d1, d2, d3, d4, d5, g0, g1, g2, g3, g4, g5, j0, j1, j2, j3, j4, j5⟩ := SR.out _ BB.out
    go_upto_region 9 with (first
      | (go_at_call 106; (with_reducible refine (CI.out _ _ _).mono ?_); rintro x w2 ⟨rfl, hb2⟩; have BB := hid (BB.out.trans (But1.of_below XB.out hb2)); have XB := hid (XB.out.keep hb2); clear hb2 a0 a1 a2 a3 a4 a5 b0 b1 b2 b3 b4 b5 d0 d1 d2 d3 d4 d5 g0 g1 g2 g3 g4 g5 j0 j1 j2 j3 j4 j5; obtain ⟨a0, a1, a2, a3, a4, a5, b0, b1, b2, b3, b4, b5, d0, d1, d2, d3, d4, d5, g0, g1, g2, g3, g4, g5, j0, j1, j2, j3, j4, j5⟩ := SR.out _ BB.out; first | rw [i1] | rw [i2] | rw [i3] | rw [i4] | rw [i5] | rw [i6] | rw [i7] | rw [i8] | rw [i9] | rw [i10])
      | fail)
    have BD := hid (show But1 bx W0 (World.drew _) from BB.out.trans (But1.of_below XB.out (bl_drew (Below.refl _ _))))
    have XD := hid (show Box1 (World.drew _) bx n from XB.out)
    have sd := SR.out _ BD.out
    clear a0 a1 a2 a3 a4 a5 b0 b1 b2 b3 b4 b5 d0 d1 d2 d3 d4 d5 g0 g1 g2 g3 g4 g5 j0 j1 j2 j3 j4 j5
    refine wp_region_held_drew (S := fun W => W.cell? ⟨w.heap.size, 0, none⟩ = some (.int .i64 t.kind) ∧ W.cell? ⟨w.heap.size, 1, none⟩ = some (.string t.name) ∧ W.cell? ⟨w.heap.size, 2, none⟩ = some (.string t.num) ∧ W.cell? ⟨w.heap.size, 3, none⟩ = some (.int .u64 t.bits) ∧ W.cell? ⟨w.heap.size, 4, none⟩ = some (.int .i64 t.var) ∧ W.cell? ⟨w.heap.size, 5, none⟩ = some (.slice (some ⟨b, o, none⟩) t.args.length c) ∧ W.cell? ⟨w.heap.size + 1, 0, none⟩ = some (.int .i64 f.kind) ∧ W.cell? ⟨w.heap.size + 1, 1, none⟩ = some (.string f.name) ∧ W.cell? ⟨w.heap.size + 1, 2, none⟩ = some (.string f.num) ∧ W.cell? ⟨w.heap.size + 1, 3, none⟩ = some (.int .u64 f.bits) ∧ W.cell? ⟨w.heap.size + 1, 4, none⟩ = some (.int .i64 f.var) ∧ W.cell? ⟨w.heap.size + 1, 5, none⟩ = some (.slice pf f.args.length cf) ∧ W.cell? ⟨w.heap.size + 1 + 1, 0, none⟩ = some (.int .i64 e.kind) ∧ W.cell? ⟨w.heap.size + 1 + 1, 1, none⟩ = some (.string e.name) ∧ W.cell? ⟨w.heap.size + 1 + 1, 2, none⟩ = some (.string e.num) ∧ W.cell? ⟨w.heap.size + 1 + 1, 3, none⟩ = some (.int .u64 e.bits) ∧ W.cell? ⟨w.heap.size + 1 + 1, 4, none⟩ = some (.int .i64 e.var) ∧ W.cell? ⟨w.heap.size + 1 + 1, 5, none⟩ = some (.slice pe e.args.length ce) ∧ W.cell? ⟨b, o, none⟩ = some (.int .i64 a1.kind) ∧ W.cell? ⟨b, o + 1, none⟩ = some (.string a1.name) ∧ W.cell? ⟨b, o + 2, none⟩ = some (.string a1.num) ∧ W.cell? ⟨b, o + 3, none⟩ = some (.int .u64 a1.bits) ∧ W.cell? ⟨b, o + 4, none⟩ = some (.int .i64 a1.var) ∧ W.cell? ⟨b, o + 5, none⟩ = some (.slice q1 a1.args.length c1) ∧ W.cell? ⟨b, o + 6, none⟩ = some (.int .i64 a2.kind) ∧ W.cell? ⟨b, o + 7, none⟩ = some (.string a2.name) ∧ W.cell? ⟨b, o + 8, none⟩ = some (.string a2.num) ∧ W.cell? ⟨b, o + 9, none⟩ = some (.int .u64 a2.bits) ∧ W.cell? ⟨b, o + 10, none⟩ = some (.int .i64 a2.var) ∧ W.cell? ⟨b, o + 11, none⟩ = some (.slice q2 a2.args.length c2)) (by kernel_rfl) sd (fun hHeld => ?_)
    refine' wpAnyH_take (i := 0) (v := (.pointer (some ⟨w.heap.size, 5, none⟩))) rfl (by decide +kernel) (by decide +kernel) (by decide +kernel) (fun _ _ _ h => h) (Or.inl ⟨by rfl, ?_⟩) (by assumption) ?_
    · (intro w5 hSw; (try dsimp only at hSw); go_simp; try with_reducible rfl)
    (try simp only [Act.put, List.setIfInBounds_toArray])
    refine' wpAnyH_take (i := 1) (v := (.slice (some ⟨b, o, none⟩) t.args.length c)) rfl (by decide +kernel) (by decide +kernel) (by decide +kernel) (fun _ _ _ h => h) (Or.inl ⟨by rfl, ?_⟩) (by assumption) ?_
    · (intro w5 hSw; (try dsimp only at hSw); go_simp; try with_reducible rfl)
    (try simp only [Act.put])
    refine' wpAnyH_take (i := 2) (v := (.pointer (some ⟨b, o, none⟩))) rfl (by decide +kernel) (by decide +kernel) (by decide +kernel) (fun _ _ _ h => h) (Or.inl ⟨by rfl, ?_⟩) (by assumption) ?_
    · (intro w5 hSw; (try dsimp only at hSw); go_simp; try with_reducible rfl)
    (try simp only [Act.put])
    refine' wpAnyH_take (i := 3) (v := (.agg #[.int .i64 a1.kind, .string a1.name, .string a1.num, .int .u64 a1.bits, .int .i64 a1.var, .slice q1 a1.args.length c1])) rfl (by decide +kernel) (by decide +kernel) (by decide +kernel) (fun _ _ _ h => h) (Or.inl ⟨by rfl, ?_⟩) (by assumption) ?_
    · (intro w5 hSw; (try dsimp only at hSw); go_simp; try with_reducible rfl)
    (try simp only [Act.put])
    refine' wpAnyH_take (i := 4) (v := (.agg #[.int .i64 f.kind, .string f.name, .string f.num, .int .u64 f.bits, .int .i64 f.var, .slice pf f.args.length cf])) rfl (by decide +kernel) (by decide +kernel) (by decide +kernel) (fun _ _ _ h => h) (Or.inl ⟨by rfl, ?_⟩) (by assumption) ?_
    · (intro w5 hSw; (try dsimp only at hSw); go_simp; try with_reducible rfl)
    (try simp only [Act.put])
    refine' wpAnyH_take (i := 5) (v := (.agg #[.int .i64 e.kind, .string e.name, .string e.num, .int .u64 e.bits, .int .i64 e.var, .slice pe e.args.length ce])) rfl (by decide +kernel) (by decide +kernel) (by decide +kernel) (fun _ _ _ h => h) (Or.inl ⟨by rfl, ?_⟩) (by assumption) ?_
    · (intro w5 hSw; (try dsimp only at hSw); go_simp; try with_reducible rfl)
    (try simp only [Act.put])
    refine' wpAnyH_take (i := 6) (v := (.func (.func 104) #[] #[.pointer (some ⟨bx, 0, none⟩)])) rfl (by decide +kernel) (by decide +kernel) (by decide +kernel) (fun _ _ _ h => h) (Or.inl ⟨by rfl, ?_⟩) (by assumption) ?_
    · (intro w5 hSw; (try dsimp only at hSw); go_simp; try with_reducible rfl)
    (try simp only [Act.put])
    refine' wpAnyH_take (i := 8) (v := (.pointer (some ⟨w.heap.size, 5, none⟩))) rfl (by decide +kernel) (by decide +kernel) (by decide +kernel) (fun _ _ _ h => h) (Or.inl ⟨by rfl, ?_⟩) (by assumption) ?_
    · (intro w5 hSw; (try dsimp only at hSw); go_simp; try with_reducible rfl)
    (try simp only [Act.put])
    refine' wpAnyH_take (i := 9) (v := (.slice (some ⟨b, o, none⟩) t.args.length c)) rfl (by decide +kernel) (by decide +kernel) (by decide +kernel) (fun _ _ _ h => h) (Or.inl ⟨by rfl, ?_⟩) (by assumption) ?_
    · (intro w5 hSw; (try dsimp only at hSw); go_simp; try with_reducible rfl)
    (try simp only [Act.put])
    refine' wpAnyH_take (i := 10) (v := (.pointer (some ⟨b, o + 6, none⟩))) rfl (by decide +kernel) (by decide +kernel) (by decide +kernel) (fun _ _ _ h => h) (Or.inl ⟨by rfl, ?_⟩) (by assumption) ?_
    · (intro w5 hSw; (try dsimp only at hSw); go_simp; try with_reducible rfl)
    (try simp only [Act.put])
    refine' wpAnyH_take (i := 11) (v := (.agg #[.int .i64 a2.kind, .string a2.name, .string a2.num, .int .u64 a2.bits, .int .i64 a2.var, .slice q2 a2.args.length c2])) rfl (by decide +kernel) (by decide +kernel) (by decide +kernel) (fun _ _ _ h => h) (Or.inl ⟨by rfl, ?_⟩) (by assumption) ?_
    · (intro w5 hSw; (try dsimp only at hSw); go_simp; try with_reducible rfl)
    (try simp only [Act.put])
    refine' wpAnyH_take (i := 12) (v := (.agg #[.int .i64 f.kind, .string f.name, .string f.num, .int .u64 f.bits, .int .i64 f.var, .slice pf f.args.length cf])) rfl (by decide +kernel) (by decide +kernel) (by decide +kernel) (fun _ _ _ h => h) (Or.inl ⟨by rfl, ?_⟩) (by assumption) ?_
    · (intro w5 hSw; (try dsimp only at hSw); go_simp; try with_reducible rfl)
    (try simp only [Act.put])
    refine' wpAnyH_take (i := 13) (v := (.agg #[.int .i64 e.kind, .string e.name, .string e.num, .int .u64 e.bits, .int .i64 e.var, .slice pe e.args.length ce])) rfl (by decide +kernel) (by decide +kernel) (by decide +kernel) (fun _ _ _ h => h) (Or.inl ⟨by rfl, ?_⟩) (by assumption) ?_
    · (intro w5 hSw; (try dsimp only at hSw); go_simp; try with_reducible rfl)
    (try simp only [Act.put])
    refine' wpAnyH_take (i := 14) (v := (.func (.func 104) #[] #[.pointer (some ⟨bx, 0, none⟩)])) rfl (by decide +kernel) (by decide +kernel) (by decide +kernel) (fun _ _ _ h => h) (Or.inl ⟨by rfl, ?_⟩) (by assumption) ?_
    · (intro w5 hSw; (try dsimp only at hSw); go_simp; try with_reducible rfl)
    (try simp only [Act.put])
    refine wpAnyH_ready (rs := [7]) (by decide +kernel) (by simp) ?_
    refine AllReadyH.cons rfl (fun K hK => ?_) AllReadyH.nil
    go_simp
    (with_reducible refine (CB.out _ BD.out XD.out).mono ?_)
    rintro x w4 ⟨k, rfl, ht, hb4⟩
    have D4 := hid (BD.out.trans hb4)
    clear hHeld sd hb4
    go_simp
    exact ⟨rfl, k, rfl, ht, N1.out.trans D4.out⟩
set_option maxRecDepth 100000 in
set_option maxHeartbeats 8000000 in
theorem body_alt_ball2 (t f e : Tm) (pf pe : Option Addr) (b o : Nat) (c cf ce : Nat) (bx d : Nat) (n : Int) (w : World) (hT : TmAt w t (some ⟨b, o, none⟩)) (hF : TmAt w f pf) (hE : TmAt w e pe) (hg : Good t) (hgf : Good f) (hge : Good e) (hX : ∀ W, But1 bx w W → Utf W) (hbx : Box1 w bx n) (h0 : 0 ≤ n) (hmx : n + nodes t ≤ 9223372036854775806) (IH : BodyIH bx d) (hd : nodes t ≤ d + 1) (hn : nodes t ≤ 4000) (hk : t.kind ≠ 1) (i1 : isOfT t nComma 2 = false) (i2 : isOfT t nArrow 2 = false) (i34 : isOfT t nSemi 2 = true ∨ (isOfT t nSemi 2 = false ∧ isOfT t nBar 2 = true)) (ga : Tm) (n1 : Int) (bb : Tm) (hok1 : bodyN d (argT t 0) f e n = .ok ga n1) (hok2 : bodyN d (argT t 1) f e n1 = .ball bb) :
    Calls Tryz.prog 68 #[t.val (some ⟨b, o, none⟩) c, f.val pf cf, e.val pe ce, .func (.func 104) #[] #[.pointer (some ⟨bx, 0, none⟩)]] w fun x w' => ∃ k, x = .panicked [{ v := .iface 105 (.pointer (some ⟨k, 0, none⟩)), recovered := false }] ∧ BallAt w' k bb ∧ But1 bx w w' := by
  obtain ⟨W0, hW0, y1, y2, y3, y4, y5, y6⟩ := boxes3 w (tobj t (some ⟨b, o, none⟩) c) (tobj f pf cf) (tobj e pe ce)
  have hs0 := hid y1
  have B0 := hid y2
  have e0 := hid y3
  have e1 := hid y4
  have e2 := hid y5
  have R0 := hid y6
  clear y1 y2 y3 y4 y5 y6
  have CI := hid (show ∀ W s n, Calls Tryz.prog 106 #[.agg #[.int .i64 t.kind, .string t.name, .string t.num, .int .u64 t.bits, .int .i64 t.var, .slice (some ⟨b, o, none⟩) t.args.length c], .string s, .int .i64 n] W fun x w' => x = .returned (.bool (isOfT t s n)) ∧ Below W.heap.size W w' from fun W s n => isOf_any t (some ⟨b, o, none⟩) c s n W (by have := hg.few; unfold maxLen; omega))
  obtain ⟨sind, hs⟩ : ∃ s, isOfT t s 2 = true := by
    rcases i34 with h | h
    · exact ⟨_, h⟩
    · exact ⟨_, h.2⟩
  have hlen := isOfT_len (k := 2) hs
  have hnod := (two_of hg hs).2.2.1
  have h01 : (0 : Int) < (t.args.length : Int) := by omega
  have h02 : 0 < t.args.length := by omega
  have h03 : t.args ≠ [] := List.length_pos_iff.1 h02
  have h04 : (1 : Int) < (t.args.length : Int) := by omega
  have h05 : 1 < t.args.length := by omega
  obtain ⟨b', o', hbo, q1, c1, hs1, ht1⟩ := hT.get 0 h02
  obtain ⟨rfl, rfl⟩ : b = b' ∧ o = o' := by simpa using hbo
  obtain ⟨b', o', hbo, q2, c2, hs2, ht2⟩ := hT.get 1 h05
  obtain ⟨rfl, rfl⟩ : b = b' ∧ o = o' := by simpa using hbo
  have hga := (hg.arg _ (List.getElem_mem h02)).1
  have hgb := (hg.arg _ (List.getElem_mem h05)).1
  rw [argT_get h02, argT_get h05] at hnod
  simp only [argT_get h02, argT_get h05] at *
  generalize t.args[0] = a1 at *
  generalize t.args[1] = a2 at *
  rw [Nat.zero_mul, Nat.add_zero] at hs1
  rw [Nat.one_mul] at hs2
  clear hbo hlen hs sind
  have HX0 := hid hX
  have N1 := hid (But1.of_below hbx B0.out)
  have hn1 := body_occ d a1 f e n ga n1 (by omega) hga hok1
  have hn1' := hn1.1
  have hn1'' := hn1.2.1
  have CB := hid (show ∀ W, But1 bx W0 W → Box1 W bx n → Calls Tryz.prog 68 #[.agg #[.int .i64 a1.kind, .string a1.name, .string a1.num, .int .u64 a1.bits, .int .i64 a1.var, .slice q1 a1.args.length c1], .agg #[.int .i64 f.kind, .string f.name, .string f.num, .int .u64 f.bits, .int .i64 f.var, .slice pf f.args.length cf], .agg #[.int .i64 e.kind, .string e.name, .string e.num, .int .u64 e.bits, .int .i64 e.var, .slice pe e.args.length ce], .func (.func 104) #[] #[.pointer (some ⟨bx, 0, none⟩)]] W fun x w' => ∃ q c', x = .returned (.agg #[.int .i64 ga.kind, .string ga.name, .string ga.num, .int .u64 ga.bits, .int .i64 ga.var, .slice q ga.args.length c']) ∧ TmAt w' ga q ∧ Box1 w' bx n1 ∧ But1 bx W w' from fun W h h2 => by
    have hb := N1.out.trans h
    have hc := IH a1 f e n q1 pf pe c1 cf ce W (by omega) (hb.tm ht1) (hb.tm hF) (hb.tm hE) hga hgf hge (fun W' h' => HX0.out W' (hb.trans h')) (by omega) h2 (by omega) (by omega)
    unfold BodyAt at hc
    rw [hok1] at hc
    exact hc)
  have CC := hid (show ∀ W, But1 bx W0 W → Box1 W bx n1 → Calls Tryz.prog 68 #[.agg #[.int .i64 a2.kind, .string a2.name, .string a2.num, .int .u64 a2.bits, .int .i64 a2.var, .slice q2 a2.args.length c2], .agg #[.int .i64 f.kind, .string f.name, .string f.num, .int .u64 f.bits, .int .i64 f.var, .slice pf f.args.length cf], .agg #[.int .i64 e.kind, .string e.name, .string e.num, .int .u64 e.bits, .int .i64 e.var, .slice pe e.args.length ce], .func (.func 104) #[] #[.pointer (some ⟨bx, 0, none⟩)]] W fun x w' => ∃ k, x = .panicked [{ v := .iface 105 (.pointer (some ⟨k, 0, none⟩)), recovered := false }] ∧ BallAt w' k bb ∧ But1 bx W w' from fun W h h2 => by
    have hb := N1.out.trans h
    have hc := IH a2 f e n1 q2 pf pe c2 cf ce W (by omega) (hb.tm ht2) (hb.tm hF) (hb.tm hE) hgb hgf hge (fun W' h' => HX0.out W' (hb.trans h')) (by omega) h2 (by omega) (by omega)
    unfold BodyAt at hc
    rw [hok2] at hc
    exact hc)
  unfold nComma at i1
  unfold nArrow at i2
  have HT := hid hT
  have HF := hid hF
  have HE := hid hE
  have N0 := hid (But1.of_below hbx B0.out)
  have hbl := hid (lt_of_block hbx)
  have SR := hid (fun (W : World) (h : But1 bx W0 W) => (show W.cell? ⟨w.heap.size, 0, none⟩ = some (.int .i64 t.kind) ∧ W.cell? ⟨w.heap.size, 1, none⟩ = some (.string t.name) ∧ W.cell? ⟨w.heap.size, 2, none⟩ = some (.string t.num) ∧ W.cell? ⟨w.heap.size, 3, none⟩ = some (.int .u64 t.bits) ∧ W.cell? ⟨w.heap.size, 4, none⟩ = some (.int .i64 t.var) ∧ W.cell? ⟨w.heap.size, 5, none⟩ = some (.slice (some ⟨b, o, none⟩) t.args.length c) ∧ W.cell? ⟨w.heap.size + 1, 0, none⟩ = some (.int .i64 f.kind) ∧ W.cell? ⟨w.heap.size + 1, 1, none⟩ = some (.string f.name) ∧ W.cell? ⟨w.heap.size + 1, 2, none⟩ = some (.string f.num) ∧ W.cell? ⟨w.heap.size + 1, 3, none⟩ = some (.int .u64 f.bits) ∧ W.cell? ⟨w.heap.size + 1, 4, none⟩ = some (.int .i64 f.var) ∧ W.cell? ⟨w.heap.size + 1, 5, none⟩ = some (.slice pf f.args.length cf) ∧ W.cell? ⟨w.heap.size + 1 + 1, 0, none⟩ = some (.int .i64 e.kind) ∧ W.cell? ⟨w.heap.size + 1 + 1, 1, none⟩ = some (.string e.name) ∧ W.cell? ⟨w.heap.size + 1 + 1, 2, none⟩ = some (.string e.num) ∧ W.cell? ⟨w.heap.size + 1 + 1, 3, none⟩ = some (.int .u64 e.bits) ∧ W.cell? ⟨w.heap.size + 1 + 1, 4, none⟩ = some (.int .i64 e.var) ∧ W.cell? ⟨w.heap.size + 1 + 1, 5, none⟩ = some (.slice pe e.args.length ce) ∧ W.cell? ⟨b, o, none⟩ = some (.int .i64 a1.kind) ∧ W.cell? ⟨b, o + 1, none⟩ = some (.string a1.name) ∧ W.cell? ⟨b, o + 2, none⟩ = some (.string a1.num) ∧ W.cell? ⟨b, o + 3, none⟩ = some (.int .u64 a1.bits) ∧ W.cell? ⟨b, o + 4, none⟩ = some (.int .i64 a1.var) ∧ W.cell? ⟨b, o + 5, none⟩ = some (.slice q1 a1.args.length c1) ∧ W.cell? ⟨b, o + 6, none⟩ = some (.int .i64 a2.kind) ∧ W.cell? ⟨b, o + 7, none⟩ = some (.string a2.name) ∧ W.cell? ⟨b, o + 8, none⟩ = some (.string a2.num) ∧ W.cell? ⟨b, o + 9, none⟩ = some (.int .u64 a2.bits) ∧ W.cell? ⟨b, o + 10, none⟩ = some (.int .i64 a2.var) ∧ W.cell? ⟨b, o + 11, none⟩ = some (.slice q2 a2.args.length c2) from by
    have hq := hbl.out
    have m0 := six_of (h.obj e0.out (by omega))
    have m1 := six_of (h.obj e1.out (by omega))
    have m2 := six_of (h.obj e2.out (by omega))
    have m := (N0.out.trans h).six hs1
    have m' := (N0.out.trans h).six hs2
    exact ⟨m0.c0, m0.c1, m0.c2, m0.c3, m0.c4, m0.c5, m1.c0, m1.c1, m1.c2, m1.c3, m1.c4, m1.c5, m2.c0, m2.c1, m2.c2, m2.c3, m2.c4, m2.c5, m.c0, m.c1, m.c2, m.c3, m.c4, m.c5, m'.c0, m'.c1, m'.c2, m'.c3, m'.c4, m'.c5⟩))
  clear hs1 hs2
  have XB := hid (hbx.keep B0.out)
  have BB := hid (But1.refl XB.out)
  unfold tobj at hW0
  unfold Tm.val
  clear hT hF hE hg hgf hge hX hn hbx h0 hmx IH hd hga hgb ht1 ht2 hnod hok1 hok2 hn1 hn1' hn1''
  rcases i34 with i3 | ⟨i3, i4⟩
  all_goals
    (try unfold nSemi at i3)
    (try unfold nBar at i4)
    go_enter Tryz.func68, Tryz.ntmps68
    go_upto_region 1 with fail
    rw [← hW0]
    clear hW0
    obtain ⟨a0, a1, a2, a3, a4, a5, b0, b1, b2, b3, b4, b5, d0, d1, d2, d3, d4, d5, g0, g1, g2, g3, g4, g5, j0, j1, j2, j3, j4, j5⟩ := SR.out _ BB.out
    go_upto_region 9 with (first
      | (go_at_call 106; (with_reducible refine (CI.out _ _ _).mono ?_); rintro x w2 ⟨rfl, hb2⟩; have BB := hid (BB.out.trans (But1.of_below XB.out hb2)); have XB := hid (XB.out.keep hb2); clear hb2 a0 a1 a2 a3 a4 a5 b0 b1 b2 b3 b4 b5 d0 d1 d2 d3 d4 d5 g0 g1 g2 g3 g4 g5 j0 j1 j2 j3 j4 j5; obtain ⟨a0, a1, a2, a3, a4, a5, b0, b1, b2, b3, b4, b5, d0, d1, d2, d3, d4, d5, g0, g1, g2, g3, g4, g5, j0, j1, j2, j3, j4, j5⟩ := SR.out _ BB.out; first | rw [i1] | rw [i2] | rw [i3] | rw [i4] | rw [i5] | rw [i6] | rw [i7] | rw [i8] | rw [i9] | rw [i10])
      | fail)
    have BD := hid (show But1 bx W0 (World.drew _) from BB.out.trans (But1.of_below XB.out (bl_drew (Below.refl _ _))))
    have XD := hid (show Box1 (World.drew _) bx n from XB.out)
    have sd := SR.out _ BD.out
    clear a0 a1 a2 a3 a4 a5 b0 b1 b2 b3 b4 b5 d0 d1 d2 d3 d4 d5 g0 g1 g2 g3 g4 g5 j0 j1 j2 j3 j4 j5
    refine wp_region_held_drew (S := fun W => W.cell? ⟨w.heap.size, 0, none⟩ = some (.int .i64 t.kind) ∧ W.cell? ⟨w.heap.size, 1, none⟩ = some (.string t.name) ∧ W.cell? ⟨w.heap.size, 2, none⟩ = some (.string t.num) ∧ W.cell? ⟨w.heap.size, 3, none⟩ = some (.int .u64 t.bits) ∧ W.cell? ⟨w.heap.size, 4, none⟩ = some (.int .i64 t.var) ∧ W.cell? ⟨w.heap.size, 5, none⟩ = some (.slice (some ⟨b, o, none⟩) t.args.length c) ∧ W.cell? ⟨w.heap.size + 1, 0, none⟩ = some (.int .i64 f.kind) ∧ W.cell? ⟨w.heap.size + 1, 1, none⟩ = some (.string f.name) ∧ W.cell? ⟨w.heap.size + 1, 2, none⟩ = some (.string f.num) ∧ W.cell? ⟨w.heap.size + 1, 3, none⟩ = some (.int .u64 f.bits) ∧ W.cell? ⟨w.heap.size + 1, 4, none⟩ = some (.int .i64 f.var) ∧ W.cell? ⟨w.heap.size + 1, 5, none⟩ = some (.slice pf f.args.length cf) ∧ W.cell? ⟨w.heap.size + 1 + 1, 0, none⟩ = some (.int .i64 e.kind) ∧ W.cell? ⟨w.heap.size + 1 + 1, 1, none⟩ = some (.string e.name) ∧ W.cell? ⟨w.heap.size + 1 + 1, 2, none⟩ = some (.string e.num) ∧ W.cell? ⟨w.heap.size + 1 + 1, 3, none⟩ = some (.int .u64 e.bits) ∧ W.cell? ⟨w.heap.size + 1 + 1, 4, none⟩ = some (.int .i64 e.var) ∧ W.cell? ⟨w.heap.size + 1 + 1, 5, none⟩ = some (.slice pe e.args.length ce) ∧ W.cell? ⟨b, o, none⟩ = some (.int .i64 a1.kind) ∧ W.cell? ⟨b, o + 1, none⟩ = some (.string a1.name) ∧ W.cell? ⟨b, o + 2, none⟩ = some (.string a1.num) ∧ W.cell? ⟨b, o + 3, none⟩ = some (.int .u64 a1.bits) ∧ W.cell? ⟨b, o + 4, none⟩ = some (.int .i64 a1.var) ∧ W.cell? ⟨b, o + 5, none⟩ = some (.slice q1 a1.args.length c1) ∧ W.cell? ⟨b, o + 6, none⟩ = some (.int .i64 a2.kind) ∧ W.cell? ⟨b, o + 7, none⟩ = some (.string a2.name) ∧ W.cell? ⟨b, o + 8, none⟩ = some (.string a2.num) ∧ W.cell? ⟨b, o + 9, none⟩ = some (.int .u64 a2.bits) ∧ W.cell? ⟨b, o + 10, none⟩ = some (.int .i64 a2.var) ∧ W.cell? ⟨b, o + 11, none⟩ = some (.slice q2 a2.args.length c2)) (by kernel_rfl) sd (fun hHeld => ?_)
    refine' wpAnyH_take (i := 0) (v := (.pointer (some ⟨w.heap.size, 5, none⟩))) rfl (by decide +kernel) (by decide +kernel) (by decide +kernel) (fun _ _ _ h => h) (Or.inl ⟨by rfl, ?_⟩) (by assumption) ?_
    · (intro w5 hSw; (try dsimp only at hSw); go_simp; try with_reducible rfl)
    (try simp only [Act.put, List.setIfInBounds_toArray])
    refine' wpAnyH_take (i := 1) (v := (.slice (some ⟨b, o, none⟩) t.args.length c)) rfl (by decide +kernel) (by decide +kernel) (by decide +kernel) (fun _ _ _ h => h) (Or.inl ⟨by rfl, ?_⟩) (by assumption) ?_
    · (intro w5 hSw; (try dsimp only at hSw); go_simp; try with_reducible rfl)
    (try simp only [Act.put])
    refine' wpAnyH_take (i := 2) (v := (.pointer (some ⟨b, o, none⟩))) rfl (by decide +kernel) (by decide +kernel) (by decide +kernel) (fun _ _ _ h => h) (Or.inl ⟨by rfl, ?_⟩) (by assumption) ?_
    · (intro w5 hSw; (try dsimp only at hSw); go_simp; try with_reducible rfl)
    (try simp only [Act.put])
    refine' wpAnyH_take (i := 3) (v := (.agg #[.int .i64 a1.kind, .string a1.name, .string a1.num, .int .u64 a1.bits, .int .i64 a1.var, .slice q1 a1.args.length c1])) rfl (by decide +kernel) (by decide +kernel) (by decide +kernel) (fun _ _ _ h => h) (Or.inl ⟨by rfl, ?_⟩) (by assumption) ?_
    · (intro w5 hSw; (try dsimp only at hSw); go_simp; try with_reducible rfl)
    (try simp only [Act.put])
    refine' wpAnyH_take (i := 4) (v := (.agg #[.int .i64 f.kind, .string f.name, .string f.num, .int .u64 f.bits, .int .i64 f.var, .slice pf f.args.length cf])) rfl (by decide +kernel) (by decide +kernel) (by decide +kernel) (fun _ _ _ h => h) (Or.inl ⟨by rfl, ?_⟩) (by assumption) ?_
    · (intro w5 hSw; (try dsimp only at hSw); go_simp; try with_reducible rfl)
    (try simp only [Act.put])
    refine' wpAnyH_take (i := 5) (v := (.agg #[.int .i64 e.kind, .string e.name, .string e.num, .int .u64 e.bits, .int .i64 e.var, .slice pe e.args.length ce])) rfl (by decide +kernel) (by decide +kernel) (by decide +kernel) (fun _ _ _ h => h) (Or.inl ⟨by rfl, ?_⟩) (by assumption) ?_
    · (intro w5 hSw; (try dsimp only at hSw); go_simp; try with_reducible rfl)
    (try simp only [Act.put])
    refine' wpAnyH_take (i := 6) (v := (.func (.func 104) #[] #[.pointer (some ⟨bx, 0, none⟩)])) rfl (by decide +kernel) (by decide +kernel) (by decide +kernel) (fun _ _ _ h => h) (Or.inl ⟨by rfl, ?_⟩) (by assumption) ?_
    · (intro w5 hSw; (try dsimp only at hSw); go_simp; try with_reducible rfl)
    (try simp only [Act.put])
    refine' wpAnyH_take (i := 8) (v := (.pointer (some ⟨w.heap.size, 5, none⟩))) rfl (by decide +kernel) (by decide +kernel) (by decide +kernel) (fun _ _ _ h => h) (Or.inl ⟨by rfl, ?_⟩) (by assumption) ?_
    · (intro w5 hSw; (try dsimp only at hSw); go_simp; try with_reducible rfl)
    (try simp only [Act.put])
    refine' wpAnyH_take (i := 9) (v := (.slice (some ⟨b, o, none⟩) t.args.length c)) rfl (by decide +kernel) (by decide +kernel) (by decide +kernel) (fun _ _ _ h => h) (Or.inl ⟨by rfl, ?_⟩) (by assumption) ?_
    · (intro w5 hSw; (try dsimp only at hSw); go_simp; try with_reducible rfl)
    (try simp only [Act.put])
    refine' wpAnyH_take (i := 10) (v := (.pointer (some ⟨b, o + 6, none⟩))) rfl (by decide +kernel) (by decide +kernel) (by decide +kernel) (fun _ _ _ h => h) (Or.inl ⟨by rfl, ?_⟩) (by assumption) ?_
    · (intro w5 hSw; (try dsimp only at hSw); go_simp; try with_reducible rfl)
    (try simp only [Act.put])
    refine' wpAnyH_take (i := 11) (v := (.agg #[.int .i64 a2.kind, .string a2.name, .string a2.num, .int .u64 a2.bits, .int .i64 a2.var, .slice q2 a2.args.length c2])) rfl (by decide +kernel) (by decide +kernel) (by decide +kernel) (fun _ _ _ h => h) (Or.inl ⟨by rfl, ?_⟩) (by assumption) ?_
    · (intro w5 hSw; (try dsimp only at hSw); go_simp; try with_reducible rfl)
    (try simp only [Act.put])
    refine' wpAnyH_take (i := 12) (v := (.agg #[.int .i64 f.kind, .string f.name, .string f.num, .int .u64 f.bits, .int .i64 f.var, .slice pf f.args.length cf])) rfl (by decide +kernel) (by decide +kernel) (by decide +kernel) (fun _ _ _ h => h) (Or.inl ⟨by rfl, ?_⟩) (by assumption) ?_
    · (intro w5 hSw; (try dsimp only at hSw); go_simp; try with_reducible rfl)
    (try simp only [Act.put])
    refine' wpAnyH_take (i := 13) (v := (.agg #[.int .i64 e.kind, .string e.name, .string e.num, .int .u64 e.bits, .int .i64 e.var, .slice pe e.args.length ce])) rfl (by decide +kernel) (by decide +kernel) (by decide +kernel) (fun _ _ _ h => h) (Or.inl ⟨by rfl, ?_⟩) (by assumption) ?_
    · (intro w5 hSw; (try dsimp only at hSw); go_simp; try with_reducible rfl)
    (try simp only [Act.put])
    refine' wpAnyH_take (i := 14) (v := (.func (.func 104) #[] #[.pointer (some ⟨bx, 0, none⟩)])) rfl (by decide +kernel) (by decide +kernel) (by decide +kernel) (fun _ _ _ h => h) (Or.inl ⟨by rfl, ?_⟩) (by assumption) ?_
    · (intro w5 hSw; (try dsimp only at hSw); go_simp; try with_reducible rfl)
    (try simp only [Act.put])
    refine wpAnyH_ready (rs := [7]) (by decide +kernel) (by simp) ?_
    refine AllReadyH.cons rfl (fun K hK => ?_) AllReadyH.nil
    go_simp
    (with_reducible refine (CB.out _ BD.out XD.out).mono ?_)
    rintro x w4 ⟨qa, ca, rfl, hm4, hx4, hb4⟩
    have D4 := hid (BD.out.trans hb4)
    have X4 := hid hx4
    clear hm4 hx4 hb4
    refine hK.out _ _ (SR.out w4 D4.out) (fun hHeld => ?_)
    clear hK K
    (try simp only [Act.put, List.setIfInBounds_toArray, List.set_cons_zero, List.set_cons_succ])
    refine wpAnyH_ready (rs := [15]) (by decide +kernel) (by simp) ?_
    refine AllReadyH.cons rfl (fun K hK => ?_) AllReadyH.nil
    go_simp
    (with_reducible refine (CC.out _ D4.out X4.out).mono ?_)
    rintro x w6 ⟨k, rfl, ht, hb6⟩
    have D6 := hid (D4.out.trans hb6)
    clear hHeld sd hb6
    go_simp
    exact ⟨rfl, k, rfl, ht, N1.out.trans D6.out⟩
set_option maxRecDepth 100000 in
set_option maxHeartbeats 8000000 in
theorem body_alt_ok (t f e : Tm) (pf pe : Option Addr) (b o : Nat) (c cf ce : Nat) (bx d : Nat) (n : Int) (w : World) (hT : TmAt w t (some ⟨b, o, none⟩)) (hF : TmAt w f pf) (hE : TmAt w e pe) (hg : Good t) (hgf : Good f) (hge : Good e) (hX : ∀ W, But1 bx w W → Utf W) (hbx : Box1 w bx n) (h0 : 0 ≤ n) (hmx : n + nodes t ≤ 9223372036854775806) (IH : BodyIH bx d) (hd : nodes t ≤ d + 1) (hn : nodes t ≤ 4000) (hk : t.kind ≠ 1) (i1 : isOfT t nComma 2 = false) (i2 : isOfT t nArrow 2 = false) (i34 : isOfT t nSemi 2 = true ∨ (isOfT t nSemi 2 = false ∧ isOfT t nBar 2 = true)) (ga gb : Tm) (n1 n2 : Int) (hok1 : bodyN d (argT t 0) f e n = .ok ga n1) (hok2 : bodyN d (argT t 1) f e n1 = .ok gb n2) :
    Calls Tryz.prog 68 #[t.val (some ⟨b, o, none⟩) c, f.val pf cf, e.val pe ce, .func (.func 104) #[] #[.pointer (some ⟨bx, 0, none⟩)]] w fun x w' => ∃ q c', x = .returned ((cT nSemi [ga, gb]).val q c') ∧ TmAt w' (cT nSemi [ga, gb]) q ∧ Box1 w' bx n2 ∧ But1 bx w w' := by
  obtain ⟨W0, hW0, y1, y2, y3, y4, y5, y6⟩ := boxes3 w (tobj t (some ⟨b, o, none⟩) c) (tobj f pf cf) (tobj e pe ce)
  have hs0 := hid y1
  have B0 := hid y2
  have e0 := hid y3
  have e1 := hid y4
  have e2 := hid y5
  have R0 := hid y6
  clear y1 y2 y3 y4 y5 y6
  have CI := hid (show ∀ W s n, Calls Tryz.prog 106 #[.agg #[.int .i64 t.kind, .string t.name, .string t.num, .int .u64 t.bits, .int .i64 t.var, .slice (some ⟨b, o, none⟩) t.args.length c], .string s, .int .i64 n] W fun x w' => x = .returned (.bool (isOfT t s n)) ∧ Below W.heap.size W w' from fun W s n => isOf_any t (some ⟨b, o, none⟩) c s n W (by have := hg.few; unfold maxLen; omega))
  obtain ⟨sind, hs⟩ : ∃ s, isOfT t s 2 = true := by
    rcases i34 with h | h
    · exact ⟨_, h⟩
    · exact ⟨_, h.2⟩
  have hlen := isOfT_len (k := 2) hs
  have hnod := (two_of hg hs).2.2.1
  have h01 : (0 : Int) < (t.args.length : Int) := by omega
  have h02 : 0 < t.args.length := by omega
  have h03 : t.args ≠ [] := List.length_pos_iff.1 h02
  have h04 : (1 : Int) < (t.args.length : Int) := by omega
  have h05 : 1 < t.args.length := by omega
  obtain ⟨b', o', hbo, q1, c1, hs1, ht1⟩ := hT.get 0 h02
  obtain ⟨rfl, rfl⟩ : b = b' ∧ o = o' := by simpa using hbo
  obtain ⟨b', o', hbo, q2, c2, hs2, ht2⟩ := hT.get 1 h05
  obtain ⟨rfl, rfl⟩ : b = b' ∧ o = o' := by simpa using hbo
  have hga := (hg.arg _ (List.getElem_mem h02)).1
  have hgb := (hg.arg _ (List.getElem_mem h05)).1
  rw [argT_get h02, argT_get h05] at hnod
  simp only [argT_get h02, argT_get h05] at *
  generalize t.args[0] = a1 at *
  generalize t.args[1] = a2 at *
  rw [Nat.zero_mul, Nat.add_zero] at hs1
  rw [Nat.one_mul] at hs2
  clear hbo hlen hs sind
  have HX0 := hid hX
  have N1 := hid (But1.of_below hbx B0.out)
  have hn1 := body_occ d a1 f e n ga n1 (by omega) hga hok1
  have hn1' := hn1.1
  have hn1'' := hn1.2.1
  have CB := hid (show ∀ W, But1 bx W0 W → Box1 W bx n → Calls Tryz.prog 68 #[.agg #[.int .i64 a1.kind, .string a1.name, .string a1.num, .int .u64 a1.bits, .int .i64 a1.var, .slice q1 a1.args.length c1], .agg #[.int .i64 f.kind, .string f.name, .string f.num, .int .u64 f.bits, .int .i64 f.var, .slice pf f.args.length cf], .agg #[.int .i64 e.kind, .string e.name, .string e.num, .int .u64 e.bits, .int .i64 e.var, .slice pe e.args.length ce], .func (.func 104) #[] #[.pointer (some ⟨bx, 0, none⟩)]] W fun x w' => ∃ q c', x = .returned (.agg #[.int .i64 ga.kind, .string ga.name, .string ga.num, .int .u64 ga.bits, .int .i64 ga.var, .slice q ga.args.length c']) ∧ TmAt w' ga q ∧ Box1 w' bx n1 ∧ But1 bx W w' from fun W h h2 => by
    have hb := N1.out.trans h
    have hc := IH a1 f e n q1 pf pe c1 cf ce W (by omega) (hb.tm ht1) (hb.tm hF) (hb.tm hE) hga hgf hge (fun W' h' => HX0.out W' (hb.trans h')) (by omega) h2 (by omega) (by omega)
    unfold BodyAt at hc
    rw [hok1] at hc
    exact hc)
  have CC := hid (show ∀ W, But1 bx W0 W → Box1 W bx n1 → Calls Tryz.prog 68 #[.agg #[.int .i64 a2.kind, .string a2.name, .string a2.num, .int .u64 a2.bits, .int .i64 a2.var, .slice q2 a2.args.length c2], .agg #[.int .i64 f.kind, .string f.name, .string f.num, .int .u64 f.bits, .int .i64 f.var, .slice pf f.args.length cf], .agg #[.int .i64 e.kind, .string e.name, .string e.num, .int .u64 e.bits, .int .i64 e.var, .slice pe e.args.length ce], .func (.func 104) #[] #[.pointer (some ⟨bx, 0, none⟩)]] W fun x w' => ∃ q c', x = .returned (.agg #[.int .i64 gb.kind, .string gb.name, .string gb.num, .int .u64 gb.bits, .int .i64 gb.var, .slice q gb.args.length c']) ∧ TmAt w' gb q ∧ Box1 w' bx n2 ∧ But1 bx W w' from fun W h h2 => by
    have hb := N1.out.trans h
    have hc := IH a2 f e n1 q2 pf pe c2 cf ce W (by omega) (hb.tm ht2) (hb.tm hF) (hb.tm hE) hgb hgf hge (fun W' h' => HX0.out W' (hb.trans h')) (by omega) h2 (by omega) (by omega)
    unfold BodyAt at hc
    rw [hok2] at hc
    exact hc)
  have hgga : Good ga := body_good d a1 f e n ga n1 (by omega) hga hgf hge h0 (by omega) hok1
  have hggb : Good gb := body_good d a2 f e n1 gb n2 (by omega) hgb hgf hge (by omega) (by omega) hok2
  obtain ⟨r, hr⟩ : ∃ r, r = cT nSemi [ga, gb] := ⟨_, rfl⟩
  have GR := hid (show Good r by
    rw [hr]
    exact two_good (by decide) (by decide +kernel) hgga hggb)
  have CO := hid (show ∀ W q, Calls Tryz.prog 109 #[.string ⟨#[59]⟩, .slice q 2 2] W fun x w' => x = .returned (.agg #[.int .i64 r.kind, .string r.name, .string r.num, .int .u64 r.bits, .int .i64 r.var, .slice q r.args.length 2]) ∧ Below W.heap.size W w' from fun W q => by rw [hr]; exact of_any nSemi [ga, gb] q 2 W)
  have TY := hid (show ∀ W k qa ca qb cb, W.heap[k]? = some (.cells #[.int .i64 ga.kind, .string ga.name, .string ga.num, .int .u64 ga.bits, .int .i64 ga.var, .slice qa ga.args.length ca, .int .i64 gb.kind, .string gb.name, .string gb.num, .int .u64 gb.bits, .int .i64 gb.var, .slice qb gb.args.length cb] 25 (0, 0)) → TmAt W ga qa → TmAt W gb qb → TmAt W r (some ⟨k, 0, none⟩) from fun W k qa ca qb cb h h2 h3 => by
    rw [hr]
    exact built nSemi [(ga, qa, ca), (gb, qb, cb)] h rfl (by simp) (fun x hx => by
      simp at hx
      rcases hx with rfl | rfl
      · exact h2
      · exact h3))
  rw [← hr]
  clear hr hgga hggb
  unfold nComma at i1
  unfold nArrow at i2
  have HT := hid hT
  have HF := hid hF
  have HE := hid hE
  have N0 := hid (But1.of_below hbx B0.out)
  have hbl := hid (lt_of_block hbx)
  have SR := hid (fun (W : World) (h : But1 bx W0 W) => (show W.cell? ⟨w.heap.size, 0, none⟩ = some (.int .i64 t.kind) ∧ W.cell? ⟨w.heap.size, 1, none⟩ = some (.string t.name) ∧ W.cell? ⟨w.heap.size, 2, none⟩ = some (.string t.num) ∧ W.cell? ⟨w.heap.size, 3, none⟩ = some (.int .u64 t.bits) ∧ W.cell? ⟨w.heap.size, 4, none⟩ = some (.int .i64 t.var) ∧ W.cell? ⟨w.heap.size, 5, none⟩ = some (.slice (some ⟨b, o, none⟩) t.args.length c) ∧ W.cell? ⟨w.heap.size + 1, 0, none⟩ = some (.int .i64 f.kind) ∧ W.cell? ⟨w.heap.size + 1, 1, none⟩ = some (.string f.name) ∧ W.cell? ⟨w.heap.size + 1, 2, none⟩ = some (.string f.num) ∧ W.cell? ⟨w.heap.size + 1, 3, none⟩ = some (.int .u64 f.bits) ∧ W.cell? ⟨w.heap.size + 1, 4, none⟩ = some (.int .i64 f.var) ∧ W.cell? ⟨w.heap.size + 1, 5, none⟩ = some (.slice pf f.args.length cf) ∧ W.cell? ⟨w.heap.size + 1 + 1, 0, none⟩ = some (.int .i64 e.kind) ∧ W.cell? ⟨w.heap.size + 1 + 1, 1, none⟩ = some (.string e.name) ∧ W.cell? ⟨w.heap.size + 1 + 1, 2, none⟩ = some (.string e.num) ∧ W.cell? ⟨w.heap.size + 1 + 1, 3, none⟩ = some (.int .u64 e.bits) ∧ W.cell? ⟨w.heap.size + 1 + 1, 4, none⟩ = some (.int .i64 e.var) ∧ W.cell? ⟨w.heap.size + 1 + 1, 5, none⟩ = some (.slice pe e.args.length ce) ∧ W.cell? ⟨b, o, none⟩ = some (.int .i64 a1.kind) ∧ W.cell? ⟨b, o + 1, none⟩ = some (.string a1.name) ∧ W.cell? ⟨b, o + 2, none⟩ = some (.string a1.num) ∧ W.cell? ⟨b, o + 3, none⟩ = some (.int .u64 a1.bits) ∧ W.cell? ⟨b, o + 4, none⟩ = some (.int .i64 a1.var) ∧ W.cell? ⟨b, o + 5, none⟩ = some (.slice q1 a1.args.length c1) ∧ W.cell? ⟨b, o + 6, none⟩ = some (.int .i64 a2.kind) ∧ W.cell? ⟨b, o + 7, none⟩ = some (.string a2.name) ∧ W.cell? ⟨b, o + 8, none⟩ = some (.string a2.num) ∧ W.cell? ⟨b, o + 9, none⟩ = some (.int .u64 a2.bits) ∧ W.cell? ⟨b, o + 10, none⟩ = some (.int .i64 a2.var) ∧ W.cell? ⟨b, o + 11, none⟩ = some (.slice q2 a2.args.length c2) from by
    have hq := hbl.out
    have m0 := six_of (h.obj e0.out (by omega))
    have m1 := six_of (h.obj e1.out (by omega))
    have m2 := six_of (h.obj e2.out (by omega))
    have m := (N0.out.trans h).six hs1
    have m' := (N0.out.trans h).six hs2
    exact ⟨m0.c0, m0.c1, m0.c2, m0.c3, m0.c4, m0.c5, m1.c0, m1.c1, m1.c2, m1.c3, m1.c4, m1.c5, m2.c0, m2.c1, m2.c2, m2.c3, m2.c4, m2.c5, m.c0, m.c1, m.c2, m.c3, m.c4, m.c5, m'.c0, m'.c1, m'.c2, m'.c3, m'.c4, m'.c5⟩))
  have SS := hid (fun (W : World) (h : But1 bx W0 W) (u0 u1 u2 u3 u4 u5 : Value) => (show (fun W : World => W.cell? ⟨w.heap.size, 0, none⟩ = some (.int .i64 t.kind) ∧ W.cell? ⟨w.heap.size, 1, none⟩ = some (.string t.name) ∧ W.cell? ⟨w.heap.size, 2, none⟩ = some (.string t.num) ∧ W.cell? ⟨w.heap.size, 3, none⟩ = some (.int .u64 t.bits) ∧ W.cell? ⟨w.heap.size, 4, none⟩ = some (.int .i64 t.var) ∧ W.cell? ⟨w.heap.size, 5, none⟩ = some (.slice (some ⟨b, o, none⟩) t.args.length c) ∧ W.cell? ⟨w.heap.size + 1, 0, none⟩ = some (.int .i64 f.kind) ∧ W.cell? ⟨w.heap.size + 1, 1, none⟩ = some (.string f.name) ∧ W.cell? ⟨w.heap.size + 1, 2, none⟩ = some (.string f.num) ∧ W.cell? ⟨w.heap.size + 1, 3, none⟩ = some (.int .u64 f.bits) ∧ W.cell? ⟨w.heap.size + 1, 4, none⟩ = some (.int .i64 f.var) ∧ W.cell? ⟨w.heap.size + 1, 5, none⟩ = some (.slice pf f.args.length cf) ∧ W.cell? ⟨w.heap.size + 1 + 1, 0, none⟩ = some (.int .i64 e.kind) ∧ W.cell? ⟨w.heap.size + 1 + 1, 1, none⟩ = some (.string e.name) ∧ W.cell? ⟨w.heap.size + 1 + 1, 2, none⟩ = some (.string e.num) ∧ W.cell? ⟨w.heap.size + 1 + 1, 3, none⟩ = some (.int .u64 e.bits) ∧ W.cell? ⟨w.heap.size + 1 + 1, 4, none⟩ = some (.int .i64 e.var) ∧ W.cell? ⟨w.heap.size + 1 + 1, 5, none⟩ = some (.slice pe e.args.length ce) ∧ W.cell? ⟨b, o, none⟩ = some (.int .i64 a1.kind) ∧ W.cell? ⟨b, o + 1, none⟩ = some (.string a1.name) ∧ W.cell? ⟨b, o + 2, none⟩ = some (.string a1.num) ∧ W.cell? ⟨b, o + 3, none⟩ = some (.int .u64 a1.bits) ∧ W.cell? ⟨b, o + 4, none⟩ = some (.int .i64 a1.var) ∧ W.cell? ⟨b, o + 5, none⟩ = some (.slice q1 a1.args.length c1) ∧ W.cell? ⟨b, o + 6, none⟩ = some (.int .i64 a2.kind) ∧ W.cell? ⟨b, o + 7, none⟩ = some (.string a2.name) ∧ W.cell? ⟨b, o + 8, none⟩ = some (.string a2.num) ∧ W.cell? ⟨b, o + 9, none⟩ = some (.int .u64 a2.bits) ∧ W.cell? ⟨b, o + 10, none⟩ = some (.int .i64 a2.var) ∧ W.cell? ⟨b, o + 11, none⟩ = some (.slice q2 a2.args.length c2)) ((((((((W.setCell ⟨w.heap.size + 1 + 1 + 1, 0, none⟩ u0).setCell ⟨w.heap.size + 1 + 1 + 1, 1, none⟩ u1).setCell ⟨w.heap.size + 1 + 1 + 1, 2, none⟩ u2).setCell ⟨w.heap.size + 1 + 1 + 1, 3, none⟩ u3).setCell ⟨w.heap.size + 1 + 1 + 1, 4, none⟩ u4).setCell ⟨w.heap.size + 1 + 1 + 1, 5, none⟩ u5))) from by
    have hq := hbl.out
    have hg := set6_grown W (w.heap.size + 1 + 1 + 1) u0 u1 u2 u3 u4 u5
    have k0 := h.obj e0.out (by omega)
    have k1 := h.obj e1.out (by omega)
    have k2 := h.obj e2.out (by omega)
    have m0 := six_of ((hg.block _ (lt_of_block k0) (fun e => by have := Option.some.inj e; omega)).trans k0)
    have m1 := six_of ((hg.block _ (lt_of_block k1) (fun e => by have := Option.some.inj e; omega)).trans k1)
    have m2 := six_of ((hg.block _ (lt_of_block k2) (fun e => by have := Option.some.inj e; omega)).trans k2)
    have hlt : b < w.heap.size := by
      have := World.block_lt_of_cell? w _ hs1.c0
      simpa using this
    have m := ((N0.out.trans h).six hs1).same (hg.block b (Nat.lt_of_lt_of_le hlt (N0.out.trans h).size) (fun e => by have := Option.some.inj e; omega))
    have m' := ((N0.out.trans h).six hs2).same (hg.block b (Nat.lt_of_lt_of_le hlt (N0.out.trans h).size) (fun e => by have := Option.some.inj e; omega))
    exact ⟨m0.c0, m0.c1, m0.c2, m0.c3, m0.c4, m0.c5, m1.c0, m1.c1, m1.c2, m1.c3, m1.c4, m1.c5, m2.c0, m2.c1, m2.c2, m2.c3, m2.c4, m2.c5, m.c0, m.c1, m.c2, m.c3, m.c4, m.c5, m'.c0, m'.c1, m'.c2, m'.c3, m'.c4, m'.c5⟩))
  clear hs1 hs2
  have XB := hid (hbx.keep B0.out)
  have BB := hid (But1.refl XB.out)
  unfold tobj at hW0
  unfold Tm.val
  clear hT hF hE hg hgf hge hX hn hbx h0 hmx IH hd hga hgb ht1 ht2 hnod hok1 hok2 hn1 hn1' hn1''
  rcases i34 with i3 | ⟨i3, i4⟩
  all_goals
    (try unfold nSemi at i3)
    (try unfold nBar at i4)
    go_enter Tryz.func68, Tryz.ntmps68
    go_upto_region 1 with fail
    rw [← hW0]
    clear hW0
    obtain ⟨a0, a1, a2, a3, a4, a5, b0, b1, b2, b3, b4, b5, d0, d1, d2, d3, d4, d5, g0, g1, g2, g3, g4, g5, j0, j1, j2, j3, j4, j5⟩ := SR.out _ BB.out
    go_upto_region 9 with (first
      | (go_at_call 106; (with_reducible refine (CI.out _ _ _).mono ?_); rintro x w2 ⟨rfl, hb2⟩; have BB := hid (BB.out.trans (But1.of_below XB.out hb2)); have XB := hid (XB.out.keep hb2); clear hb2 a0 a1 a2 a3 a4 a5 b0 b1 b2 b3 b4 b5 d0 d1 d2 d3 d4 d5 g0 g1 g2 g3 g4 g5 j0 j1 j2 j3 j4 j5; obtain ⟨a0, a1, a2, a3, a4, a5, b0, b1, b2, b3, b4, b5, d0, d1, d2, d3, d4, d5, g0, g1, g2, g3, g4, g5, j0, j1, j2, j3, j4, j5⟩ := SR.out _ BB.out; first | rw [i1] | rw [i2] | rw [i3] | rw [i4] | rw [i5] | rw [i6] | rw [i7] | rw [i8] | rw [i9] | rw [i10])
      | fail)
    have BD := hid (show But1 bx W0 (World.drew _) from BB.out.trans (But1.of_below XB.out (bl_drew (Below.refl _ _))))
    have XD := hid (show Box1 (World.drew _) bx n from XB.out)
    have sr := SR.out _ BB.out
    clear a0 a1 a2 a3 a4 a5 b0 b1 b2 b3 b4 b5 d0 d1 d2 d3 d4 d5 g0 g1 g2 g3 g4 g5 j0 j1 j2 j3 j4 j5
    go_region_held3 (fun W => W.cell? ⟨w.heap.size, 0, none⟩ = some (.int .i64 t.kind) ∧ W.cell? ⟨w.heap.size, 1, none⟩ = some (.string t.name) ∧ W.cell? ⟨w.heap.size, 2, none⟩ = some (.string t.num) ∧ W.cell? ⟨w.heap.size, 3, none⟩ = some (.int .u64 t.bits) ∧ W.cell? ⟨w.heap.size, 4, none⟩ = some (.int .i64 t.var) ∧ W.cell? ⟨w.heap.size, 5, none⟩ = some (.slice (some ⟨b, o, none⟩) t.args.length c) ∧ W.cell? ⟨w.heap.size + 1, 0, none⟩ = some (.int .i64 f.kind) ∧ W.cell? ⟨w.heap.size + 1, 1, none⟩ = some (.string f.name) ∧ W.cell? ⟨w.heap.size + 1, 2, none⟩ = some (.string f.num) ∧ W.cell? ⟨w.heap.size + 1, 3, none⟩ = some (.int .u64 f.bits) ∧ W.cell? ⟨w.heap.size + 1, 4, none⟩ = some (.int .i64 f.var) ∧ W.cell? ⟨w.heap.size + 1, 5, none⟩ = some (.slice pf f.args.length cf) ∧ W.cell? ⟨w.heap.size + 1 + 1, 0, none⟩ = some (.int .i64 e.kind) ∧ W.cell? ⟨w.heap.size + 1 + 1, 1, none⟩ = some (.string e.name) ∧ W.cell? ⟨w.heap.size + 1 + 1, 2, none⟩ = some (.string e.num) ∧ W.cell? ⟨w.heap.size + 1 + 1, 3, none⟩ = some (.int .u64 e.bits) ∧ W.cell? ⟨w.heap.size + 1 + 1, 4, none⟩ = some (.int .i64 e.var) ∧ W.cell? ⟨w.heap.size + 1 + 1, 5, none⟩ = some (.slice pe e.args.length ce) ∧ W.cell? ⟨b, o, none⟩ = some (.int .i64 a1.kind) ∧ W.cell? ⟨b, o + 1, none⟩ = some (.string a1.name) ∧ W.cell? ⟨b, o + 2, none⟩ = some (.string a1.num) ∧ W.cell? ⟨b, o + 3, none⟩ = some (.int .u64 a1.bits) ∧ W.cell? ⟨b, o + 4, none⟩ = some (.int .i64 a1.var) ∧ W.cell? ⟨b, o + 5, none⟩ = some (.slice q1 a1.args.length c1) ∧ W.cell? ⟨b, o + 6, none⟩ = some (.int .i64 a2.kind) ∧ W.cell? ⟨b, o + 7, none⟩ = some (.string a2.name) ∧ W.cell? ⟨b, o + 8, none⟩ = some (.string a2.num) ∧ W.cell? ⟨b, o + 9, none⟩ = some (.int .u64 a2.bits) ∧ W.cell? ⟨b, o + 10, none⟩ = some (.int .i64 a2.var) ∧ W.cell? ⟨b, o + 11, none⟩ = some (.slice q2 a2.args.length c2))
      (first
        | (with_reducible exact sr)
        | (with_reducible exact SR.out _ BD.out)
        | (with_reducible exact SR.out _ D4.out)
        | (with_reducible exact SS.out _ D4.out _ _ _ _ _ _)
        | (with_reducible exact SR.out _ D6.out)
        | (with_reducible exact SS.out _ D6.out _ _ _ _ _ _)
        | (with_reducible exact SR.out _ D7.out)
        | (with_reducible exact SS.out _ D7.out _ _ _ _ _ _)
        | (with_reducible exact SR.out _ D8.out)
        | (with_reducible exact SS.out _ D8.out _ _ _ _ _ _)
        | fail)
      ((first
        | (go_at_call 68; (with_reducible refine (CB.out _ BD.out XD.out).mono ?_); rintro x w4 ⟨qa, ca, rfl, hm4, hx4, hb4⟩; have D4 := hid (BD.out.trans hb4); have X4 := hid hx4; have M4 := hid hm4; clear hm4 hx4 hb4)
        | (go_at_call 68; (with_reducible refine (CC.out _ D4.out X4.out).mono ?_); rintro x w6 ⟨qb, cb, rfl, hm6, hx6, hb6⟩; have D6 := hid (D4.out.trans hb6); have X6 := hid hx6; have M6 := hid hm6; have M5 := hid (hb6.tm M4.out); clear hm6 hx6 hb6; obtain ⟨W7, hW7⟩ : ∃ W7, W7 = w6.alloc (.cells #[.int .i64 ga.kind, .string ga.name, .string ga.num, .int .u64 ga.bits, .int .i64 ga.var, .slice qa ga.args.length ca, .int .i64 gb.kind, .string gb.name, .string gb.num, .int .u64 gb.bits, .int .i64 gb.var, .slice qb gb.args.length cb] 25) := ⟨_, rfl⟩; have A7 := hid (show Below w6.heap.size w6 W7 by rw [hW7]; exact (Below.refl _ _).alloc (Nat.le_refl _) _); have D7 := hid (show But1 bx W0 (w6.alloc (.cells #[.int .i64 ga.kind, .string ga.name, .string ga.num, .int .u64 ga.bits, .int .i64 ga.var, .slice qa ga.args.length ca, .int .i64 gb.kind, .string gb.name, .string gb.num, .int .u64 gb.bits, .int .i64 gb.var, .slice qb gb.args.length cb] 25)) by rw [← hW7]; exact D6.out.trans (But1.of_below X6.out A7.out)); have X7 := hid (X6.out.keep A7.out); have Y7 := hid (TY.out W7 w6.heap.size qa ca qb cb (by rw [hW7]; exact heap_alloc_new w6 _) (M5.out.keep A7.out) (M6.out.keep A7.out)))
        | (go_at_call 109; rw [← hW7]; (with_reducible refine (CO.out _ _).mono ?_); rintro x w8 ⟨rfl, hb8⟩; have D8 := hid ((show But1 bx W0 W7 by rw [hW7]; exact D7.out).trans (But1.of_below X7.out hb8)); have X9 := hid (X7.out.keep hb8); have M9 := hid (Y7.out.keep hb8); have D9 := hid D8.out; have R9 := hid (D8.out.obj R0.out (by have := hbl.out; omega)); clear hb8; obtain ⟨⟨z0, z1, z2, z3, z4, z5⟩, ⟨f0, f1, f2, f3, f4, f5⟩⟩ := six_free R9.out)
        | fail))
    all_goals
      go_wp2_with fail
      have hq := hbl.out
      have hgr := set6_grown w8 (w.heap.size + 1 + 1 + 1) (.int .i64 r.kind) (.string r.name) (.string r.num) (.int .u64 r.bits) (.int .i64 r.var) (.slice (some ⟨w6.heap.size, 0, none⟩) r.args.length 2)
      have hm' := TmAt.past (b := w.heap.size + 1 + 1 + 1) (t := r) (p := (some ⟨w6.heap.size, 0, none⟩)) (show Blank w8 (w.heap.size + 1 + 1 + 1) from R9.out) (Past.grown hgr) GR.out M9.out
      have hx' : Box1 _ bx n2 := (hgr.block bx (lt_of_block X9.out) (fun e => by have := Option.some.inj e; omega)).trans X9.out
      exact bodyPost_ret (results_tm rfl _ _ (w.heap.size + 1 + 1 + 1) r (some ⟨w6.heap.size, 0, none⟩) 2 (by rfl) (set6 R9.out _ _ _ _ _ _)) rfl ⟨(some ⟨w6.heap.size, 0, none⟩), 2, rfl, hm', hx', ⟨(N0.out.trans D9.out).chg.grown1 hgr (fun x e => .inl (by have := Option.some.inj e; omega)), N0.out.here, ⟨_, hx'⟩⟩⟩
end Go.Proofs.YtiaddfedaikaiaaGreatDoor

namespace Go.Proofs.YtiaddfedaikaiaaGreatDoor
open Go.RowKit

set_option maxRecDepth 100000 in
set_option maxHeartbeats 8000000 in
theorem body_row_ball1 (t f e : Tm) (pf pe : Option Addr) (b o : Nat) (c cf ce : Nat) (bx d : Nat) (n : Int) (w : World) (hT : TmAt w t (some ⟨b, o, none⟩)) (hF : TmAt w f pf) (hE : TmAt w e pe) (hg : Good t) (hgf : Good f) (_hge : Good e) (hX : ∀ W, But1 bx w W → Utf W) (hbx : Box1 w bx n) (h0 : 0 ≤ n) (hmx : n + nodes t ≤ 9223372036854775806) (IH : BodyIH bx d) (hd : nodes t ≤ d + 1) (hn : nodes t ≤ 4000) (hk : t.kind ≠ 1) (i12 : isOfT t nComma 2 = true ∨ (isOfT t nComma 2 = false ∧ isOfT t nArrow 2 = true)) (bb : Tm) (hok1 : bodyN d (argT t 0) f (vrT n) (n + 1) = .ball bb) :
    Calls Tryz.prog 68 #[t.val (some ⟨b, o, none⟩) c, f.val pf cf, e.val pe ce, .func (.func 104) #[] #[.pointer (some ⟨bx, 0, none⟩)]] w fun x w' => ∃ k, x = .panicked [{ v := .iface 105 (.pointer (some ⟨k, 0, none⟩)), recovered := false }] ∧ BallAt w' k bb ∧ But1 bx w w' := by
  obtain ⟨W0, hW0, y1, y2, y3, y4, y5, y6⟩ := boxes3 w (tobj t (some ⟨b, o, none⟩) c) (tobj f pf cf) (tobj e pe ce)
  have hs0 := hid y1
  have B0 := hid y2
  have e0 := hid y3
  have e1 := hid y4
  have e2 := hid y5
  have R0 := hid y6
  clear y1 y2 y3 y4 y5 y6
  have CI := hid (show ∀ W s n, Calls Tryz.prog 106 #[.agg #[.int .i64 t.kind, .string t.name, .string t.num, .int .u64 t.bits, .int .i64 t.var, .slice (some ⟨b, o, none⟩) t.args.length c], .string s, .int .i64 n] W fun x w' => x = .returned (.bool (isOfT t s n)) ∧ Below W.heap.size W w' from fun W s n => isOf_any t (some ⟨b, o, none⟩) c s n W (by have := hg.few; unfold maxLen; omega))
  obtain ⟨sind, hs⟩ : ∃ s, isOfT t s 2 = true := by
    rcases i12 with h | h
    · exact ⟨_, h⟩
    · exact ⟨_, h.2⟩
  have hlen := isOfT_len (k := 2) hs
  have hnod := (two_of hg hs).2.2.1
  have h01 : (0 : Int) < (t.args.length : Int) := by omega
  have h02 : 0 < t.args.length := by omega
  have h03 : t.args ≠ [] := List.length_pos_iff.1 h02
  have h04 : (1 : Int) < (t.args.length : Int) := by omega
  have h05 : 1 < t.args.length := by omega
  obtain ⟨b', o', hbo, q1, c1, hs1, ht1⟩ := hT.get 0 h02
  obtain ⟨rfl, rfl⟩ : b = b' ∧ o = o' := by simpa using hbo
  obtain ⟨b', o', hbo, q2, c2, hs2, ht2⟩ := hT.get 1 h05
  obtain ⟨rfl, rfl⟩ : b = b' ∧ o = o' := by simpa using hbo
  have hga := (hg.arg _ (List.getElem_mem h02)).1
  have hgb := (hg.arg _ (List.getElem_mem h05)).1
  rw [argT_get h02, argT_get h05] at hnod
  simp only [argT_get h02] at *
  generalize t.args[0] = a1 at *
  generalize t.args[1] = a2 at *
  rw [Nat.zero_mul, Nat.add_zero] at hs1
  rw [Nat.one_mul] at hs2
  clear hbo hlen hs sind
  have HX0 := hid hX
  have N1 := hid (But1.of_below hbx B0.out)
  have CF := hid (show ∀ W, Box1 W bx n → Calls Tryz.prog 104 #[.pointer (some ⟨bx, 0, none⟩)] W fun x w' => x = .returned (.agg #[.int .i64 1, .string ⟨#[]⟩, .string ⟨#[]⟩, .int .u64 0, .int .i64 n, .slice none 0 0]) ∧ Box1 w' bx (n + 1) ∧ But1 bx W w' from fun W h => fresh_any bx n W h h0 (by omega))
  have CB := hid (show ∀ W, But1 bx W0 W → Box1 W bx (n + 1) → Calls Tryz.prog 68 #[.agg #[.int .i64 a1.kind, .string a1.name, .string a1.num, .int .u64 a1.bits, .int .i64 a1.var, .slice q1 a1.args.length c1], .agg #[.int .i64 f.kind, .string f.name, .string f.num, .int .u64 f.bits, .int .i64 f.var, .slice pf f.args.length cf], .agg #[.int .i64 1, .string ⟨#[]⟩, .string ⟨#[]⟩, .int .u64 0, .int .i64 n, .slice none 0 0], .func (.func 104) #[] #[.pointer (some ⟨bx, 0, none⟩)]] W fun x w' => ∃ k, x = .panicked [{ v := .iface 105 (.pointer (some ⟨k, 0, none⟩)), recovered := false }] ∧ BallAt w' k bb ∧ But1 bx W w' from fun W h h2 => by
    have hb := N1.out.trans h
    have hc := IH a1 f (vrT n) (n + 1) q1 pf none c1 cf 0 W (by omega) (hb.tm ht1) (hb.tm hF) (leaf_mine W 1 ⟨#[]⟩ ⟨#[]⟩ n).at_ hga hgf (vrT_good h0 (by omega)) (fun W' h' => HX0.out W' (hb.trans h')) (by omega) h2 (by omega) (by omega)
    unfold BodyAt at hc
    rw [hok1] at hc
    exact hc)
  have HT := hid hT
  have HF := hid hF
  have HE := hid hE
  have N0 := hid (But1.of_below hbx B0.out)
  have hbl := hid (lt_of_block hbx)
  have SR := hid (fun (W : World) (h : But1 bx W0 W) => (show W.cell? ⟨w.heap.size, 0, none⟩ = some (.int .i64 t.kind) ∧ W.cell? ⟨w.heap.size, 1, none⟩ = some (.string t.name) ∧ W.cell? ⟨w.heap.size, 2, none⟩ = some (.string t.num) ∧ W.cell? ⟨w.heap.size, 3, none⟩ = some (.int .u64 t.bits) ∧ W.cell? ⟨w.heap.size, 4, none⟩ = some (.int .i64 t.var) ∧ W.cell? ⟨w.heap.size, 5, none⟩ = some (.slice (some ⟨b, o, none⟩) t.args.length c) ∧ W.cell? ⟨w.heap.size + 1, 0, none⟩ = some (.int .i64 f.kind) ∧ W.cell? ⟨w.heap.size + 1, 1, none⟩ = some (.string f.name) ∧ W.cell? ⟨w.heap.size + 1, 2, none⟩ = some (.string f.num) ∧ W.cell? ⟨w.heap.size + 1, 3, none⟩ = some (.int .u64 f.bits) ∧ W.cell? ⟨w.heap.size + 1, 4, none⟩ = some (.int .i64 f.var) ∧ W.cell? ⟨w.heap.size + 1, 5, none⟩ = some (.slice pf f.args.length cf) ∧ W.cell? ⟨w.heap.size + 1 + 1, 0, none⟩ = some (.int .i64 e.kind) ∧ W.cell? ⟨w.heap.size + 1 + 1, 1, none⟩ = some (.string e.name) ∧ W.cell? ⟨w.heap.size + 1 + 1, 2, none⟩ = some (.string e.num) ∧ W.cell? ⟨w.heap.size + 1 + 1, 3, none⟩ = some (.int .u64 e.bits) ∧ W.cell? ⟨w.heap.size + 1 + 1, 4, none⟩ = some (.int .i64 e.var) ∧ W.cell? ⟨w.heap.size + 1 + 1, 5, none⟩ = some (.slice pe e.args.length ce) ∧ W.cell? ⟨b, o, none⟩ = some (.int .i64 a1.kind) ∧ W.cell? ⟨b, o + 1, none⟩ = some (.string a1.name) ∧ W.cell? ⟨b, o + 2, none⟩ = some (.string a1.num) ∧ W.cell? ⟨b, o + 3, none⟩ = some (.int .u64 a1.bits) ∧ W.cell? ⟨b, o + 4, none⟩ = some (.int .i64 a1.var) ∧ W.cell? ⟨b, o + 5, none⟩ = some (.slice q1 a1.args.length c1) ∧ W.cell? ⟨b, o + 6, none⟩ = some (.int .i64 a2.kind) ∧ W.cell? ⟨b, o + 7, none⟩ = some (.string a2.name) ∧ W.cell? ⟨b, o + 8, none⟩ = some (.string a2.num) ∧ W.cell? ⟨b, o + 9, none⟩ = some (.int .u64 a2.bits) ∧ W.cell? ⟨b, o + 10, none⟩ = some (.int .i64 a2.var) ∧ W.cell? ⟨b, o + 11, none⟩ = some (.slice q2 a2.args.length c2) from by
    have hq := hbl.out
    have m0 := six_of (h.obj e0.out (by omega))
    have m1 := six_of (h.obj e1.out (by omega))
    have m2 := six_of (h.obj e2.out (by omega))
    have m := (N0.out.trans h).six hs1
    have m' := (N0.out.trans h).six hs2
    exact ⟨m0.c0, m0.c1, m0.c2, m0.c3, m0.c4, m0.c5, m1.c0, m1.c1, m1.c2, m1.c3, m1.c4, m1.c5, m2.c0, m2.c1, m2.c2, m2.c3, m2.c4, m2.c5, m.c0, m.c1, m.c2, m.c3, m.c4, m.c5, m'.c0, m'.c1, m'.c2, m'.c3, m'.c4, m'.c5⟩))
  clear hs1 hs2
  have XB := hid (hbx.keep B0.out)
  have BB := hid (But1.refl XB.out)
  unfold tobj at hW0
  unfold Tm.val
  clear hT hF hE hg hgf _hge hX hn hbx h0 hmx IH hd hga hgb ht1 ht2 hnod hok1
  rcases i12 with i1 | ⟨i1, i2⟩
  all_goals
    (try unfold nComma at i1)
    (try unfold nArrow at i2)
    go_enter Tryz.func68, Tryz.ntmps68
    go_upto_region 1 with fail
    rw [← hW0]
    clear hW0
    obtain ⟨a0, a1, a2, a3, a4, a5, b0, b1, b2, b3, b4, b5, d0, d1, d2, d3, d4, d5, g0, g1, g2, g3, g4, g5, j0, j1, j2, j3, j4, j5⟩ := SR.out _ BB.out
    go_upto_region 6 with (first
      | (go_at_call 106; (with_reducible refine (CI.out _ _ _).mono ?_); rintro x w2 ⟨rfl, hb2⟩; have BB := hid (BB.out.trans (But1.of_below XB.out hb2)); have XB := hid (XB.out.keep hb2); clear hb2 a0 a1 a2 a3 a4 a5 b0 b1 b2 b3 b4 b5 d0 d1 d2 d3 d4 d5 g0 g1 g2 g3 g4 g5 j0 j1 j2 j3 j4 j5; obtain ⟨a0, a1, a2, a3, a4, a5, b0, b1, b2, b3, b4, b5, d0, d1, d2, d3, d4, d5, g0, g1, g2, g3, g4, g5, j0, j1, j2, j3, j4, j5⟩ := SR.out _ BB.out; first | rw [i1] | rw [i2] | rw [i3] | rw [i4] | rw [i5] | rw [i6] | rw [i7] | rw [i8] | rw [i9] | rw [i10])
      | (go_at_call 104; (with_reducible refine (CF.out _ XB.out).mono ?_); rintro x w3 ⟨rfl, hx3, hb3⟩; have D3 := hid (BB.out.trans hb3); have X3 := hid hx3; clear hx3 hb3 a0 a1 a2 a3 a4 a5 b0 b1 b2 b3 b4 b5 d0 d1 d2 d3 d4 d5 g0 g1 g2 g3 g4 g5 j0 j1 j2 j3 j4 j5; obtain ⟨a0, a1, a2, a3, a4, a5, b0, b1, b2, b3, b4, b5, d0, d1, d2, d3, d4, d5, g0, g1, g2, g3, g4, g5, j0, j1, j2, j3, j4, j5⟩ := SR.out _ D3.out)
      | fail)
    obtain ⟨W5, hW5⟩ : ∃ W5, W5 = w3.alloc (.cells #[.int .i64 1, .string ⟨#[]⟩, .string ⟨#[]⟩, .int .u64 0, .int .i64 n, .slice none 0 0] 25) := ⟨_, rfl⟩
    obtain ⟨kb, hkb⟩ : ∃ kb, kb = w3.heap.size := ⟨_, rfl⟩
    rw [← hW5, ← hkb]
    have A5 := hid (show Below w3.heap.size w3 W5 by rw [hW5]; exact (Below.refl _ _).alloc (Nat.le_refl _) _)
    have D5 := hid (D3.out.trans (But1.of_below X3.out A5.out))
    have X5 := hid (X3.out.keep A5.out)
    have E5 := hid (show W5.heap[kb]? = some (.cells #[.int .i64 1, .string ⟨#[]⟩, .string ⟨#[]⟩, .int .u64 0, .int .i64 n, .slice none 0 0] 25 (0, 0)) by rw [hW5, hkb]; exact heap_alloc_new w3 _)
    have hkq := hid (show bx < kb ∧ w.heap.size + 4 ≤ kb by rw [hkb]; have := D3.out.size; have := hs0.out; have := hbl.out; omega)
    clear hW5 hkb a0 a1 a2 a3 a4 a5 b0 b1 b2 b3 b4 b5 d0 d1 d2 d3 d4 d5 g0 g1 g2 g3 g4 g5 j0 j1 j2 j3 j4 j5
    have SR4 := hid (fun (W : World) (h : But1 bx W5 W) => (show W.cell? ⟨w.heap.size, 0, none⟩ = some (.int .i64 t.kind) ∧ W.cell? ⟨w.heap.size, 1, none⟩ = some (.string t.name) ∧ W.cell? ⟨w.heap.size, 2, none⟩ = some (.string t.num) ∧ W.cell? ⟨w.heap.size, 3, none⟩ = some (.int .u64 t.bits) ∧ W.cell? ⟨w.heap.size, 4, none⟩ = some (.int .i64 t.var) ∧ W.cell? ⟨w.heap.size, 5, none⟩ = some (.slice (some ⟨b, o, none⟩) t.args.length c) ∧ W.cell? ⟨w.heap.size + 1, 0, none⟩ = some (.int .i64 f.kind) ∧ W.cell? ⟨w.heap.size + 1, 1, none⟩ = some (.string f.name) ∧ W.cell? ⟨w.heap.size + 1, 2, none⟩ = some (.string f.num) ∧ W.cell? ⟨w.heap.size + 1, 3, none⟩ = some (.int .u64 f.bits) ∧ W.cell? ⟨w.heap.size + 1, 4, none⟩ = some (.int .i64 f.var) ∧ W.cell? ⟨w.heap.size + 1, 5, none⟩ = some (.slice pf f.args.length cf) ∧ W.cell? ⟨w.heap.size + 1 + 1, 0, none⟩ = some (.int .i64 e.kind) ∧ W.cell? ⟨w.heap.size + 1 + 1, 1, none⟩ = some (.string e.name) ∧ W.cell? ⟨w.heap.size + 1 + 1, 2, none⟩ = some (.string e.num) ∧ W.cell? ⟨w.heap.size + 1 + 1, 3, none⟩ = some (.int .u64 e.bits) ∧ W.cell? ⟨w.heap.size + 1 + 1, 4, none⟩ = some (.int .i64 e.var) ∧ W.cell? ⟨w.heap.size + 1 + 1, 5, none⟩ = some (.slice pe e.args.length ce) ∧ W.cell? ⟨b, o, none⟩ = some (.int .i64 a1.kind) ∧ W.cell? ⟨b, o + 1, none⟩ = some (.string a1.name) ∧ W.cell? ⟨b, o + 2, none⟩ = some (.string a1.num) ∧ W.cell? ⟨b, o + 3, none⟩ = some (.int .u64 a1.bits) ∧ W.cell? ⟨b, o + 4, none⟩ = some (.int .i64 a1.var) ∧ W.cell? ⟨b, o + 5, none⟩ = some (.slice q1 a1.args.length c1) ∧ W.cell? ⟨b, o + 6, none⟩ = some (.int .i64 a2.kind) ∧ W.cell? ⟨b, o + 7, none⟩ = some (.string a2.name) ∧ W.cell? ⟨b, o + 8, none⟩ = some (.string a2.num) ∧ W.cell? ⟨b, o + 9, none⟩ = some (.int .u64 a2.bits) ∧ W.cell? ⟨b, o + 10, none⟩ = some (.int .i64 a2.var) ∧ W.cell? ⟨b, o + 11, none⟩ = some (.slice q2 a2.args.length c2) ∧ W.cell? ⟨kb, 0, none⟩ = some (.int .i64 1) ∧ W.cell? ⟨kb, 1, none⟩ = some (.string ⟨#[]⟩) ∧ W.cell? ⟨kb, 2, none⟩ = some (.string ⟨#[]⟩) ∧ W.cell? ⟨kb, 3, none⟩ = some (.int .u64 0) ∧ W.cell? ⟨kb, 4, none⟩ = some (.int .i64 n) ∧ W.cell? ⟨kb, 5, none⟩ = some (.slice none 0 0) from by
      obtain ⟨a0, a1, a2, a3, a4, a5, b0, b1, b2, b3, b4, b5, d0, d1, d2, d3, d4, d5, g0, g1, g2, g3, g4, g5, j0, j1, j2, j3, j4, j5⟩ := SR.out W (D5.out.trans h)
      obtain ⟨⟨k0, k1, k2, k3, k4, k5⟩, -⟩ := six_free (h.obj E5.out (by have := hkq.out; omega))
      exact ⟨a0, a1, a2, a3, a4, a5, b0, b1, b2, b3, b4, b5, d0, d1, d2, d3, d4, d5, g0, g1, g2, g3, g4, g5, j0, j1, j2, j3, j4, j5, k0, k1, k2, k3, k4, k5⟩))
    have CB5 := hid (fun (W : World) (h : But1 bx W5 W) => CB.out W (D5.out.trans h))
    have BD := hid (show But1 bx W5 W5.drew from But1.of_below X5.out (Below.refl _ _).drew)
    have XD := hid (show Box1 W5.drew bx (n + 1) from X5.out)
    have sd := SR4.out _ BD.out
    refine wp_region_held_drew (S := fun W => W.cell? ⟨w.heap.size, 0, none⟩ = some (.int .i64 t.kind) ∧ W.cell? ⟨w.heap.size, 1, none⟩ = some (.string t.name) ∧ W.cell? ⟨w.heap.size, 2, none⟩ = some (.string t.num) ∧ W.cell? ⟨w.heap.size, 3, none⟩ = some (.int .u64 t.bits) ∧ W.cell? ⟨w.heap.size, 4, none⟩ = some (.int .i64 t.var) ∧ W.cell? ⟨w.heap.size, 5, none⟩ = some (.slice (some ⟨b, o, none⟩) t.args.length c) ∧ W.cell? ⟨w.heap.size + 1, 0, none⟩ = some (.int .i64 f.kind) ∧ W.cell? ⟨w.heap.size + 1, 1, none⟩ = some (.string f.name) ∧ W.cell? ⟨w.heap.size + 1, 2, none⟩ = some (.string f.num) ∧ W.cell? ⟨w.heap.size + 1, 3, none⟩ = some (.int .u64 f.bits) ∧ W.cell? ⟨w.heap.size + 1, 4, none⟩ = some (.int .i64 f.var) ∧ W.cell? ⟨w.heap.size + 1, 5, none⟩ = some (.slice pf f.args.length cf) ∧ W.cell? ⟨w.heap.size + 1 + 1, 0, none⟩ = some (.int .i64 e.kind) ∧ W.cell? ⟨w.heap.size + 1 + 1, 1, none⟩ = some (.string e.name) ∧ W.cell? ⟨w.heap.size + 1 + 1, 2, none⟩ = some (.string e.num) ∧ W.cell? ⟨w.heap.size + 1 + 1, 3, none⟩ = some (.int .u64 e.bits) ∧ W.cell? ⟨w.heap.size + 1 + 1, 4, none⟩ = some (.int .i64 e.var) ∧ W.cell? ⟨w.heap.size + 1 + 1, 5, none⟩ = some (.slice pe e.args.length ce) ∧ W.cell? ⟨b, o, none⟩ = some (.int .i64 a1.kind) ∧ W.cell? ⟨b, o + 1, none⟩ = some (.string a1.name) ∧ W.cell? ⟨b, o + 2, none⟩ = some (.string a1.num) ∧ W.cell? ⟨b, o + 3, none⟩ = some (.int .u64 a1.bits) ∧ W.cell? ⟨b, o + 4, none⟩ = some (.int .i64 a1.var) ∧ W.cell? ⟨b, o + 5, none⟩ = some (.slice q1 a1.args.length c1) ∧ W.cell? ⟨b, o + 6, none⟩ = some (.int .i64 a2.kind) ∧ W.cell? ⟨b, o + 7, none⟩ = some (.string a2.name) ∧ W.cell? ⟨b, o + 8, none⟩ = some (.string a2.num) ∧ W.cell? ⟨b, o + 9, none⟩ = some (.int .u64 a2.bits) ∧ W.cell? ⟨b, o + 10, none⟩ = some (.int .i64 a2.var) ∧ W.cell? ⟨b, o + 11, none⟩ = some (.slice q2 a2.args.length c2) ∧ W.cell? ⟨kb, 0, none⟩ = some (.int .i64 1) ∧ W.cell? ⟨kb, 1, none⟩ = some (.string ⟨#[]⟩) ∧ W.cell? ⟨kb, 2, none⟩ = some (.string ⟨#[]⟩) ∧ W.cell? ⟨kb, 3, none⟩ = some (.int .u64 0) ∧ W.cell? ⟨kb, 4, none⟩ = some (.int .i64 n) ∧ W.cell? ⟨kb, 5, none⟩ = some (.slice none 0 0)) (by kernel_rfl) sd (fun hHeld => ?_)
    refine' wpAnyH_take (i := 0) (v := (.pointer (some ⟨w.heap.size, 1, none⟩))) rfl (by decide +kernel) (by decide +kernel) (by decide +kernel) (fun _ _ _ h => h) (Or.inl ⟨by rfl, ?_⟩) (by assumption) ?_
    · (intro w5 hSw; (try dsimp only at hSw); go_simp; try with_reducible rfl)
    (try simp only [Act.put, List.setIfInBounds_toArray])
    refine' wpAnyH_take (i := 1) (v := (.string t.name)) rfl (by decide +kernel) (by decide +kernel) (by decide +kernel) (fun _ _ _ h => h) (Or.inl ⟨by rfl, ?_⟩) (by assumption) ?_
    · (intro w5 hSw; (try dsimp only at hSw); go_simp; try with_reducible rfl)
    (try simp only [Act.put])
    refine' wpAnyH_take (i := 2) (v := (.pointer (some ⟨w.heap.size, 5, none⟩))) rfl (by decide +kernel) (by decide +kernel) (by decide +kernel) (fun _ _ _ h => h) (Or.inl ⟨by rfl, ?_⟩) (by assumption) ?_
    · (intro w5 hSw; (try dsimp only at hSw); go_simp; try with_reducible rfl)
    (try simp only [Act.put])
    refine' wpAnyH_take (i := 3) (v := (.slice (some ⟨b, o, none⟩) t.args.length c)) rfl (by decide +kernel) (by decide +kernel) (by decide +kernel) (fun _ _ _ h => h) (Or.inl ⟨by rfl, ?_⟩) (by assumption) ?_
    · (intro w5 hSw; (try dsimp only at hSw); go_simp; try with_reducible rfl)
    (try simp only [Act.put])
    refine' wpAnyH_take (i := 4) (v := (.pointer (some ⟨b, o, none⟩))) rfl (by decide +kernel) (by decide +kernel) (by decide +kernel) (fun _ _ _ h => h) (Or.inl ⟨by rfl, ?_⟩) (by assumption) ?_
    · (intro w5 hSw; (try dsimp only at hSw); go_simp; try with_reducible rfl)
    (try simp only [Act.put])
    refine' wpAnyH_take (i := 5) (v := (.agg #[.int .i64 a1.kind, .string a1.name, .string a1.num, .int .u64 a1.bits, .int .i64 a1.var, .slice q1 a1.args.length c1])) rfl (by decide +kernel) (by decide +kernel) (by decide +kernel) (fun _ _ _ h => h) (Or.inl ⟨by rfl, ?_⟩) (by assumption) ?_
    · (intro w5 hSw; (try dsimp only at hSw); go_simp; try with_reducible rfl)
    (try simp only [Act.put])
    refine' wpAnyH_take (i := 6) (v := (.agg #[.int .i64 f.kind, .string f.name, .string f.num, .int .u64 f.bits, .int .i64 f.var, .slice pf f.args.length cf])) rfl (by decide +kernel) (by decide +kernel) (by decide +kernel) (fun _ _ _ h => h) (Or.inl ⟨by rfl, ?_⟩) (by assumption) ?_
    · (intro w5 hSw; (try dsimp only at hSw); go_simp; try with_reducible rfl)
    (try simp only [Act.put])
    refine' wpAnyH_take (i := 7) (v := (.agg #[.int .i64 1, .string ⟨#[]⟩, .string ⟨#[]⟩, .int .u64 0, .int .i64 n, .slice none 0 0])) rfl (by decide +kernel) (by decide +kernel) (by decide +kernel) (fun _ _ _ h => h) (Or.inl ⟨by rfl, ?_⟩) (by assumption) ?_
    · (intro w5 hSw; (try dsimp only at hSw); go_simp; try with_reducible rfl)
    (try simp only [Act.put])
    refine' wpAnyH_take (i := 8) (v := (.func (.func 104) #[] #[.pointer (some ⟨bx, 0, none⟩)])) rfl (by decide +kernel) (by decide +kernel) (by decide +kernel) (fun _ _ _ h => h) (Or.inl ⟨by rfl, ?_⟩) (by assumption) ?_
    · (intro w5 hSw; (try dsimp only at hSw); go_simp; try with_reducible rfl)
    (try simp only [Act.put])
    refine' wpAnyH_take (i := 10) (v := (.pointer (some ⟨w.heap.size, 5, none⟩))) rfl (by decide +kernel) (by decide +kernel) (by decide +kernel) (fun _ _ _ h => h) (Or.inl ⟨by rfl, ?_⟩) (by assumption) ?_
    · (intro w5 hSw; (try dsimp only at hSw); go_simp; try with_reducible rfl)
    (try simp only [Act.put])
    refine' wpAnyH_take (i := 11) (v := (.slice (some ⟨b, o, none⟩) t.args.length c)) rfl (by decide +kernel) (by decide +kernel) (by decide +kernel) (fun _ _ _ h => h) (Or.inl ⟨by rfl, ?_⟩) (by assumption) ?_
    · (intro w5 hSw; (try dsimp only at hSw); go_simp; try with_reducible rfl)
    (try simp only [Act.put])
    refine' wpAnyH_take (i := 12) (v := (.pointer (some ⟨b, o + 6, none⟩))) rfl (by decide +kernel) (by decide +kernel) (by decide +kernel) (fun _ _ _ h => h) (Or.inl ⟨by rfl, ?_⟩) (by assumption) ?_
    · (intro w5 hSw; (try dsimp only at hSw); go_simp; try with_reducible rfl)
    (try simp only [Act.put])
    refine' wpAnyH_take (i := 13) (v := (.agg #[.int .i64 a2.kind, .string a2.name, .string a2.num, .int .u64 a2.bits, .int .i64 a2.var, .slice q2 a2.args.length c2])) rfl (by decide +kernel) (by decide +kernel) (by decide +kernel) (fun _ _ _ h => h) (Or.inl ⟨by rfl, ?_⟩) (by assumption) ?_
    · (intro w5 hSw; (try dsimp only at hSw); go_simp; try with_reducible rfl)
    (try simp only [Act.put])
    refine' wpAnyH_take (i := 14) (v := (.agg #[.int .i64 1, .string ⟨#[]⟩, .string ⟨#[]⟩, .int .u64 0, .int .i64 n, .slice none 0 0])) rfl (by decide +kernel) (by decide +kernel) (by decide +kernel) (fun _ _ _ h => h) (Or.inl ⟨by rfl, ?_⟩) (by assumption) ?_
    · (intro w5 hSw; (try dsimp only at hSw); go_simp; try with_reducible rfl)
    (try simp only [Act.put])
    refine' wpAnyH_take (i := 15) (v := (.agg #[.int .i64 e.kind, .string e.name, .string e.num, .int .u64 e.bits, .int .i64 e.var, .slice pe e.args.length ce])) rfl (by decide +kernel) (by decide +kernel) (by decide +kernel) (fun _ _ _ h => h) (Or.inl ⟨by rfl, ?_⟩) (by assumption) ?_
    · (intro w5 hSw; (try dsimp only at hSw); go_simp; try with_reducible rfl)
    (try simp only [Act.put])
    refine' wpAnyH_take (i := 16) (v := (.func (.func 104) #[] #[.pointer (some ⟨bx, 0, none⟩)])) rfl (by decide +kernel) (by decide +kernel) (by decide +kernel) (fun _ _ _ h => h) (Or.inl ⟨by rfl, ?_⟩) (by assumption) ?_
    · (intro w5 hSw; (try dsimp only at hSw); go_simp; try with_reducible rfl)
    (try simp only [Act.put])
    refine wpAnyH_ready (rs := [9]) (by decide +kernel) (by simp) ?_
    refine AllReadyH.cons rfl (fun K hK => ?_) AllReadyH.nil
    go_simp
    (with_reducible refine (CB5.out _ BD.out XD.out).mono ?_)
    rintro x w4 ⟨k, rfl, ht, hb4⟩
    have D4 := hid (BD.out.trans hb4)
    clear hHeld sd hb4
    go_simp
    exact ⟨rfl, k, rfl, ht, N1.out.trans (D5.out.trans D4.out)⟩
set_option maxRecDepth 100000 in
set_option maxHeartbeats 8000000 in
theorem body_row_ball2 (t f e : Tm) (pf pe : Option Addr) (b o : Nat) (c cf ce : Nat) (bx d : Nat) (n : Int) (w : World) (hT : TmAt w t (some ⟨b, o, none⟩)) (hF : TmAt w f pf) (hE : TmAt w e pe) (hg : Good t) (hgf : Good f) (hge : Good e) (hX : ∀ W, But1 bx w W → Utf W) (hbx : Box1 w bx n) (h0 : 0 ≤ n) (hmx : n + nodes t ≤ 9223372036854775806) (IH : BodyIH bx d) (hd : nodes t ≤ d + 1) (hn : nodes t ≤ 4000) (hk : t.kind ≠ 1) (i12 : isOfT t nComma 2 = true ∨ (isOfT t nComma 2 = false ∧ isOfT t nArrow 2 = true)) (ga : Tm) (n1 : Int) (bb : Tm) (hok1 : bodyN d (argT t 0) f (vrT n) (n + 1) = .ok ga n1) (hok2 : bodyN d (argT t 1) (vrT n) e n1 = .ball bb) :
    Calls Tryz.prog 68 #[t.val (some ⟨b, o, none⟩) c, f.val pf cf, e.val pe ce, .func (.func 104) #[] #[.pointer (some ⟨bx, 0, none⟩)]] w fun x w' => ∃ k, x = .panicked [{ v := .iface 105 (.pointer (some ⟨k, 0, none⟩)), recovered := false }] ∧ BallAt w' k bb ∧ But1 bx w w' := by
  obtain ⟨W0, hW0, y1, y2, y3, y4, y5, y6⟩ := boxes3 w (tobj t (some ⟨b, o, none⟩) c) (tobj f pf cf) (tobj e pe ce)
  have hs0 := hid y1
  have B0 := hid y2
  have e0 := hid y3
  have e1 := hid y4
  have e2 := hid y5
  have R0 := hid y6
  clear y1 y2 y3 y4 y5 y6
  have CI := hid (show ∀ W s n, Calls Tryz.prog 106 #[.agg #[.int .i64 t.kind, .string t.name, .string t.num, .int .u64 t.bits, .int .i64 t.var, .slice (some ⟨b, o, none⟩) t.args.length c], .string s, .int .i64 n] W fun x w' => x = .returned (.bool (isOfT t s n)) ∧ Below W.heap.size W w' from fun W s n => isOf_any t (some ⟨b, o, none⟩) c s n W (by have := hg.few; unfold maxLen; omega))
  obtain ⟨sind, hs⟩ : ∃ s, isOfT t s 2 = true := by
    rcases i12 with h | h
    · exact ⟨_, h⟩
    · exact ⟨_, h.2⟩
  have hlen := isOfT_len (k := 2) hs
  have hnod := (two_of hg hs).2.2.1
  have h01 : (0 : Int) < (t.args.length : Int) := by omega
  have h02 : 0 < t.args.length := by omega
  have h03 : t.args ≠ [] := List.length_pos_iff.1 h02
  have h04 : (1 : Int) < (t.args.length : Int) := by omega
  have h05 : 1 < t.args.length := by omega
  obtain ⟨b', o', hbo, q1, c1, hs1, ht1⟩ := hT.get 0 h02
  obtain ⟨rfl, rfl⟩ : b = b' ∧ o = o' := by simpa using hbo
  obtain ⟨b', o', hbo, q2, c2, hs2, ht2⟩ := hT.get 1 h05
  obtain ⟨rfl, rfl⟩ : b = b' ∧ o = o' := by simpa using hbo
  have hga := (hg.arg _ (List.getElem_mem h02)).1
  have hgb := (hg.arg _ (List.getElem_mem h05)).1
  rw [argT_get h02, argT_get h05] at hnod
  simp only [argT_get h02, argT_get h05] at *
  generalize t.args[0] = a1 at *
  generalize t.args[1] = a2 at *
  rw [Nat.zero_mul, Nat.add_zero] at hs1
  rw [Nat.one_mul] at hs2
  clear hbo hlen hs sind
  have HX0 := hid hX
  have N1 := hid (But1.of_below hbx B0.out)
  have CF := hid (show ∀ W, Box1 W bx n → Calls Tryz.prog 104 #[.pointer (some ⟨bx, 0, none⟩)] W fun x w' => x = .returned (.agg #[.int .i64 1, .string ⟨#[]⟩, .string ⟨#[]⟩, .int .u64 0, .int .i64 n, .slice none 0 0]) ∧ Box1 w' bx (n + 1) ∧ But1 bx W w' from fun W h => fresh_any bx n W h h0 (by omega))
  have hn1 := body_occ d a1 f (vrT n) (n + 1) ga n1 (by omega) hga hok1
  have hn1' := hn1.1
  have hn1'' := hn1.2.1
  have CB := hid (show ∀ W, But1 bx W0 W → Box1 W bx (n + 1) → Calls Tryz.prog 68 #[.agg #[.int .i64 a1.kind, .string a1.name, .string a1.num, .int .u64 a1.bits, .int .i64 a1.var, .slice q1 a1.args.length c1], .agg #[.int .i64 f.kind, .string f.name, .string f.num, .int .u64 f.bits, .int .i64 f.var, .slice pf f.args.length cf], .agg #[.int .i64 1, .string ⟨#[]⟩, .string ⟨#[]⟩, .int .u64 0, .int .i64 n, .slice none 0 0], .func (.func 104) #[] #[.pointer (some ⟨bx, 0, none⟩)]] W fun x w' => ∃ q c', x = .returned (.agg #[.int .i64 ga.kind, .string ga.name, .string ga.num, .int .u64 ga.bits, .int .i64 ga.var, .slice q ga.args.length c']) ∧ TmAt w' ga q ∧ Box1 w' bx n1 ∧ But1 bx W w' from fun W h h2 => by
    have hb := N1.out.trans h
    have hc := IH a1 f (vrT n) (n + 1) q1 pf none c1 cf 0 W (by omega) (hb.tm ht1) (hb.tm hF) (leaf_mine W 1 ⟨#[]⟩ ⟨#[]⟩ n).at_ hga hgf (vrT_good h0 (by omega)) (fun W' h' => HX0.out W' (hb.trans h')) (by omega) h2 (by omega) (by omega)
    unfold BodyAt at hc
    rw [hok1] at hc
    exact hc)
  have CC := hid (show ∀ W, But1 bx W0 W → Box1 W bx n1 → Calls Tryz.prog 68 #[.agg #[.int .i64 a2.kind, .string a2.name, .string a2.num, .int .u64 a2.bits, .int .i64 a2.var, .slice q2 a2.args.length c2], .agg #[.int .i64 1, .string ⟨#[]⟩, .string ⟨#[]⟩, .int .u64 0, .int .i64 n, .slice none 0 0], .agg #[.int .i64 e.kind, .string e.name, .string e.num, .int .u64 e.bits, .int .i64 e.var, .slice pe e.args.length ce], .func (.func 104) #[] #[.pointer (some ⟨bx, 0, none⟩)]] W fun x w' => ∃ k, x = .panicked [{ v := .iface 105 (.pointer (some ⟨k, 0, none⟩)), recovered := false }] ∧ BallAt w' k bb ∧ But1 bx W w' from fun W h h2 => by
    have hb := N1.out.trans h
    have hc := IH a2 (vrT n) e n1 q2 none pe c2 0 ce W (by omega) (hb.tm ht2) (leaf_mine W 1 ⟨#[]⟩ ⟨#[]⟩ n).at_ (hb.tm hE) hgb (vrT_good h0 (by omega)) hge (fun W' h' => HX0.out W' (hb.trans h')) (by omega) h2 (by omega) (by omega)
    unfold BodyAt at hc
    rw [hok2] at hc
    exact hc)
  have HT := hid hT
  have HF := hid hF
  have HE := hid hE
  have N0 := hid (But1.of_below hbx B0.out)
  have hbl := hid (lt_of_block hbx)
  have SR := hid (fun (W : World) (h : But1 bx W0 W) => (show W.cell? ⟨w.heap.size, 0, none⟩ = some (.int .i64 t.kind) ∧ W.cell? ⟨w.heap.size, 1, none⟩ = some (.string t.name) ∧ W.cell? ⟨w.heap.size, 2, none⟩ = some (.string t.num) ∧ W.cell? ⟨w.heap.size, 3, none⟩ = some (.int .u64 t.bits) ∧ W.cell? ⟨w.heap.size, 4, none⟩ = some (.int .i64 t.var) ∧ W.cell? ⟨w.heap.size, 5, none⟩ = some (.slice (some ⟨b, o, none⟩) t.args.length c) ∧ W.cell? ⟨w.heap.size + 1, 0, none⟩ = some (.int .i64 f.kind) ∧ W.cell? ⟨w.heap.size + 1, 1, none⟩ = some (.string f.name) ∧ W.cell? ⟨w.heap.size + 1, 2, none⟩ = some (.string f.num) ∧ W.cell? ⟨w.heap.size + 1, 3, none⟩ = some (.int .u64 f.bits) ∧ W.cell? ⟨w.heap.size + 1, 4, none⟩ = some (.int .i64 f.var) ∧ W.cell? ⟨w.heap.size + 1, 5, none⟩ = some (.slice pf f.args.length cf) ∧ W.cell? ⟨w.heap.size + 1 + 1, 0, none⟩ = some (.int .i64 e.kind) ∧ W.cell? ⟨w.heap.size + 1 + 1, 1, none⟩ = some (.string e.name) ∧ W.cell? ⟨w.heap.size + 1 + 1, 2, none⟩ = some (.string e.num) ∧ W.cell? ⟨w.heap.size + 1 + 1, 3, none⟩ = some (.int .u64 e.bits) ∧ W.cell? ⟨w.heap.size + 1 + 1, 4, none⟩ = some (.int .i64 e.var) ∧ W.cell? ⟨w.heap.size + 1 + 1, 5, none⟩ = some (.slice pe e.args.length ce) ∧ W.cell? ⟨b, o, none⟩ = some (.int .i64 a1.kind) ∧ W.cell? ⟨b, o + 1, none⟩ = some (.string a1.name) ∧ W.cell? ⟨b, o + 2, none⟩ = some (.string a1.num) ∧ W.cell? ⟨b, o + 3, none⟩ = some (.int .u64 a1.bits) ∧ W.cell? ⟨b, o + 4, none⟩ = some (.int .i64 a1.var) ∧ W.cell? ⟨b, o + 5, none⟩ = some (.slice q1 a1.args.length c1) ∧ W.cell? ⟨b, o + 6, none⟩ = some (.int .i64 a2.kind) ∧ W.cell? ⟨b, o + 7, none⟩ = some (.string a2.name) ∧ W.cell? ⟨b, o + 8, none⟩ = some (.string a2.num) ∧ W.cell? ⟨b, o + 9, none⟩ = some (.int .u64 a2.bits) ∧ W.cell? ⟨b, o + 10, none⟩ = some (.int .i64 a2.var) ∧ W.cell? ⟨b, o + 11, none⟩ = some (.slice q2 a2.args.length c2) from by
    have hq := hbl.out
    have m0 := six_of (h.obj e0.out (by omega))
    have m1 := six_of (h.obj e1.out (by omega))
    have m2 := six_of (h.obj e2.out (by omega))
    have m := (N0.out.trans h).six hs1
    have m' := (N0.out.trans h).six hs2
    exact ⟨m0.c0, m0.c1, m0.c2, m0.c3, m0.c4, m0.c5, m1.c0, m1.c1, m1.c2, m1.c3, m1.c4, m1.c5, m2.c0, m2.c1, m2.c2, m2.c3, m2.c4, m2.c5, m.c0, m.c1, m.c2, m.c3, m.c4, m.c5, m'.c0, m'.c1, m'.c2, m'.c3, m'.c4, m'.c5⟩))
  clear hs1 hs2
  have XB := hid (hbx.keep B0.out)
  have BB := hid (But1.refl XB.out)
  unfold tobj at hW0
  unfold Tm.val
  clear hT hF hE hg hgf hge hX hn hbx h0 hmx IH hd hga hgb ht1 ht2 hnod hok1 hok2 hn1 hn1' hn1''
  rcases i12 with i1 | ⟨i1, i2⟩
  all_goals
    (try unfold nComma at i1)
    (try unfold nArrow at i2)
    go_enter Tryz.func68, Tryz.ntmps68
    go_upto_region 1 with fail
    rw [← hW0]
    clear hW0
    obtain ⟨a0, a1, a2, a3, a4, a5, b0, b1, b2, b3, b4, b5, d0, d1, d2, d3, d4, d5, g0, g1, g2, g3, g4, g5, j0, j1, j2, j3, j4, j5⟩ := SR.out _ BB.out
    go_upto_region 6 with (first
      | (go_at_call 106; (with_reducible refine (CI.out _ _ _).mono ?_); rintro x w2 ⟨rfl, hb2⟩; have BB := hid (BB.out.trans (But1.of_below XB.out hb2)); have XB := hid (XB.out.keep hb2); clear hb2 a0 a1 a2 a3 a4 a5 b0 b1 b2 b3 b4 b5 d0 d1 d2 d3 d4 d5 g0 g1 g2 g3 g4 g5 j0 j1 j2 j3 j4 j5; obtain ⟨a0, a1, a2, a3, a4, a5, b0, b1, b2, b3, b4, b5, d0, d1, d2, d3, d4, d5, g0, g1, g2, g3, g4, g5, j0, j1, j2, j3, j4, j5⟩ := SR.out _ BB.out; first | rw [i1] | rw [i2] | rw [i3] | rw [i4] | rw [i5] | rw [i6] | rw [i7] | rw [i8] | rw [i9] | rw [i10])
      | (go_at_call 104; (with_reducible refine (CF.out _ XB.out).mono ?_); rintro x w3 ⟨rfl, hx3, hb3⟩; have D3 := hid (BB.out.trans hb3); have X3 := hid hx3; clear hx3 hb3 a0 a1 a2 a3 a4 a5 b0 b1 b2 b3 b4 b5 d0 d1 d2 d3 d4 d5 g0 g1 g2 g3 g4 g5 j0 j1 j2 j3 j4 j5; obtain ⟨a0, a1, a2, a3, a4, a5, b0, b1, b2, b3, b4, b5, d0, d1, d2, d3, d4, d5, g0, g1, g2, g3, g4, g5, j0, j1, j2, j3, j4, j5⟩ := SR.out _ D3.out)
      | fail)
    obtain ⟨W5, hW5⟩ : ∃ W5, W5 = w3.alloc (.cells #[.int .i64 1, .string ⟨#[]⟩, .string ⟨#[]⟩, .int .u64 0, .int .i64 n, .slice none 0 0] 25) := ⟨_, rfl⟩
    obtain ⟨kb, hkb⟩ : ∃ kb, kb = w3.heap.size := ⟨_, rfl⟩
    rw [← hW5, ← hkb]
    have A5 := hid (show Below w3.heap.size w3 W5 by rw [hW5]; exact (Below.refl _ _).alloc (Nat.le_refl _) _)
    have D5 := hid (D3.out.trans (But1.of_below X3.out A5.out))
    have X5 := hid (X3.out.keep A5.out)
    have E5 := hid (show W5.heap[kb]? = some (.cells #[.int .i64 1, .string ⟨#[]⟩, .string ⟨#[]⟩, .int .u64 0, .int .i64 n, .slice none 0 0] 25 (0, 0)) by rw [hW5, hkb]; exact heap_alloc_new w3 _)
    have hkq := hid (show bx < kb ∧ w.heap.size + 4 ≤ kb by rw [hkb]; have := D3.out.size; have := hs0.out; have := hbl.out; omega)
    clear hW5 hkb a0 a1 a2 a3 a4 a5 b0 b1 b2 b3 b4 b5 d0 d1 d2 d3 d4 d5 g0 g1 g2 g3 g4 g5 j0 j1 j2 j3 j4 j5
    have SR4 := hid (fun (W : World) (h : But1 bx W5 W) => (show W.cell? ⟨w.heap.size, 0, none⟩ = some (.int .i64 t.kind) ∧ W.cell? ⟨w.heap.size, 1, none⟩ = some (.string t.name) ∧ W.cell? ⟨w.heap.size, 2, none⟩ = some (.string t.num) ∧ W.cell? ⟨w.heap.size, 3, none⟩ = some (.int .u64 t.bits) ∧ W.cell? ⟨w.heap.size, 4, none⟩ = some (.int .i64 t.var) ∧ W.cell? ⟨w.heap.size, 5, none⟩ = some (.slice (some ⟨b, o, none⟩) t.args.length c) ∧ W.cell? ⟨w.heap.size + 1, 0, none⟩ = some (.int .i64 f.kind) ∧ W.cell? ⟨w.heap.size + 1, 1, none⟩ = some (.string f.name) ∧ W.cell? ⟨w.heap.size + 1, 2, none⟩ = some (.string f.num) ∧ W.cell? ⟨w.heap.size + 1, 3, none⟩ = some (.int .u64 f.bits) ∧ W.cell? ⟨w.heap.size + 1, 4, none⟩ = some (.int .i64 f.var) ∧ W.cell? ⟨w.heap.size + 1, 5, none⟩ = some (.slice pf f.args.length cf) ∧ W.cell? ⟨w.heap.size + 1 + 1, 0, none⟩ = some (.int .i64 e.kind) ∧ W.cell? ⟨w.heap.size + 1 + 1, 1, none⟩ = some (.string e.name) ∧ W.cell? ⟨w.heap.size + 1 + 1, 2, none⟩ = some (.string e.num) ∧ W.cell? ⟨w.heap.size + 1 + 1, 3, none⟩ = some (.int .u64 e.bits) ∧ W.cell? ⟨w.heap.size + 1 + 1, 4, none⟩ = some (.int .i64 e.var) ∧ W.cell? ⟨w.heap.size + 1 + 1, 5, none⟩ = some (.slice pe e.args.length ce) ∧ W.cell? ⟨b, o, none⟩ = some (.int .i64 a1.kind) ∧ W.cell? ⟨b, o + 1, none⟩ = some (.string a1.name) ∧ W.cell? ⟨b, o + 2, none⟩ = some (.string a1.num) ∧ W.cell? ⟨b, o + 3, none⟩ = some (.int .u64 a1.bits) ∧ W.cell? ⟨b, o + 4, none⟩ = some (.int .i64 a1.var) ∧ W.cell? ⟨b, o + 5, none⟩ = some (.slice q1 a1.args.length c1) ∧ W.cell? ⟨b, o + 6, none⟩ = some (.int .i64 a2.kind) ∧ W.cell? ⟨b, o + 7, none⟩ = some (.string a2.name) ∧ W.cell? ⟨b, o + 8, none⟩ = some (.string a2.num) ∧ W.cell? ⟨b, o + 9, none⟩ = some (.int .u64 a2.bits) ∧ W.cell? ⟨b, o + 10, none⟩ = some (.int .i64 a2.var) ∧ W.cell? ⟨b, o + 11, none⟩ = some (.slice q2 a2.args.length c2) ∧ W.cell? ⟨kb, 0, none⟩ = some (.int .i64 1) ∧ W.cell? ⟨kb, 1, none⟩ = some (.string ⟨#[]⟩) ∧ W.cell? ⟨kb, 2, none⟩ = some (.string ⟨#[]⟩) ∧ W.cell? ⟨kb, 3, none⟩ = some (.int .u64 0) ∧ W.cell? ⟨kb, 4, none⟩ = some (.int .i64 n) ∧ W.cell? ⟨kb, 5, none⟩ = some (.slice none 0 0) from by
      obtain ⟨a0, a1, a2, a3, a4, a5, b0, b1, b2, b3, b4, b5, d0, d1, d2, d3, d4, d5, g0, g1, g2, g3, g4, g5, j0, j1, j2, j3, j4, j5⟩ := SR.out W (D5.out.trans h)
      obtain ⟨⟨k0, k1, k2, k3, k4, k5⟩, -⟩ := six_free (h.obj E5.out (by have := hkq.out; omega))
      exact ⟨a0, a1, a2, a3, a4, a5, b0, b1, b2, b3, b4, b5, d0, d1, d2, d3, d4, d5, g0, g1, g2, g3, g4, g5, j0, j1, j2, j3, j4, j5, k0, k1, k2, k3, k4, k5⟩))
    have CB5 := hid (fun (W : World) (h : But1 bx W5 W) => CB.out W (D5.out.trans h))
    have BD := hid (show But1 bx W5 W5.drew from But1.of_below X5.out (Below.refl _ _).drew)
    have XD := hid (show Box1 W5.drew bx (n + 1) from X5.out)
    have CC5 := hid (fun (W : World) (h : But1 bx W5 W) => CC.out W (D5.out.trans h))
    have sd := SR4.out _ BD.out
    refine wp_region_held_drew (S := fun W => W.cell? ⟨w.heap.size, 0, none⟩ = some (.int .i64 t.kind) ∧ W.cell? ⟨w.heap.size, 1, none⟩ = some (.string t.name) ∧ W.cell? ⟨w.heap.size, 2, none⟩ = some (.string t.num) ∧ W.cell? ⟨w.heap.size, 3, none⟩ = some (.int .u64 t.bits) ∧ W.cell? ⟨w.heap.size, 4, none⟩ = some (.int .i64 t.var) ∧ W.cell? ⟨w.heap.size, 5, none⟩ = some (.slice (some ⟨b, o, none⟩) t.args.length c) ∧ W.cell? ⟨w.heap.size + 1, 0, none⟩ = some (.int .i64 f.kind) ∧ W.cell? ⟨w.heap.size + 1, 1, none⟩ = some (.string f.name) ∧ W.cell? ⟨w.heap.size + 1, 2, none⟩ = some (.string f.num) ∧ W.cell? ⟨w.heap.size + 1, 3, none⟩ = some (.int .u64 f.bits) ∧ W.cell? ⟨w.heap.size + 1, 4, none⟩ = some (.int .i64 f.var) ∧ W.cell? ⟨w.heap.size + 1, 5, none⟩ = some (.slice pf f.args.length cf) ∧ W.cell? ⟨w.heap.size + 1 + 1, 0, none⟩ = some (.int .i64 e.kind) ∧ W.cell? ⟨w.heap.size + 1 + 1, 1, none⟩ = some (.string e.name) ∧ W.cell? ⟨w.heap.size + 1 + 1, 2, none⟩ = some (.string e.num) ∧ W.cell? ⟨w.heap.size + 1 + 1, 3, none⟩ = some (.int .u64 e.bits) ∧ W.cell? ⟨w.heap.size + 1 + 1, 4, none⟩ = some (.int .i64 e.var) ∧ W.cell? ⟨w.heap.size + 1 + 1, 5, none⟩ = some (.slice pe e.args.length ce) ∧ W.cell? ⟨b, o, none⟩ = some (.int .i64 a1.kind) ∧ W.cell? ⟨b, o + 1, none⟩ = some (.string a1.name) ∧ W.cell? ⟨b, o + 2, none⟩ = some (.string a1.num) ∧ W.cell? ⟨b, o + 3, none⟩ = some (.int .u64 a1.bits) ∧ W.cell? ⟨b, o + 4, none⟩ = some (.int .i64 a1.var) ∧ W.cell? ⟨b, o + 5, none⟩ = some (.slice q1 a1.args.length c1) ∧ W.cell? ⟨b, o + 6, none⟩ = some (.int .i64 a2.kind) ∧ W.cell? ⟨b, o + 7, none⟩ = some (.string a2.name) ∧ W.cell? ⟨b, o + 8, none⟩ = some (.string a2.num) ∧ W.cell? ⟨b, o + 9, none⟩ = some (.int .u64 a2.bits) ∧ W.cell? ⟨b, o + 10, none⟩ = some (.int .i64 a2.var) ∧ W.cell? ⟨b, o + 11, none⟩ = some (.slice q2 a2.args.length c2) ∧ W.cell? ⟨kb, 0, none⟩ = some (.int .i64 1) ∧ W.cell? ⟨kb, 1, none⟩ = some (.string ⟨#[]⟩) ∧ W.cell? ⟨kb, 2, none⟩ = some (.string ⟨#[]⟩) ∧ W.cell? ⟨kb, 3, none⟩ = some (.int .u64 0) ∧ W.cell? ⟨kb, 4, none⟩ = some (.int .i64 n) ∧ W.cell? ⟨kb, 5, none⟩ = some (.slice none 0 0)) (by kernel_rfl) sd (fun hHeld => ?_)
    refine' wpAnyH_take (i := 0) (v := (.pointer (some ⟨w.heap.size, 1, none⟩))) rfl (by decide +kernel) (by decide +kernel) (by decide +kernel) (fun _ _ _ h => h) (Or.inl ⟨by rfl, ?_⟩) (by assumption) ?_
    · (intro w5 hSw; (try dsimp only at hSw); go_simp; try with_reducible rfl)
    (try simp only [Act.put, List.setIfInBounds_toArray])
    refine' wpAnyH_take (i := 1) (v := (.string t.name)) rfl (by decide +kernel) (by decide +kernel) (by decide +kernel) (fun _ _ _ h => h) (Or.inl ⟨by rfl, ?_⟩) (by assumption) ?_
    · (intro w5 hSw; (try dsimp only at hSw); go_simp; try with_reducible rfl)
    (try simp only [Act.put])
    refine' wpAnyH_take (i := 2) (v := (.pointer (some ⟨w.heap.size, 5, none⟩))) rfl (by decide +kernel) (by decide +kernel) (by decide +kernel) (fun _ _ _ h => h) (Or.inl ⟨by rfl, ?_⟩) (by assumption) ?_
    · (intro w5 hSw; (try dsimp only at hSw); go_simp; try with_reducible rfl)
    (try simp only [Act.put])
    refine' wpAnyH_take (i := 3) (v := (.slice (some ⟨b, o, none⟩) t.args.length c)) rfl (by decide +kernel) (by decide +kernel) (by decide +kernel) (fun _ _ _ h => h) (Or.inl ⟨by rfl, ?_⟩) (by assumption) ?_
    · (intro w5 hSw; (try dsimp only at hSw); go_simp; try with_reducible rfl)
    (try simp only [Act.put])
    refine' wpAnyH_take (i := 4) (v := (.pointer (some ⟨b, o, none⟩))) rfl (by decide +kernel) (by decide +kernel) (by decide +kernel) (fun _ _ _ h => h) (Or.inl ⟨by rfl, ?_⟩) (by assumption) ?_
    · (intro w5 hSw; (try dsimp only at hSw); go_simp; try with_reducible rfl)
    (try simp only [Act.put])
    refine' wpAnyH_take (i := 5) (v := (.agg #[.int .i64 a1.kind, .string a1.name, .string a1.num, .int .u64 a1.bits, .int .i64 a1.var, .slice q1 a1.args.length c1])) rfl (by decide +kernel) (by decide +kernel) (by decide +kernel) (fun _ _ _ h => h) (Or.inl ⟨by rfl, ?_⟩) (by assumption) ?_
    · (intro w5 hSw; (try dsimp only at hSw); go_simp; try with_reducible rfl)
    (try simp only [Act.put])
    refine' wpAnyH_take (i := 6) (v := (.agg #[.int .i64 f.kind, .string f.name, .string f.num, .int .u64 f.bits, .int .i64 f.var, .slice pf f.args.length cf])) rfl (by decide +kernel) (by decide +kernel) (by decide +kernel) (fun _ _ _ h => h) (Or.inl ⟨by rfl, ?_⟩) (by assumption) ?_
    · (intro w5 hSw; (try dsimp only at hSw); go_simp; try with_reducible rfl)
    (try simp only [Act.put])
    refine' wpAnyH_take (i := 7) (v := (.agg #[.int .i64 1, .string ⟨#[]⟩, .string ⟨#[]⟩, .int .u64 0, .int .i64 n, .slice none 0 0])) rfl (by decide +kernel) (by decide +kernel) (by decide +kernel) (fun _ _ _ h => h) (Or.inl ⟨by rfl, ?_⟩) (by assumption) ?_
    · (intro w5 hSw; (try dsimp only at hSw); go_simp; try with_reducible rfl)
    (try simp only [Act.put])
    refine' wpAnyH_take (i := 8) (v := (.func (.func 104) #[] #[.pointer (some ⟨bx, 0, none⟩)])) rfl (by decide +kernel) (by decide +kernel) (by decide +kernel) (fun _ _ _ h => h) (Or.inl ⟨by rfl, ?_⟩) (by assumption) ?_
    · (intro w5 hSw; (try dsimp only at hSw); go_simp; try with_reducible rfl)
    (try simp only [Act.put])
    refine' wpAnyH_take (i := 10) (v := (.pointer (some ⟨w.heap.size, 5, none⟩))) rfl (by decide +kernel) (by decide +kernel) (by decide +kernel) (fun _ _ _ h => h) (Or.inl ⟨by rfl, ?_⟩) (by assumption) ?_
    · (intro w5 hSw; (try dsimp only at hSw); go_simp; try with_reducible rfl)
    (try simp only [Act.put])
    refine' wpAnyH_take (i := 11) (v := (.slice (some ⟨b, o, none⟩) t.args.length c)) rfl (by decide +kernel) (by decide +kernel) (by decide +kernel) (fun _ _ _ h => h) (Or.inl ⟨by rfl, ?_⟩) (by assumption) ?_
    · (intro w5 hSw; (try dsimp only at hSw); go_simp; try with_reducible rfl)
    (try simp only [Act.put])
    refine' wpAnyH_take (i := 12) (v := (.pointer (some ⟨b, o + 6, none⟩))) rfl (by decide +kernel) (by decide +kernel) (by decide +kernel) (fun _ _ _ h => h) (Or.inl ⟨by rfl, ?_⟩) (by assumption) ?_
    · (intro w5 hSw; (try dsimp only at hSw); go_simp; try with_reducible rfl)
    (try simp only [Act.put])
    refine' wpAnyH_take (i := 13) (v := (.agg #[.int .i64 a2.kind, .string a2.name, .string a2.num, .int .u64 a2.bits, .int .i64 a2.var, .slice q2 a2.args.length c2])) rfl (by decide +kernel) (by decide +kernel) (by decide +kernel) (fun _ _ _ h => h) (Or.inl ⟨by rfl, ?_⟩) (by assumption) ?_
    · (intro w5 hSw; (try dsimp only at hSw); go_simp; try with_reducible rfl)
    (try simp only [Act.put])
    refine' wpAnyH_take (i := 14) (v := (.agg #[.int .i64 1, .string ⟨#[]⟩, .string ⟨#[]⟩, .int .u64 0, .int .i64 n, .slice none 0 0])) rfl (by decide +kernel) (by decide +kernel) (by decide +kernel) (fun _ _ _ h => h) (Or.inl ⟨by rfl, ?_⟩) (by assumption) ?_
    · (intro w5 hSw; (try dsimp only at hSw); go_simp; try with_reducible rfl)
    (try simp only [Act.put])
    refine' wpAnyH_take (i := 15) (v := (.agg #[.int .i64 e.kind, .string e.name, .string e.num, .int .u64 e.bits, .int .i64 e.var, .slice pe e.args.length ce])) rfl (by decide +kernel) (by decide +kernel) (by decide +kernel) (fun _ _ _ h => h) (Or.inl ⟨by rfl, ?_⟩) (by assumption) ?_
    · (intro w5 hSw; (try dsimp only at hSw); go_simp; try with_reducible rfl)
    (try simp only [Act.put])
    refine' wpAnyH_take (i := 16) (v := (.func (.func 104) #[] #[.pointer (some ⟨bx, 0, none⟩)])) rfl (by decide +kernel) (by decide +kernel) (by decide +kernel) (fun _ _ _ h => h) (Or.inl ⟨by rfl, ?_⟩) (by assumption) ?_
    · (intro w5 hSw; (try dsimp only at hSw); go_simp; try with_reducible rfl)
    (try simp only [Act.put])
    refine wpAnyH_ready (rs := [9]) (by decide +kernel) (by simp) ?_
    refine AllReadyH.cons rfl (fun K hK => ?_) AllReadyH.nil
    go_simp
    (with_reducible refine (CB5.out _ BD.out XD.out).mono ?_)
    rintro x w4 ⟨qa, ca, rfl, hm4, hx4, hb4⟩
    have D4 := hid (BD.out.trans hb4)
    have X4 := hid hx4
    clear hm4 hx4 hb4
    refine hK.out _ _ (SR4.out w4 D4.out) (fun hHeld => ?_)
    clear hK K
    (try simp only [Act.put, List.setIfInBounds_toArray, List.set_cons_zero, List.set_cons_succ])
    refine wpAnyH_ready (rs := [17]) (by decide +kernel) (by simp) ?_
    refine AllReadyH.cons rfl (fun K hK => ?_) AllReadyH.nil
    go_simp
    (with_reducible refine (CC5.out _ D4.out X4.out).mono ?_)
    rintro x w6 ⟨k, rfl, ht, hb6⟩
    have D6 := hid (D4.out.trans hb6)
    clear hHeld sd hb6
    go_simp
    exact ⟨rfl, k, rfl, ht, N1.out.trans (D5.out.trans D6.out)⟩
set_option maxRecDepth 100000 in
set_option maxHeartbeats 8000000 in
theorem body_row_ok (t f e : Tm) (pf pe : Option Addr) (b o : Nat) (c cf ce : Nat) (bx d : Nat) (n : Int) (w : World) (hT : TmAt w t (some ⟨b, o, none⟩)) (hF : TmAt w f pf) (hE : TmAt w e pe) (hg : Good t) (hgf : Good f) (hge : Good e) (hX : ∀ W, But1 bx w W → Utf W) (hbx : Box1 w bx n) (h0 : 0 ≤ n) (hmx : n + nodes t ≤ 9223372036854775806) (IH : BodyIH bx d) (hd : nodes t ≤ d + 1) (hn : nodes t ≤ 4000) (hk : t.kind ≠ 1) (i12 : isOfT t nComma 2 = true ∨ (isOfT t nComma 2 = false ∧ isOfT t nArrow 2 = true)) (ga gb : Tm) (n1 n2 : Int) (hok1 : bodyN d (argT t 0) f (vrT n) (n + 1) = .ok ga n1) (hok2 : bodyN d (argT t 1) (vrT n) e n1 = .ok gb n2) :
    Calls Tryz.prog 68 #[t.val (some ⟨b, o, none⟩) c, f.val pf cf, e.val pe ce, .func (.func 104) #[] #[.pointer (some ⟨bx, 0, none⟩)]] w fun x w' => ∃ q c', x = .returned ((cT t.name [ga, gb]).val q c') ∧ TmAt w' (cT t.name [ga, gb]) q ∧ Box1 w' bx n2 ∧ But1 bx w w' := by
  obtain ⟨W0, hW0, y1, y2, y3, y4, y5, y6⟩ := boxes3 w (tobj t (some ⟨b, o, none⟩) c) (tobj f pf cf) (tobj e pe ce)
  have hs0 := hid y1
  have B0 := hid y2
  have e0 := hid y3
  have e1 := hid y4
  have e2 := hid y5
  have R0 := hid y6
  clear y1 y2 y3 y4 y5 y6
  have CI := hid (show ∀ W s n, Calls Tryz.prog 106 #[.agg #[.int .i64 t.kind, .string t.name, .string t.num, .int .u64 t.bits, .int .i64 t.var, .slice (some ⟨b, o, none⟩) t.args.length c], .string s, .int .i64 n] W fun x w' => x = .returned (.bool (isOfT t s n)) ∧ Below W.heap.size W w' from fun W s n => isOf_any t (some ⟨b, o, none⟩) c s n W (by have := hg.few; unfold maxLen; omega))
  obtain ⟨sind, hs⟩ : ∃ s, isOfT t s 2 = true := by
    rcases i12 with h | h
    · exact ⟨_, h⟩
    · exact ⟨_, h.2⟩
  have hlen := isOfT_len (k := 2) hs
  have hnod := (two_of hg hs).2.2.1
  have h01 : (0 : Int) < (t.args.length : Int) := by omega
  have h02 : 0 < t.args.length := by omega
  have h03 : t.args ≠ [] := List.length_pos_iff.1 h02
  have h04 : (1 : Int) < (t.args.length : Int) := by omega
  have h05 : 1 < t.args.length := by omega
  obtain ⟨b', o', hbo, q1, c1, hs1, ht1⟩ := hT.get 0 h02
  obtain ⟨rfl, rfl⟩ : b = b' ∧ o = o' := by simpa using hbo
  obtain ⟨b', o', hbo, q2, c2, hs2, ht2⟩ := hT.get 1 h05
  obtain ⟨rfl, rfl⟩ : b = b' ∧ o = o' := by simpa using hbo
  have hga := (hg.arg _ (List.getElem_mem h02)).1
  have hgb := (hg.arg _ (List.getElem_mem h05)).1
  rw [argT_get h02, argT_get h05] at hnod
  simp only [argT_get h02, argT_get h05] at *
  generalize t.args[0] = a1 at *
  generalize t.args[1] = a2 at *
  rw [Nat.zero_mul, Nat.add_zero] at hs1
  rw [Nat.one_mul] at hs2
  clear hbo hlen hs sind
  have HX0 := hid hX
  have N1 := hid (But1.of_below hbx B0.out)
  have CF := hid (show ∀ W, Box1 W bx n → Calls Tryz.prog 104 #[.pointer (some ⟨bx, 0, none⟩)] W fun x w' => x = .returned (.agg #[.int .i64 1, .string ⟨#[]⟩, .string ⟨#[]⟩, .int .u64 0, .int .i64 n, .slice none 0 0]) ∧ Box1 w' bx (n + 1) ∧ But1 bx W w' from fun W h => fresh_any bx n W h h0 (by omega))
  have hn1 := body_occ d a1 f (vrT n) (n + 1) ga n1 (by omega) hga hok1
  have hn1' := hn1.1
  have hn1'' := hn1.2.1
  have CB := hid (show ∀ W, But1 bx W0 W → Box1 W bx (n + 1) → Calls Tryz.prog 68 #[.agg #[.int .i64 a1.kind, .string a1.name, .string a1.num, .int .u64 a1.bits, .int .i64 a1.var, .slice q1 a1.args.length c1], .agg #[.int .i64 f.kind, .string f.name, .string f.num, .int .u64 f.bits, .int .i64 f.var, .slice pf f.args.length cf], .agg #[.int .i64 1, .string ⟨#[]⟩, .string ⟨#[]⟩, .int .u64 0, .int .i64 n, .slice none 0 0], .func (.func 104) #[] #[.pointer (some ⟨bx, 0, none⟩)]] W fun x w' => ∃ q c', x = .returned (.agg #[.int .i64 ga.kind, .string ga.name, .string ga.num, .int .u64 ga.bits, .int .i64 ga.var, .slice q ga.args.length c']) ∧ TmAt w' ga q ∧ Box1 w' bx n1 ∧ But1 bx W w' from fun W h h2 => by
    have hb := N1.out.trans h
    have hc := IH a1 f (vrT n) (n + 1) q1 pf none c1 cf 0 W (by omega) (hb.tm ht1) (hb.tm hF) (leaf_mine W 1 ⟨#[]⟩ ⟨#[]⟩ n).at_ hga hgf (vrT_good h0 (by omega)) (fun W' h' => HX0.out W' (hb.trans h')) (by omega) h2 (by omega) (by omega)
    unfold BodyAt at hc
    rw [hok1] at hc
    exact hc)
  have CC := hid (show ∀ W, But1 bx W0 W → Box1 W bx n1 → Calls Tryz.prog 68 #[.agg #[.int .i64 a2.kind, .string a2.name, .string a2.num, .int .u64 a2.bits, .int .i64 a2.var, .slice q2 a2.args.length c2], .agg #[.int .i64 1, .string ⟨#[]⟩, .string ⟨#[]⟩, .int .u64 0, .int .i64 n, .slice none 0 0], .agg #[.int .i64 e.kind, .string e.name, .string e.num, .int .u64 e.bits, .int .i64 e.var, .slice pe e.args.length ce], .func (.func 104) #[] #[.pointer (some ⟨bx, 0, none⟩)]] W fun x w' => ∃ q c', x = .returned (.agg #[.int .i64 gb.kind, .string gb.name, .string gb.num, .int .u64 gb.bits, .int .i64 gb.var, .slice q gb.args.length c']) ∧ TmAt w' gb q ∧ Box1 w' bx n2 ∧ But1 bx W w' from fun W h h2 => by
    have hb := N1.out.trans h
    have hc := IH a2 (vrT n) e n1 q2 none pe c2 0 ce W (by omega) (hb.tm ht2) (leaf_mine W 1 ⟨#[]⟩ ⟨#[]⟩ n).at_ (hb.tm hE) hgb (vrT_good h0 (by omega)) hge (fun W' h' => HX0.out W' (hb.trans h')) (by omega) h2 (by omega) (by omega)
    unfold BodyAt at hc
    rw [hok2] at hc
    exact hc)
  have hgga : Good ga := body_good d a1 f (vrT n) (n + 1) ga n1 (by omega) hga hgf (vrT_good h0 (by omega)) (by omega) (by omega) hok1
  have hggb : Good gb := body_good d a2 (vrT n) e n1 gb n2 (by omega) hgb (vrT_good h0 (by omega)) hge (by omega) (by omega) hok2
  obtain ⟨r, hr⟩ : ∃ r, r = cT t.name [ga, gb] := ⟨_, rfl⟩
  have GR := hid (show Good r by
    rw [hr]
    exact two_good hg.nameOk.1 hg.nameOk.2 hgga hggb)
  have CO := hid (show ∀ W q, Calls Tryz.prog 109 #[.string t.name, .slice q 2 2] W fun x w' => x = .returned (.agg #[.int .i64 r.kind, .string r.name, .string r.num, .int .u64 r.bits, .int .i64 r.var, .slice q r.args.length 2]) ∧ Below W.heap.size W w' from fun W q => by rw [hr]; exact of_any t.name [ga, gb] q 2 W)
  have TY := hid (show ∀ W k qa ca qb cb, W.heap[k]? = some (.cells #[.int .i64 ga.kind, .string ga.name, .string ga.num, .int .u64 ga.bits, .int .i64 ga.var, .slice qa ga.args.length ca, .int .i64 gb.kind, .string gb.name, .string gb.num, .int .u64 gb.bits, .int .i64 gb.var, .slice qb gb.args.length cb] 25 (0, 0)) → TmAt W ga qa → TmAt W gb qb → TmAt W r (some ⟨k, 0, none⟩) from fun W k qa ca qb cb h h2 h3 => by
    rw [hr]
    exact built t.name [(ga, qa, ca), (gb, qb, cb)] h rfl (by simp) (fun x hx => by
      simp at hx
      rcases hx with rfl | rfl
      · exact h2
      · exact h3))
  rw [← hr]
  clear hr hgga hggb
  have HT := hid hT
  have HF := hid hF
  have HE := hid hE
  have N0 := hid (But1.of_below hbx B0.out)
  have hbl := hid (lt_of_block hbx)
  have SR := hid (fun (W : World) (h : But1 bx W0 W) => (show W.cell? ⟨w.heap.size, 0, none⟩ = some (.int .i64 t.kind) ∧ W.cell? ⟨w.heap.size, 1, none⟩ = some (.string t.name) ∧ W.cell? ⟨w.heap.size, 2, none⟩ = some (.string t.num) ∧ W.cell? ⟨w.heap.size, 3, none⟩ = some (.int .u64 t.bits) ∧ W.cell? ⟨w.heap.size, 4, none⟩ = some (.int .i64 t.var) ∧ W.cell? ⟨w.heap.size, 5, none⟩ = some (.slice (some ⟨b, o, none⟩) t.args.length c) ∧ W.cell? ⟨w.heap.size + 1, 0, none⟩ = some (.int .i64 f.kind) ∧ W.cell? ⟨w.heap.size + 1, 1, none⟩ = some (.string f.name) ∧ W.cell? ⟨w.heap.size + 1, 2, none⟩ = some (.string f.num) ∧ W.cell? ⟨w.heap.size + 1, 3, none⟩ = some (.int .u64 f.bits) ∧ W.cell? ⟨w.heap.size + 1, 4, none⟩ = some (.int .i64 f.var) ∧ W.cell? ⟨w.heap.size + 1, 5, none⟩ = some (.slice pf f.args.length cf) ∧ W.cell? ⟨w.heap.size + 1 + 1, 0, none⟩ = some (.int .i64 e.kind) ∧ W.cell? ⟨w.heap.size + 1 + 1, 1, none⟩ = some (.string e.name) ∧ W.cell? ⟨w.heap.size + 1 + 1, 2, none⟩ = some (.string e.num) ∧ W.cell? ⟨w.heap.size + 1 + 1, 3, none⟩ = some (.int .u64 e.bits) ∧ W.cell? ⟨w.heap.size + 1 + 1, 4, none⟩ = some (.int .i64 e.var) ∧ W.cell? ⟨w.heap.size + 1 + 1, 5, none⟩ = some (.slice pe e.args.length ce) ∧ W.cell? ⟨b, o, none⟩ = some (.int .i64 a1.kind) ∧ W.cell? ⟨b, o + 1, none⟩ = some (.string a1.name) ∧ W.cell? ⟨b, o + 2, none⟩ = some (.string a1.num) ∧ W.cell? ⟨b, o + 3, none⟩ = some (.int .u64 a1.bits) ∧ W.cell? ⟨b, o + 4, none⟩ = some (.int .i64 a1.var) ∧ W.cell? ⟨b, o + 5, none⟩ = some (.slice q1 a1.args.length c1) ∧ W.cell? ⟨b, o + 6, none⟩ = some (.int .i64 a2.kind) ∧ W.cell? ⟨b, o + 7, none⟩ = some (.string a2.name) ∧ W.cell? ⟨b, o + 8, none⟩ = some (.string a2.num) ∧ W.cell? ⟨b, o + 9, none⟩ = some (.int .u64 a2.bits) ∧ W.cell? ⟨b, o + 10, none⟩ = some (.int .i64 a2.var) ∧ W.cell? ⟨b, o + 11, none⟩ = some (.slice q2 a2.args.length c2) from by
    have hq := hbl.out
    have m0 := six_of (h.obj e0.out (by omega))
    have m1 := six_of (h.obj e1.out (by omega))
    have m2 := six_of (h.obj e2.out (by omega))
    have m := (N0.out.trans h).six hs1
    have m' := (N0.out.trans h).six hs2
    exact ⟨m0.c0, m0.c1, m0.c2, m0.c3, m0.c4, m0.c5, m1.c0, m1.c1, m1.c2, m1.c3, m1.c4, m1.c5, m2.c0, m2.c1, m2.c2, m2.c3, m2.c4, m2.c5, m.c0, m.c1, m.c2, m.c3, m.c4, m.c5, m'.c0, m'.c1, m'.c2, m'.c3, m'.c4, m'.c5⟩))
  have SS := hid (fun (W : World) (h : But1 bx W0 W) (u0 u1 u2 u3 u4 u5 : Value) => (show (fun W : World => W.cell? ⟨w.heap.size, 0, none⟩ = some (.int .i64 t.kind) ∧ W.cell? ⟨w.heap.size, 1, none⟩ = some (.string t.name) ∧ W.cell? ⟨w.heap.size, 2, none⟩ = some (.string t.num) ∧ W.cell? ⟨w.heap.size, 3, none⟩ = some (.int .u64 t.bits) ∧ W.cell? ⟨w.heap.size, 4, none⟩ = some (.int .i64 t.var) ∧ W.cell? ⟨w.heap.size, 5, none⟩ = some (.slice (some ⟨b, o, none⟩) t.args.length c) ∧ W.cell? ⟨w.heap.size + 1, 0, none⟩ = some (.int .i64 f.kind) ∧ W.cell? ⟨w.heap.size + 1, 1, none⟩ = some (.string f.name) ∧ W.cell? ⟨w.heap.size + 1, 2, none⟩ = some (.string f.num) ∧ W.cell? ⟨w.heap.size + 1, 3, none⟩ = some (.int .u64 f.bits) ∧ W.cell? ⟨w.heap.size + 1, 4, none⟩ = some (.int .i64 f.var) ∧ W.cell? ⟨w.heap.size + 1, 5, none⟩ = some (.slice pf f.args.length cf) ∧ W.cell? ⟨w.heap.size + 1 + 1, 0, none⟩ = some (.int .i64 e.kind) ∧ W.cell? ⟨w.heap.size + 1 + 1, 1, none⟩ = some (.string e.name) ∧ W.cell? ⟨w.heap.size + 1 + 1, 2, none⟩ = some (.string e.num) ∧ W.cell? ⟨w.heap.size + 1 + 1, 3, none⟩ = some (.int .u64 e.bits) ∧ W.cell? ⟨w.heap.size + 1 + 1, 4, none⟩ = some (.int .i64 e.var) ∧ W.cell? ⟨w.heap.size + 1 + 1, 5, none⟩ = some (.slice pe e.args.length ce) ∧ W.cell? ⟨b, o, none⟩ = some (.int .i64 a1.kind) ∧ W.cell? ⟨b, o + 1, none⟩ = some (.string a1.name) ∧ W.cell? ⟨b, o + 2, none⟩ = some (.string a1.num) ∧ W.cell? ⟨b, o + 3, none⟩ = some (.int .u64 a1.bits) ∧ W.cell? ⟨b, o + 4, none⟩ = some (.int .i64 a1.var) ∧ W.cell? ⟨b, o + 5, none⟩ = some (.slice q1 a1.args.length c1) ∧ W.cell? ⟨b, o + 6, none⟩ = some (.int .i64 a2.kind) ∧ W.cell? ⟨b, o + 7, none⟩ = some (.string a2.name) ∧ W.cell? ⟨b, o + 8, none⟩ = some (.string a2.num) ∧ W.cell? ⟨b, o + 9, none⟩ = some (.int .u64 a2.bits) ∧ W.cell? ⟨b, o + 10, none⟩ = some (.int .i64 a2.var) ∧ W.cell? ⟨b, o + 11, none⟩ = some (.slice q2 a2.args.length c2)) ((((((((W.setCell ⟨w.heap.size + 1 + 1 + 1, 0, none⟩ u0).setCell ⟨w.heap.size + 1 + 1 + 1, 1, none⟩ u1).setCell ⟨w.heap.size + 1 + 1 + 1, 2, none⟩ u2).setCell ⟨w.heap.size + 1 + 1 + 1, 3, none⟩ u3).setCell ⟨w.heap.size + 1 + 1 + 1, 4, none⟩ u4).setCell ⟨w.heap.size + 1 + 1 + 1, 5, none⟩ u5))) from by
    have hq := hbl.out
    have hg := set6_grown W (w.heap.size + 1 + 1 + 1) u0 u1 u2 u3 u4 u5
    have k0 := h.obj e0.out (by omega)
    have k1 := h.obj e1.out (by omega)
    have k2 := h.obj e2.out (by omega)
    have m0 := six_of ((hg.block _ (lt_of_block k0) (fun e => by have := Option.some.inj e; omega)).trans k0)
    have m1 := six_of ((hg.block _ (lt_of_block k1) (fun e => by have := Option.some.inj e; omega)).trans k1)
    have m2 := six_of ((hg.block _ (lt_of_block k2) (fun e => by have := Option.some.inj e; omega)).trans k2)
    have hlt : b < w.heap.size := by
      have := World.block_lt_of_cell? w _ hs1.c0
      simpa using this
    have m := ((N0.out.trans h).six hs1).same (hg.block b (Nat.lt_of_lt_of_le hlt (N0.out.trans h).size) (fun e => by have := Option.some.inj e; omega))
    have m' := ((N0.out.trans h).six hs2).same (hg.block b (Nat.lt_of_lt_of_le hlt (N0.out.trans h).size) (fun e => by have := Option.some.inj e; omega))
    exact ⟨m0.c0, m0.c1, m0.c2, m0.c3, m0.c4, m0.c5, m1.c0, m1.c1, m1.c2, m1.c3, m1.c4, m1.c5, m2.c0, m2.c1, m2.c2, m2.c3, m2.c4, m2.c5, m.c0, m.c1, m.c2, m.c3, m.c4, m.c5, m'.c0, m'.c1, m'.c2, m'.c3, m'.c4, m'.c5⟩))
  clear hs1 hs2
  have XB := hid (hbx.keep B0.out)
  have BB := hid (But1.refl XB.out)
  unfold tobj at hW0
  unfold Tm.val
  clear hT hF hE hg hgf hge hX hn hbx h0 hmx IH hd hga hgb ht1 ht2 hnod hok1 hok2 hn1 hn1' hn1''
  rcases i12 with i1 | ⟨i1, i2⟩
  all_goals
    (try unfold nComma at i1)
    (try unfold nArrow at i2)
    go_enter Tryz.func68, Tryz.ntmps68
    go_upto_region 1 with fail
    rw [← hW0]
    clear hW0
    obtain ⟨a0, a1, a2, a3, a4, a5, b0, b1, b2, b3, b4, b5, d0, d1, d2, d3, d4, d5, g0, g1, g2, g3, g4, g5, j0, j1, j2, j3, j4, j5⟩ := SR.out _ BB.out
    go_upto_region 6 with (first
      | (go_at_call 106; (with_reducible refine (CI.out _ _ _).mono ?_); rintro x w2 ⟨rfl, hb2⟩; have BB := hid (BB.out.trans (But1.of_below XB.out hb2)); have XB := hid (XB.out.keep hb2); clear hb2 a0 a1 a2 a3 a4 a5 b0 b1 b2 b3 b4 b5 d0 d1 d2 d3 d4 d5 g0 g1 g2 g3 g4 g5 j0 j1 j2 j3 j4 j5; obtain ⟨a0, a1, a2, a3, a4, a5, b0, b1, b2, b3, b4, b5, d0, d1, d2, d3, d4, d5, g0, g1, g2, g3, g4, g5, j0, j1, j2, j3, j4, j5⟩ := SR.out _ BB.out; first | rw [i1] | rw [i2] | rw [i3] | rw [i4] | rw [i5] | rw [i6] | rw [i7] | rw [i8] | rw [i9] | rw [i10])
      | (go_at_call 104; (with_reducible refine (CF.out _ XB.out).mono ?_); rintro x w3 ⟨rfl, hx3, hb3⟩; have D3 := hid (BB.out.trans hb3); have X3 := hid hx3; clear hx3 hb3 a0 a1 a2 a3 a4 a5 b0 b1 b2 b3 b4 b5 d0 d1 d2 d3 d4 d5 g0 g1 g2 g3 g4 g5 j0 j1 j2 j3 j4 j5; obtain ⟨a0, a1, a2, a3, a4, a5, b0, b1, b2, b3, b4, b5, d0, d1, d2, d3, d4, d5, g0, g1, g2, g3, g4, g5, j0, j1, j2, j3, j4, j5⟩ := SR.out _ D3.out)
      | fail)
    obtain ⟨W5, hW5⟩ : ∃ W5, W5 = w3.alloc (.cells #[.int .i64 1, .string ⟨#[]⟩, .string ⟨#[]⟩, .int .u64 0, .int .i64 n, .slice none 0 0] 25) := ⟨_, rfl⟩
    obtain ⟨kb, hkb⟩ : ∃ kb, kb = w3.heap.size := ⟨_, rfl⟩
    rw [← hW5, ← hkb]
    have A5 := hid (show Below w3.heap.size w3 W5 by rw [hW5]; exact (Below.refl _ _).alloc (Nat.le_refl _) _)
    have D5 := hid (D3.out.trans (But1.of_below X3.out A5.out))
    have X5 := hid (X3.out.keep A5.out)
    have E5 := hid (show W5.heap[kb]? = some (.cells #[.int .i64 1, .string ⟨#[]⟩, .string ⟨#[]⟩, .int .u64 0, .int .i64 n, .slice none 0 0] 25 (0, 0)) by rw [hW5, hkb]; exact heap_alloc_new w3 _)
    have hkq := hid (show bx < kb ∧ w.heap.size + 4 ≤ kb by rw [hkb]; have := D3.out.size; have := hs0.out; have := hbl.out; omega)
    clear hW5 hkb a0 a1 a2 a3 a4 a5 b0 b1 b2 b3 b4 b5 d0 d1 d2 d3 d4 d5 g0 g1 g2 g3 g4 g5 j0 j1 j2 j3 j4 j5
    have SR4 := hid (fun (W : World) (h : But1 bx W5 W) => (show W.cell? ⟨w.heap.size, 0, none⟩ = some (.int .i64 t.kind) ∧ W.cell? ⟨w.heap.size, 1, none⟩ = some (.string t.name) ∧ W.cell? ⟨w.heap.size, 2, none⟩ = some (.string t.num) ∧ W.cell? ⟨w.heap.size, 3, none⟩ = some (.int .u64 t.bits) ∧ W.cell? ⟨w.heap.size, 4, none⟩ = some (.int .i64 t.var) ∧ W.cell? ⟨w.heap.size, 5, none⟩ = some (.slice (some ⟨b, o, none⟩) t.args.length c) ∧ W.cell? ⟨w.heap.size + 1, 0, none⟩ = some (.int .i64 f.kind) ∧ W.cell? ⟨w.heap.size + 1, 1, none⟩ = some (.string f.name) ∧ W.cell? ⟨w.heap.size + 1, 2, none⟩ = some (.string f.num) ∧ W.cell? ⟨w.heap.size + 1, 3, none⟩ = some (.int .u64 f.bits) ∧ W.cell? ⟨w.heap.size + 1, 4, none⟩ = some (.int .i64 f.var) ∧ W.cell? ⟨w.heap.size + 1, 5, none⟩ = some (.slice pf f.args.length cf) ∧ W.cell? ⟨w.heap.size + 1 + 1, 0, none⟩ = some (.int .i64 e.kind) ∧ W.cell? ⟨w.heap.size + 1 + 1, 1, none⟩ = some (.string e.name) ∧ W.cell? ⟨w.heap.size + 1 + 1, 2, none⟩ = some (.string e.num) ∧ W.cell? ⟨w.heap.size + 1 + 1, 3, none⟩ = some (.int .u64 e.bits) ∧ W.cell? ⟨w.heap.size + 1 + 1, 4, none⟩ = some (.int .i64 e.var) ∧ W.cell? ⟨w.heap.size + 1 + 1, 5, none⟩ = some (.slice pe e.args.length ce) ∧ W.cell? ⟨b, o, none⟩ = some (.int .i64 a1.kind) ∧ W.cell? ⟨b, o + 1, none⟩ = some (.string a1.name) ∧ W.cell? ⟨b, o + 2, none⟩ = some (.string a1.num) ∧ W.cell? ⟨b, o + 3, none⟩ = some (.int .u64 a1.bits) ∧ W.cell? ⟨b, o + 4, none⟩ = some (.int .i64 a1.var) ∧ W.cell? ⟨b, o + 5, none⟩ = some (.slice q1 a1.args.length c1) ∧ W.cell? ⟨b, o + 6, none⟩ = some (.int .i64 a2.kind) ∧ W.cell? ⟨b, o + 7, none⟩ = some (.string a2.name) ∧ W.cell? ⟨b, o + 8, none⟩ = some (.string a2.num) ∧ W.cell? ⟨b, o + 9, none⟩ = some (.int .u64 a2.bits) ∧ W.cell? ⟨b, o + 10, none⟩ = some (.int .i64 a2.var) ∧ W.cell? ⟨b, o + 11, none⟩ = some (.slice q2 a2.args.length c2) ∧ W.cell? ⟨kb, 0, none⟩ = some (.int .i64 1) ∧ W.cell? ⟨kb, 1, none⟩ = some (.string ⟨#[]⟩) ∧ W.cell? ⟨kb, 2, none⟩ = some (.string ⟨#[]⟩) ∧ W.cell? ⟨kb, 3, none⟩ = some (.int .u64 0) ∧ W.cell? ⟨kb, 4, none⟩ = some (.int .i64 n) ∧ W.cell? ⟨kb, 5, none⟩ = some (.slice none 0 0) from by
      obtain ⟨a0, a1, a2, a3, a4, a5, b0, b1, b2, b3, b4, b5, d0, d1, d2, d3, d4, d5, g0, g1, g2, g3, g4, g5, j0, j1, j2, j3, j4, j5⟩ := SR.out W (D5.out.trans h)
      obtain ⟨⟨k0, k1, k2, k3, k4, k5⟩, -⟩ := six_free (h.obj E5.out (by have := hkq.out; omega))
      exact ⟨a0, a1, a2, a3, a4, a5, b0, b1, b2, b3, b4, b5, d0, d1, d2, d3, d4, d5, g0, g1, g2, g3, g4, g5, j0, j1, j2, j3, j4, j5, k0, k1, k2, k3, k4, k5⟩))
    have SS4 := hid (fun (W : World) (h : But1 bx W5 W) (u0 u1 u2 u3 u4 u5 : Value) => (show (fun W : World => W.cell? ⟨w.heap.size, 0, none⟩ = some (.int .i64 t.kind) ∧ W.cell? ⟨w.heap.size, 1, none⟩ = some (.string t.name) ∧ W.cell? ⟨w.heap.size, 2, none⟩ = some (.string t.num) ∧ W.cell? ⟨w.heap.size, 3, none⟩ = some (.int .u64 t.bits) ∧ W.cell? ⟨w.heap.size, 4, none⟩ = some (.int .i64 t.var) ∧ W.cell? ⟨w.heap.size, 5, none⟩ = some (.slice (some ⟨b, o, none⟩) t.args.length c) ∧ W.cell? ⟨w.heap.size + 1, 0, none⟩ = some (.int .i64 f.kind) ∧ W.cell? ⟨w.heap.size + 1, 1, none⟩ = some (.string f.name) ∧ W.cell? ⟨w.heap.size + 1, 2, none⟩ = some (.string f.num) ∧ W.cell? ⟨w.heap.size + 1, 3, none⟩ = some (.int .u64 f.bits) ∧ W.cell? ⟨w.heap.size + 1, 4, none⟩ = some (.int .i64 f.var) ∧ W.cell? ⟨w.heap.size + 1, 5, none⟩ = some (.slice pf f.args.length cf) ∧ W.cell? ⟨w.heap.size + 1 + 1, 0, none⟩ = some (.int .i64 e.kind) ∧ W.cell? ⟨w.heap.size + 1 + 1, 1, none⟩ = some (.string e.name) ∧ W.cell? ⟨w.heap.size + 1 + 1, 2, none⟩ = some (.string e.num) ∧ W.cell? ⟨w.heap.size + 1 + 1, 3, none⟩ = some (.int .u64 e.bits) ∧ W.cell? ⟨w.heap.size + 1 + 1, 4, none⟩ = some (.int .i64 e.var) ∧ W.cell? ⟨w.heap.size + 1 + 1, 5, none⟩ = some (.slice pe e.args.length ce) ∧ W.cell? ⟨b, o, none⟩ = some (.int .i64 a1.kind) ∧ W.cell? ⟨b, o + 1, none⟩ = some (.string a1.name) ∧ W.cell? ⟨b, o + 2, none⟩ = some (.string a1.num) ∧ W.cell? ⟨b, o + 3, none⟩ = some (.int .u64 a1.bits) ∧ W.cell? ⟨b, o + 4, none⟩ = some (.int .i64 a1.var) ∧ W.cell? ⟨b, o + 5, none⟩ = some (.slice q1 a1.args.length c1) ∧ W.cell? ⟨b, o + 6, none⟩ = some (.int .i64 a2.kind) ∧ W.cell? ⟨b, o + 7, none⟩ = some (.string a2.name) ∧ W.cell? ⟨b, o + 8, none⟩ = some (.string a2.num) ∧ W.cell? ⟨b, o + 9, none⟩ = some (.int .u64 a2.bits) ∧ W.cell? ⟨b, o + 10, none⟩ = some (.int .i64 a2.var) ∧ W.cell? ⟨b, o + 11, none⟩ = some (.slice q2 a2.args.length c2) ∧ W.cell? ⟨kb, 0, none⟩ = some (.int .i64 1) ∧ W.cell? ⟨kb, 1, none⟩ = some (.string ⟨#[]⟩) ∧ W.cell? ⟨kb, 2, none⟩ = some (.string ⟨#[]⟩) ∧ W.cell? ⟨kb, 3, none⟩ = some (.int .u64 0) ∧ W.cell? ⟨kb, 4, none⟩ = some (.int .i64 n) ∧ W.cell? ⟨kb, 5, none⟩ = some (.slice none 0 0)) ((((((((W.setCell ⟨w.heap.size + 1 + 1 + 1, 0, none⟩ u0).setCell ⟨w.heap.size + 1 + 1 + 1, 1, none⟩ u1).setCell ⟨w.heap.size + 1 + 1 + 1, 2, none⟩ u2).setCell ⟨w.heap.size + 1 + 1 + 1, 3, none⟩ u3).setCell ⟨w.heap.size + 1 + 1 + 1, 4, none⟩ u4).setCell ⟨w.heap.size + 1 + 1 + 1, 5, none⟩ u5))) from by
      obtain ⟨a0, a1, a2, a3, a4, a5, b0, b1, b2, b3, b4, b5, d0, d1, d2, d3, d4, d5, g0, g1, g2, g3, g4, g5, j0, j1, j2, j3, j4, j5⟩ := SS.out W (D5.out.trans h) u0 u1 u2 u3 u4 u5
      have hg := set6_grown W (w.heap.size + 1 + 1 + 1) u0 u1 u2 u3 u4 u5
      have ho := h.obj E5.out (by have := hkq.out; omega)
      obtain ⟨⟨k0, k1, k2, k3, k4, k5⟩, -⟩ := six_free ((hg.block _ (lt_of_block ho) (fun e => by have := Option.some.inj e; have := hkq.out; omega)).trans ho)
      exact ⟨a0, a1, a2, a3, a4, a5, b0, b1, b2, b3, b4, b5, d0, d1, d2, d3, d4, d5, g0, g1, g2, g3, g4, g5, j0, j1, j2, j3, j4, j5, k0, k1, k2, k3, k4, k5⟩))
    have CB5 := hid (fun (W : World) (h : But1 bx W5 W) => CB.out W (D5.out.trans h))
    have BD := hid (show But1 bx W5 W5.drew from But1.of_below X5.out (Below.refl _ _).drew)
    have XD := hid (show Box1 W5.drew bx (n + 1) from X5.out)
    have CC5 := hid (fun (W : World) (h : But1 bx W5 W) => CC.out W (D5.out.trans h))
    have sr := SR4.out _ (But1.refl X5.out)
    go_region_held3 (fun W => W.cell? ⟨w.heap.size, 0, none⟩ = some (.int .i64 t.kind) ∧ W.cell? ⟨w.heap.size, 1, none⟩ = some (.string t.name) ∧ W.cell? ⟨w.heap.size, 2, none⟩ = some (.string t.num) ∧ W.cell? ⟨w.heap.size, 3, none⟩ = some (.int .u64 t.bits) ∧ W.cell? ⟨w.heap.size, 4, none⟩ = some (.int .i64 t.var) ∧ W.cell? ⟨w.heap.size, 5, none⟩ = some (.slice (some ⟨b, o, none⟩) t.args.length c) ∧ W.cell? ⟨w.heap.size + 1, 0, none⟩ = some (.int .i64 f.kind) ∧ W.cell? ⟨w.heap.size + 1, 1, none⟩ = some (.string f.name) ∧ W.cell? ⟨w.heap.size + 1, 2, none⟩ = some (.string f.num) ∧ W.cell? ⟨w.heap.size + 1, 3, none⟩ = some (.int .u64 f.bits) ∧ W.cell? ⟨w.heap.size + 1, 4, none⟩ = some (.int .i64 f.var) ∧ W.cell? ⟨w.heap.size + 1, 5, none⟩ = some (.slice pf f.args.length cf) ∧ W.cell? ⟨w.heap.size + 1 + 1, 0, none⟩ = some (.int .i64 e.kind) ∧ W.cell? ⟨w.heap.size + 1 + 1, 1, none⟩ = some (.string e.name) ∧ W.cell? ⟨w.heap.size + 1 + 1, 2, none⟩ = some (.string e.num) ∧ W.cell? ⟨w.heap.size + 1 + 1, 3, none⟩ = some (.int .u64 e.bits) ∧ W.cell? ⟨w.heap.size + 1 + 1, 4, none⟩ = some (.int .i64 e.var) ∧ W.cell? ⟨w.heap.size + 1 + 1, 5, none⟩ = some (.slice pe e.args.length ce) ∧ W.cell? ⟨b, o, none⟩ = some (.int .i64 a1.kind) ∧ W.cell? ⟨b, o + 1, none⟩ = some (.string a1.name) ∧ W.cell? ⟨b, o + 2, none⟩ = some (.string a1.num) ∧ W.cell? ⟨b, o + 3, none⟩ = some (.int .u64 a1.bits) ∧ W.cell? ⟨b, o + 4, none⟩ = some (.int .i64 a1.var) ∧ W.cell? ⟨b, o + 5, none⟩ = some (.slice q1 a1.args.length c1) ∧ W.cell? ⟨b, o + 6, none⟩ = some (.int .i64 a2.kind) ∧ W.cell? ⟨b, o + 7, none⟩ = some (.string a2.name) ∧ W.cell? ⟨b, o + 8, none⟩ = some (.string a2.num) ∧ W.cell? ⟨b, o + 9, none⟩ = some (.int .u64 a2.bits) ∧ W.cell? ⟨b, o + 10, none⟩ = some (.int .i64 a2.var) ∧ W.cell? ⟨b, o + 11, none⟩ = some (.slice q2 a2.args.length c2) ∧ W.cell? ⟨kb, 0, none⟩ = some (.int .i64 1) ∧ W.cell? ⟨kb, 1, none⟩ = some (.string ⟨#[]⟩) ∧ W.cell? ⟨kb, 2, none⟩ = some (.string ⟨#[]⟩) ∧ W.cell? ⟨kb, 3, none⟩ = some (.int .u64 0) ∧ W.cell? ⟨kb, 4, none⟩ = some (.int .i64 n) ∧ W.cell? ⟨kb, 5, none⟩ = some (.slice none 0 0))
      (first
        | (with_reducible exact sr)
        | (with_reducible exact SR4.out _ BD.out)
        | (with_reducible exact SR4.out _ D4.out)
        | (with_reducible exact SS4.out _ D4.out _ _ _ _ _ _)
        | (with_reducible exact SR4.out _ D6.out)
        | (with_reducible exact SS4.out _ D6.out _ _ _ _ _ _)
        | (with_reducible exact SR4.out _ D7.out)
        | (with_reducible exact SS4.out _ D7.out _ _ _ _ _ _)
        | (with_reducible exact SR4.out _ D8.out)
        | (with_reducible exact SS4.out _ D8.out _ _ _ _ _ _)
        | fail)
      ((first
        | (go_at_call 68; (with_reducible refine (CB5.out _ BD.out XD.out).mono ?_); rintro x w4 ⟨qa, ca, rfl, hm4, hx4, hb4⟩; have D4 := hid (BD.out.trans hb4); have X4 := hid hx4; have M4 := hid hm4; clear hm4 hx4 hb4)
        | (go_at_call 68; (with_reducible refine (CC5.out _ D4.out X4.out).mono ?_); rintro x w6 ⟨qb, cb, rfl, hm6, hx6, hb6⟩; have D6 := hid (D4.out.trans hb6); have X6 := hid hx6; have M6 := hid hm6; have M5 := hid (hb6.tm M4.out); clear hm6 hx6 hb6; obtain ⟨W7, hW7⟩ : ∃ W7, W7 = w6.alloc (.cells #[.int .i64 ga.kind, .string ga.name, .string ga.num, .int .u64 ga.bits, .int .i64 ga.var, .slice qa ga.args.length ca, .int .i64 gb.kind, .string gb.name, .string gb.num, .int .u64 gb.bits, .int .i64 gb.var, .slice qb gb.args.length cb] 25) := ⟨_, rfl⟩; have A7 := hid (show Below w6.heap.size w6 W7 by rw [hW7]; exact (Below.refl _ _).alloc (Nat.le_refl _) _); have D7 := hid (show But1 bx W5 (w6.alloc (.cells #[.int .i64 ga.kind, .string ga.name, .string ga.num, .int .u64 ga.bits, .int .i64 ga.var, .slice qa ga.args.length ca, .int .i64 gb.kind, .string gb.name, .string gb.num, .int .u64 gb.bits, .int .i64 gb.var, .slice qb gb.args.length cb] 25)) by rw [← hW7]; exact D6.out.trans (But1.of_below X6.out A7.out)); have X7 := hid (X6.out.keep A7.out); have Y7 := hid (TY.out W7 w6.heap.size qa ca qb cb (by rw [hW7]; exact heap_alloc_new w6 _) (M5.out.keep A7.out) (M6.out.keep A7.out)))
        | (go_at_call 109; rw [← hW7]; (with_reducible refine (CO.out _ _).mono ?_); rintro x w8 ⟨rfl, hb8⟩; have D8 := hid ((show But1 bx W5 W7 by rw [hW7]; exact D7.out).trans (But1.of_below X7.out hb8)); have X9 := hid (X7.out.keep hb8); have M9 := hid (Y7.out.keep hb8); have D9 := hid (D5.out.trans D8.out); have R9 := hid ((D5.out.trans D8.out).obj R0.out (by have := hbl.out; omega)); clear hb8; obtain ⟨⟨z0, z1, z2, z3, z4, z5⟩, ⟨f0, f1, f2, f3, f4, f5⟩⟩ := six_free R9.out)
        | fail))
    all_goals
      go_wp2_with fail
      have hq := hbl.out
      have hgr := set6_grown w8 (w.heap.size + 1 + 1 + 1) (.int .i64 r.kind) (.string r.name) (.string r.num) (.int .u64 r.bits) (.int .i64 r.var) (.slice (some ⟨w6.heap.size, 0, none⟩) r.args.length 2)
      have hm' := TmAt.past (b := w.heap.size + 1 + 1 + 1) (t := r) (p := (some ⟨w6.heap.size, 0, none⟩)) (show Blank w8 (w.heap.size + 1 + 1 + 1) from R9.out) (Past.grown hgr) GR.out M9.out
      have hx' : Box1 _ bx n2 := (hgr.block bx (lt_of_block X9.out) (fun e => by have := Option.some.inj e; omega)).trans X9.out
      exact bodyPost_ret (results_tm rfl _ _ (w.heap.size + 1 + 1 + 1) r (some ⟨w6.heap.size, 0, none⟩) 2 (by rfl) (set6 R9.out _ _ _ _ _ _)) rfl ⟨(some ⟨w6.heap.size, 0, none⟩), 2, rfl, hm', hx', ⟨(N0.out.trans D9.out).chg.grown1 hgr (fun x e => .inl (by have := Option.some.inj e; omega)), N0.out.here, ⟨_, hx'⟩⟩⟩
end Go.Proofs.YtiaddfedaikaiaaGreatDoor
