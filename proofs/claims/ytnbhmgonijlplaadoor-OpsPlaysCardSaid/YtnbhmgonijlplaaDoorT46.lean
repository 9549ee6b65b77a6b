/- listed: All of a table is the document's table in order. No condition but those that the theorem names. -/
import Derived.Test.YtnbhmgonijlplaaDoorT29
import Derived.Test.YtnbhmgonijlplaaDoorT42
namespace Go.Proofs.YtnbhmgonijlplaaDoor
open Go.RowKit Go.Maps Go.Shelf

theorem listed_step {K : Nat} {W5 W : World} {k : Nat} (h5 : Held K K W5 W) (n : Nat) (hK : K < W5.heap.size) (hbox : Boxed W K 3 (.int .i64 (k : Int))) :
    KeepsFrom W5.heap.size W ((W.drewN n).setCell ⟨K, 0, none⟩ (.int .i64 ((k : Int) + 1))) ∧ Leaves K W5.heap.size W ((W.drewN n).setCell ⟨K, 0, none⟩ (.int .i64 ((k : Int) + 1))) ∧ Held K K W5 ((W.drewN n).setCell ⟨K, 0, none⟩ (.int .i64 ((k : Int) + 1))) ∧
      Boxed ((W.drewN n).setCell ⟨K, 0, none⟩ (.int .i64 ((k : Int) + 1))) K 3 (.int .i64 ((k + 1 : Nat) : Int)) := by
  have h1 := ((Held.refl K K W).drewN n).trans (Held.set (W.drewN n) (.int .i64 ((k : Int) + 1)))
  have h2 := (show Boxed (W.drewN n) K 3 (.int .i64 (k : Int)) from hbox).set (.int .i64 ((k : Int) + 1))
  exact ⟨h1.from hK hK, h1.leaves hK hK h2.cell, h5.trans h1, h2⟩

set_option maxRecDepth 100000 in
set_option maxHeartbeats 8000000 in
theorem listed_any (bt b n rb : Nat) (L : List Opn) (w : World) (hT : Tab w b n (look L)) (hc : w.cell? ⟨bt, 0, none⟩ = some (.map (some b))) (hG : Good (look L)) (hR : RefAt w rb L) (hap : Apart L)
    (hnn : n ≤ maxLen) (hbyn : n * 32 ≤ 140737488355328) (hmax : L.length ≤ maxLen) (hby : L.length * 32 ≤ 140737488355328) :
    Calls Tryd.prog 17 #[.pointer (some ⟨bt, 0, none⟩), .pointer (some ⟨rb, 0, none⟩)] w fun e w' => e = .returned (.bool true) ∧ Below w.heap.size w w' := by
  obtain ⟨W0, hW0⟩ : ∃ W0, W0 = w.alloc (.cells #[.bool false] 4) := ⟨_, rfl⟩
  have hB0 : Below w.heap.size w W0 := by rw [hW0]; exact (Below.refl _ _).alloc (Nat.le_refl _) _
  have hs0 : W0.heap.size = w.heap.size + 1 := by rw [hW0]; simp
  have BR := hid (show Boxed W0 w.heap.size 4 (.bool false) by rw [hW0]; exact Boxed.new w 4 (.bool false))
  have T0 := hid (hT.keep hB0)
  have C0 := hid (heap_cell_keep hB0 hc)
  have SO := hid (refSorted rb L W0 (hR.keep hB0) hap hmax hby)
  have HB := hid hB0
  have HAP := hid hap
  have G0 := hid hG
  have HW0 := hid hW0
  clear hT hc hR hap hG hB0 hW0
  refine (callsIn_wide (n := 8)).1 ?_
  refine callsIn_of_wp_marks Tryd.func17 rfl trivial ?_ rfl
  simp only [Tryd.ntmps17, List.size_toArray, List.length_cons, List.length_nil, Nat.reduceAdd, Nat.reduceSub, Array.replicate_succ, Array.replicate_zero, List.push_toArray, List.append_toArray, List.nil_append, List.cons_append]
  rw [wpIn_wide]
  go_wp2_with (first
    | (go_at_call 41; rw [← HW0.out]; (with_reducible refine SO.out.mono ?_); rintro e w1 ⟨M, g1, cap1, rfl, hpM, hsM, hrM, hg1, hg1l, hb1⟩
       have TL := hid (told_look HAP.out hpM hsM); have R1 := hid hrM; have HGL := hid hg1l; have B1 := hid hb1; have SZ1 := hid hb1.size; have T1 := hid (T0.out.keep hb1); have C1 := hid (heap_cell_keep hb1 C0.out); have BR1 := hid (show Boxed w1 w.heap.size 4 _ from heap_keep3 BR.out hb1); clear hpM hsM hrM hg1l hb1 SO T0 C0 BR)
    | (go_at_call 30; (with_reducible refine (all30_any _ _).mono ?_); rintro e w5 ⟨rfl, rfl⟩))
  obtain ⟨W5, hW5⟩ : ∃ W5, W5 = ((w1.alloc (.cells #[.slice (some ⟨g1, 0, none⟩) M.length cap1] 45)).alloc (.cells #[.int .i64 0] 3)).alloc (.cells #[.pointer (some ⟨bt, 0, none⟩)] 24) := ⟨_, rfl⟩
  rw [← hW5]
  have hb5 : Below w1.heap.size w1 W5 := by rw [hW5]; exact (((Below.refl _ _).alloc (Nat.le_refl _) _).alloc (by simp) _).alloc (by simp; omega) _
  have hs5 : W5.heap.size = w1.heap.size + 3 := by rw [hW5]; simp
  have bW := hid (show Boxed W5 w1.heap.size 45 (.slice (some ⟨g1, 0, none⟩) M.length cap1) by rw [hW5]; exact ((Boxed.new w1 45 _).alloc _).alloc _)
  have bK := hid (show Boxed W5 (w1.heap.size + 1) 3 (.int .i64 0) by rw [hW5]; have h := Boxed.new (w1.alloc (.cells #[.slice (some ⟨g1, 0, none⟩) M.length cap1] 45)) 3 (.int .i64 0); rw [World.size_alloc] at h; exact h.alloc _)
  have bN := hid (show Boxed W5 (w1.heap.size + 1 + 1) 24 (.pointer (some ⟨bt, 0, none⟩)) by rw [hW5]; have h := Boxed.new ((w1.alloc (.cells #[.slice (some ⟨g1, 0, none⟩) M.length cap1] 45)).alloc (.cells #[.int .i64 0] 3)) 24 (.pointer (some ⟨bt, 0, none⟩)); rw [World.size_alloc, World.size_alloc] at h; exact h)
  have T5 := hid (T1.out.keep hb5)
  have C5 := hid (heap_cell_keep hb5 C1.out)
  have R5 := hid (R1.out.keep hb5)
  have bR := hid (show Boxed W5 w.heap.size 4 (.bool false) from heap_keep3 BR1.out hb5)
  have B5 := hid (HB.out.trans ((B1.out.trans (hb5.mono B1.out.size)).mono (by omega)))
  have hSZ := SZ1.out
  have hGL := HGL.out
  have hTb := T1.out.lt
  have hCb : bt < w1.heap.size := by have h := World.block_lt_of_cell? w1 _ C1.out; simpa using h
  clear hW5 T1 C1 R1 BR1 B1
  rw [← wpIn_wide (n := 8)]
  have hP : ∀ k, ¬ Pts W5 (w1.heap.size + 1) k := by
    rintro k ⟨g, o, l, c, h, _⟩
    rw [bK.out.cell] at h
    cases h
  refine wpIn_rangeFunc_ownH rfl (by omega) (gf := 45) (lb := #[.pointer (some ⟨w1.heap.size + 1 + 1, 0, none⟩)]) rfl trivial (enters_of Tryd.func45 (by kernel_rfl) rfl)
    (ops_stops 7 (by omega) (w1.heap.size + 1 + 1) bt b n (w1.heap.size + 1) W5.heap.size hnn hbyn (look L) G0.out W5 (by omega) bN.out.cell C5.out T5.out (by omega) (Nat.le_refl _) hP) leaves_t (leaves_b (by omega)) (Below.refl _ _) (fun _ => rfl)
    (fun pre W => (Held (w1.heap.size + 1) (w1.heap.size + 1) W5 W ∧ Boxed W (w1.heap.size + 1) 3 (.int .i64 (pre.length : Int))) ∧ pre <+: M)
    (fun c pre _ => c = .ret ∧ ¬ pre <+: M)
    (OwnFrom.and (OwnFrom.and held_own (Own.from (boxed_own _ _ (fun pre : List Opn => Value.int .i64 (pre.length : Int))) _)) (pure_own _))
    (fun _ => pure_own _)
    ⟨⟨Held.refl _ _ _, bK.out⟩, List.nil_prefix⟩
    (fun x a' W => ∃ Bx, W5.heap.size ≤ Bx ∧ W.heap[Bx]? = some (.cells #[.string x.name, .int .i64 x.typ, .int .i64 x.pri] 39 (0, 0)) ∧ a' = { tmps := #[.pointer (some ⟨bt, 0, none⟩), .pointer (some ⟨rb, 0, none⟩), undef, undef, .pointer (some ⟨w.heap.size, 0, none⟩), .pointer (some ⟨w1.heap.size, 0, none⟩), .pointer (some ⟨w1.heap.size + 1, 0, none⟩), .pointer (some ⟨Bx, 0, none⟩), .pointer (some ⟨rb, 0, none⟩), .slice (some ⟨g1, 0, none⟩) M.length cap1, .pointer (some ⟨bt, 0, none⟩), .func (.func 45) #[] #[.pointer (some ⟨w1.heap.size + 1 + 1, 0, none⟩)], x.val, undef, undef, undef, undef, undef, undef, undef, undef, undef, undef, undef, undef, undef, undef, undef, undef, undef, undef], defers := [] })
    (fun x a' _ X Y row hs hg hr => by obtain ⟨Bx, h1, h2, h3⟩ := hs; exact ⟨Bx, h1, block_own (β := Unit) Bx _ rfl () X Y row h2 hg (fun r e => (hr r e).2), h3⟩)
    ?assign ?body ?done ?stop
  case assign =>
    rintro l pre x W K ⟨⟨hH, hv⟩, hpre⟩ hK
    unfold Opn.val at hK ⊢
    gi_wp2_with (rw [Oper.semAt_eq _ _ _ (fun c h => by cases h)]; go_simp; try go_bits)
    have hbA := (Below.refl W.heap.size W).alloc (Nat.le_refl _) (.cells #[.string x.name, .int .i64 x.typ, .int .i64 x.pri] 39)
    exact hK _ _ ((KeepsOthers.alloc _ _).from _) (leaves_alloc hv.lt _) ⟨⟨hH.trans (Held.of_below hbA), hv.alloc _⟩, hpre⟩ ⟨W.heap.size, hH.size, World.alloc_heap_new W _, rfl⟩
  case body =>
    rintro l pre x a' W hl ⟨r, hr⟩ ⟨⟨hH, hv⟩, hpre⟩ ⟨Bx, hBx, bX, rfl⟩ hlt
    have HH := hid hH
    have HVB := hid hv
    have HPRE := hid hpre
    have cK := hv.cell
    have fK := hv.frozen
    have cW := (show Boxed W w1.heap.size 45 _ from hH.block bW.out (by omega) (by omega)).cell
    have bR' := (show Boxed W w.heap.size 4 _ from hH.block bR.out (by omega) (by omega))
    have cR := bR'.cell
    have fR := bR'.frozen
    obtain ⟨x0, x1, x2, _, _, _⟩ := three_cells bX
    clear hH hpre bX hv
    unfold Opn.val
    by_cases hk : pre.length < M.length
    · have m0 := HH.out.cell (R5.out.c0 _ hk) (by omega) (by omega)
      have m1 := HH.out.cell (R5.out.c1 _ hk) (by omega) (by omega)
      have m2 := HH.out.cell (R5.out.c2 _ hk) (by omega) (by omega)
      have hd : decide (M.length ≤ pre.length) = false := decide_eq_false (by omega)
      have NE := neq39 x M[pre.length]
      have GU := guard39
      have HQ := hid (show opEq x M[pre.length] = true → x = M[pre.length] from fun h => of_decide_eq_true h)
      have HQ2 := hid (show opEq x M[pre.length] = false → x ≠ M[pre.length] from fun h => of_decide_eq_false h)
      have HPN := hid (prefix_next HPRE.out hk)
      have HMX := hid (show ∀ h : pre ++ [x] <+: M, x = M[pre.length] from fun h => (prefix_at h).2.symm)
      generalize M[pre.length] = y at *
      generalize opEq x y = q at *
      cases q
      · gi_wp2
        (refine round_quiet (by kernel_rfl) (by kernel_rfl) (by kernel_rfl) ?_
         repeat (go_big_quiet_step (fail))
         refine wpQuiet_nil ?_
         intro _ hw'; obtain ⟨nq, hw''⟩ := hw'; subst hw'')
        gi_wp2_with (rw [Oper.semAt_eq _ _ _ (fun c h => by cases h)]; go_simp; try go_bits)
        exact ⟨(keeps_drewN _ W nq).trans (keeps_set _ _ (by omega)), rfl, fun h => HQ2.out (by simp) (HMX.out h)⟩
      · obtain rfl := HQ.out rfl
        gi_wp2
        (refine round_quiet (by kernel_rfl) (by kernel_rfl) (by kernel_rfl) ?_
         repeat (go_big_quiet_step (fail))
         refine wpQuiet_nil ?_
         intro _ hw'; obtain ⟨nq, hw''⟩ := hw'; subst hw'')
        gi_wp2_with (rw [Oper.semAt_eq _ _ _ (fun c h => by cases h)]; go_simp; try go_bits)
        obtain ⟨z1, z2, z3, z4⟩ := listed_step (k := pre.length) HH.out nq (by omega) HVB.out
        exact ⟨z1, z2, ⟨z3, by simp only [List.length_append, List.length_cons, List.length_nil]; exact z4⟩, HPN.out⟩
    · have hge : M.length ≤ pre.length := by omega
      have hd : decide (M.length ≤ pre.length) = true := decide_eq_true hge
      gi_wp2
      (refine round_quiet (by kernel_rfl) (by kernel_rfl) (by kernel_rfl) ?_
       repeat (go_big_quiet_step (fail))
       refine wpQuiet_nil ?_
       intro _ hw'; obtain ⟨nq, hw''⟩ := hw'; subst hw'')
      gi_wp2_with (rw [Oper.semAt_eq _ _ _ (fun c h => by cases h)]; go_simp; try go_bits)
      exact ⟨(keeps_drewN _ W nq).trans (keeps_set _ _ (by omega)), rfl, fun h => by have := h.length_le; simp at this; omega⟩
  case done =>
    rintro D ys W hD ⟨hTold, hlenY⟩ ⟨⟨hH, hv⟩, hpre⟩ hK
    obtain rfl := hTold.one TL.out
    have cK := hv.cell
    have cW := (show Boxed W w1.heap.size 45 _ from hH.block bW.out (by omega) (by omega)).cell
    have bR' : Boxed W w.heap.size 4 (.bool false) := hH.block bR.out (by omega) (by omega)
    have cR := bR'.cell
    have fR := bR'.frozen
    have HHB := hid hH
    have HKD := hid hK
    have BRW := hid bR'
    clear hH hv hpre hK bR' hTold
    go_wp2
    have hset := grownBy_setCell' W w.heap.size (.bool true)
    have hDb : D ≠ w.heap.size := by
      rintro rfl
      have h1 := HKD.out
      rw [BRW.out] at h1
      cases h1
    have hKe : (W.setCell ⟨w.heap.size, 0, none⟩ (.bool true)).heap[D]? = some (.deferred (some [])) := hset.block D (lt_of_block HKD.out) (by simpa using hDb) |>.trans HKD.out
    have cE : ((W.setCell ⟨w.heap.size, 0, none⟩ (.bool true)).putObj D (.deferred none)).cell? ⟨w.heap.size, 0, none⟩ = some (.bool true) := by
      have h2 := (BRW.out.set (.bool true)).cell
      rw [← h2]
      exact World.cell?_of_block (World.putObj_heap_other (Ne.symm hDb))
    refine ⟨by simp, .inl ⟨_, _, rfl, run_takeDeferred hKe, ?_⟩⟩
    refine ⟨_, results_bool (b := w.heap.size) (q := true) rfl _ _ (by rfl) cE, rfl, ?_⟩
    have h1 : Below w.heap.size w W5 := B5.out
    have h2 : Below w.heap.size W5 W := ⟨HHB.out.os, HHB.out.tape, HHB.out.output, HHB.out.size, fun k hk => HHB.out.same k (by omega) (by omega) (by omega)⟩
    have h5 := (h1.trans h2).grown hset (by have := (h1.trans h2).size; omega) (fun k e => by cases e; omega)
    exact h5.trans (belowK_b (w := W5) h1.size _ D _ _ hD hKe rfl rfl)
  case stop =>
    rintro D c pre W hD ⟨Lx, hLx, hp⟩ ⟨_, h⟩ _
    exact absurd (hLx.one TL.out ▸ hp) h
end Go.Proofs.YtnbhmgonijlplaaDoor
