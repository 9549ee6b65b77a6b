/- Walk: the function that Variant hands on: two variables by their new numbers. No condition but those that each theorem names. Walk: order at the function that Variant hands on. No condition but those that the theorem names. Walk: Compare of any two trees. No condition but those that the theorem names. Walk: Variant of any two trees. No condition but those that each theorem names. A bind's cells: plain. No condition but those that each theorem names. Walk of the document's answer: Plain: some terms with their variables numbered anew. No condition but those that each theorem names. -/
import Derived.Test.YtkapejcbmonfkaaGreatDoorT59bm
import Derived.Test.YtkapejcbmonfkaaGreatDoorT41m
import Derived.Test.YtkapejcbmonfkaaGreatDoorT67m
import Derived.Test.YtkapejcbmonfkaaGreatDoorT84m
import Derived.Test.YtkapejcbmonfkaaGreatDoorT80m
namespace Go.Proofs.YtkapejcbmonfkaaGreatDoor
open Go.RowKit Go.Maps

set_option maxRecDepth 100000 in
set_option maxHeartbeats 4000000 in
theorem variant1_any (bl g1 m1 br g2 m2 : Nat) (Z Y : List Int) (n m : Int) (w : World) (h1 : NumSt w bl g1 m1 Z) (h2 : NumSt w br g2 m2 Y) (hne : m1 ≠ m2) (hn : (Lit.int .i64 n).wf = true) (hm : (Lit.int .i64 m).wf = true) (hz : Z.length < 140737488355328) (hy : Y.length < 140737488355328) :
    Calls Tryz.prog 63 #[.int .i64 n, .int .i64 m, .pointer (some ⟨bl, 0, none⟩), .pointer (some ⟨br, 0, none⟩)] w fun e w' => e = .returned (.int .i64 (cmpI ((Z.idxOf n : Nat) : Int) ((Y.idxOf m : Nat) : Int))) ∧ NumSt w' bl g1 m1 (addN Z n) ∧ NumSt w' br g2 m2 (addN Y m) ∧ Chg [m1, m2] w w' := by
  have H1 := hid h1
  have H2 := hid h2
  have hbl := h1.nn
  have hg1 := h1.ng
  have hbr := h2.nn
  have hg2 := h2.ng
  have hb12 : bl ≠ m2 := nums_ne h2.num h1.fn
  have hg12 : g1 ≠ m2 := nums_ne h2.num h1.gg
  have hb21 : br ≠ m1 := nums_ne h1.num h2.fn
  have hg21 : g2 ≠ m1 := nums_ne h1.num h2.gg
  have CA := hid (fun (W : World) (h : NumSt W bl g1 m1 Z) => number_any g1 m1 Z n W hn h.gg h.num hz)
  have CB := hid (fun (W : World) (h : NumSt W br g2 m2 Y) => number_any g2 m2 Y m W hm h.gg h.num hy)
  have BD := hid (show Below w.heap.size w w.drew from (Below.refl _ _).drew)
  clear h1 h2
  generalize Z.idxOf n = ix at *
  generalize Y.idxOf m = iy at *
  have SX := hid (show ∀ W : World, Chg [m1, m2] w W → W.cell? ⟨bl, 0, none⟩ = some (.func (.func 90) #[] #[.pointer (some ⟨g1, 0, none⟩)]) ∧ W.cell? ⟨br, 0, none⟩ = some (.func (.func 90) #[] #[.pointer (some ⟨g2, 0, none⟩)]) from fun W h =>
    ⟨(World.cell?_of_block (a := ⟨bl, 0, none⟩) (h.same bl (cell_lt H1.out.fn) (by simp [hbl, hb12]))).trans H1.out.fn, (World.cell?_of_block (a := ⟨br, 0, none⟩) (h.same br (cell_lt H2.out.fn) (by simp [hbr, hb21]))).trans H2.out.fn⟩)
  have c0 := H1.out.fn
  have d0 := H2.out.fn
  go_enter Tryz.func63, Tryz.ntmps63
  go_wp2_with fail
  have sd := SX.out w.drew (Chg.of_below BD.out)
  refine wp_region_held_drew (S := fun W => W.cell? ⟨bl, 0, none⟩ = some (.func (.func 90) #[] #[.pointer (some ⟨g1, 0, none⟩)]) ∧ W.cell? ⟨br, 0, none⟩ = some (.func (.func 90) #[] #[.pointer (some ⟨g2, 0, none⟩)])) (by kernel_rfl) sd (fun hHeld => ?_)
  refine' wpAnyH_take (i := 0) (v := (.func (.func 90) #[] #[.pointer (some ⟨g1, 0, none⟩)])) rfl (by decide +kernel) (by decide +kernel) (by decide +kernel) (fun _ _ _ h => h) (Or.inl ⟨by rfl, ?hyA0⟩) (by assumption) ?restA0
  case hyA0 => (intro w5 hSw; (try dsimp only at hSw); go_simp; try with_reducible rfl)
  case' restA0 => (try simp only [Act.put, List.setIfInBounds_toArray, List.set_cons_zero, List.set_cons_succ])
  refine' wpAnyH_take (i := 1) (v := (.int .i64 n)) rfl (by decide +kernel) (by decide +kernel) (by decide +kernel) (fun _ _ _ h => h) (Or.inl ⟨by rfl, ?hyA1⟩) (by assumption) ?restA1
  case hyA1 => (intro w5 hSw; (try dsimp only at hSw); go_simp; try with_reducible rfl)
  case' restA1 => (try simp only [Act.put, List.setIfInBounds_toArray, List.set_cons_zero, List.set_cons_succ])
  refine' wpAnyH_take (i := 3) (v := (.func (.func 90) #[] #[.pointer (some ⟨g2, 0, none⟩)])) rfl (by decide +kernel) (by decide +kernel) (by decide +kernel) (fun _ _ _ h => h) (Or.inl ⟨by rfl, ?hyA3⟩) (by assumption) ?restA3
  case hyA3 => (intro w5 hSw; (try dsimp only at hSw); go_simp; try with_reducible rfl)
  case' restA3 => (try simp only [Act.put, List.setIfInBounds_toArray, List.set_cons_zero, List.set_cons_succ])
  refine' wpAnyH_take (i := 4) (v := (.int .i64 m)) rfl (by decide +kernel) (by decide +kernel) (by decide +kernel) (fun _ _ _ h => h) (Or.inl ⟨by rfl, ?hyA4⟩) (by assumption) ?restA4
  case hyA4 => (intro w5 hSw; (try dsimp only at hSw); go_simp; try with_reducible rfl)
  case' restA4 => (try simp only [Act.put, List.setIfInBounds_toArray, List.set_cons_zero, List.set_cons_succ])
  refine wpAnyH_ready (rs := [2]) (by decide +kernel) (by simp) ?_
  refine AllReadyH.cons rfl (fun K hK => ?_) AllReadyH.nil
  go_simp
  (with_reducible refine (CA.out _ (H1.out.keep BD.out)).mono ?_)
  rintro e w1 ⟨rfl, hN1, hgr1⟩
  have N1 := hid (show NumSt w1 bl g1 m1 (addN Z n) from ⟨hgr1.cell (heap_cell_keep BD.out H1.out.fn) (fun e => hbl (Option.some.inj e)), hgr1.cell (heap_cell_keep BD.out H1.out.gg) (fun e => hg1 (Option.some.inj e)), hN1⟩)
  have M1 := hid (show NumSt w1 br g2 m2 Y from ⟨hgr1.cell (heap_cell_keep BD.out H2.out.fn) (fun e => hb21 (Option.some.inj e)), hgr1.cell (heap_cell_keep BD.out H2.out.gg) (fun e => hg21 (Option.some.inj e)), (H2.out.num.keep BD.out).kept hgr1 (fun e => hne (Option.some.inj e).symm)⟩)
  have C1 := hid (show Chg [m1, m2] w w1 from (Chg.of_below BD.out).trans (Chg.of_grown hgr1 (fun x e => by cases e; simp)))
  clear hN1 hgr1
  refine hK.out _ _ (SX.out w1 C1.out) (fun hHeld => ?_)
  clear hK K
  (try simp only [Act.put, List.setIfInBounds_toArray, List.set_cons_zero, List.set_cons_succ])
  refine wpAnyH_ready (rs := [5]) (by decide +kernel) (by simp) ?_
  refine AllReadyH.cons rfl (fun K hK => ?_) AllReadyH.nil
  go_simp
  (with_reducible refine (CB.out _ M1.out).mono ?_)
  rintro e w2 ⟨rfl, hN2, hgr2⟩
  have N2 := hid (show NumSt w2 bl g1 m1 (addN Z n) from ⟨hgr2.cell N1.out.fn (fun e => hb12 (Option.some.inj e)), hgr2.cell N1.out.gg (fun e => hg12 (Option.some.inj e)), N1.out.num.kept hgr2 (fun e => hne (Option.some.inj e))⟩)
  have M2 := hid (show NumSt w2 br g2 m2 (addN Y m) from ⟨hgr2.cell M1.out.fn (fun e => hbr (Option.some.inj e)), hgr2.cell M1.out.gg (fun e => hg2 (Option.some.inj e)), hN2⟩)
  have C2 := hid (show Chg [m1, m2] w w2 from C1.out.trans (Chg.of_grown hgr2 (fun x e => by cases e; simp)))
  clear hN2 hgr2
  refine hK.out _ _ (SX.out w2 C2.out) (fun hHeld => ?_)
  clear hK K
  (try simp only [Act.put, List.setIfInBounds_toArray, List.set_cons_zero, List.set_cons_succ])
  refine wpAnyH_ready (rs := [6]) (by decide +kernel) (by simp) ?_
  refine AllReadyH.cons rfl (fun K hK => ?_) AllReadyH.nil
  go_simp
  (with_reducible refine (compareI_any _ _ w2).mono ?_)
  rintro e w3 ⟨rfl, rfl⟩
  refine hK.out _ _ (SX.out _ C2.out) (fun hHeld => ?_)
  clear hK K
  (try simp only [Act.put, List.setIfInBounds_toArray, List.set_cons_zero, List.set_cons_succ])
  refine' wpAnyH_take (i := 7) (v := (.int .i64 (cmpI (ix : Int) (iy : Int)))) rfl (by decide +kernel) (by decide +kernel) (by decide +kernel) (fun _ _ _ h => h) (Or.inl ⟨by rfl, ?hyA7⟩) (by assumption) ?restA7
  case hyA7 => (intro w5 hSw; (try dsimp only at hSw); go_simp; try with_reducible rfl)
  case' restA7 => (try simp only [Act.put, List.setIfInBounds_toArray, List.set_cons_zero, List.set_cons_succ])
  refine wpAnyH_done (by kernel_rfl) ?_ _
  (try go_simp)
  (try simp only [Act.put, List.setIfInBounds_toArray, List.set_cons_zero, List.set_cons_succ])
  clear sd
  go_wp2_with fail
  go_ret
  exact ⟨rfl, N2.out, M2.out, C2.out⟩
end Go.Proofs.YtkapejcbmonfkaaGreatDoor

namespace Go.Proofs.YtkapejcbmonfkaaGreatDoor
open Go.RowKit

set_option maxRecDepth 100000 in
set_option maxHeartbeats 8000000 in
theorem orderV_any (w0 : World) (bl g1 m1 br g2 m2 : Nat) (hm1 : w0.heap.size ≤ m1) (hm2 : w0.heap.size ≤ m2) (hmm : m1 ≠ m2) (Zf Yf : List Int) (hZf : Zf.length < 140737488355328) (hYf : Yf.length < 140737488355328) (d : Nat) : ∀ (t u : Tm) (p q : Option Addr) (cp cq : Nat) (Z Y : List Int) (w : World), nodes t ≤ d → TmAt w0 t p → TmAt w0 u q → Good t → Good u → Below w0.heap.size w0 w → NumSt w bl g1 m1 Z → NumSt w br g2 m2 Y → varsT t Z <+: Zf → varsT u Y <+: Yf →
    Calls Tryz.prog 62 #[t.val p cp, u.val q cq, .func (.func 63) #[] #[.pointer (some ⟨bl, 0, none⟩), .pointer (some ⟨br, 0, none⟩)]] w fun e w' => e = .returned (.int .i64 (ordT (instT (bindsZ Zf) t) (instT (bindsZ Yf) u))) ∧ (ordT (instT (bindsZ Zf) t) (instT (bindsZ Yf) u) = 0 → NumSt w' bl g1 m1 (varsT t Z) ∧ NumSt w' br g2 m2 (varsT u Y)) ∧ Chg [m1, m2] w w' := by
  induction d with
  | zero => intro t u p q cp cq w h; have := nodes_pos t; omega
  | succ d ih =>
    intro t u p q cp cq Z Y w hd hT hU gt gu hB0 hNZ hNY hpz hpy
    have HPZ := hid hpz
    have HPY := hid hpy
    have lm1 := hNZ.num.lt
    have lm2 := hNY.num.lt
    have hvt : (Lit.int .i64 t.var).wf = true := gt.1.head.var
    have hvu : (Lit.int .i64 u.var).wf = true := gu.1.head.var
    have hlz : Z.length < 140737488355328 := by have := hpz.length_le; have := varsT_ge t Z; omega
    have hly : Y.length < 140737488355328 := by have := hpy.length_le; have := varsT_ge u Y; omega
    have HVT := hid (varsT_args t Z)
    have HVU := hid (varsT_args u Y)
    obtain ⟨a, hae⟩ : ∃ a, a = instT (bindsZ Zf) t := ⟨_, rfl⟩
    obtain ⟨e, hbe⟩ : ∃ e, e = instT (bindsZ Yf) u := ⟨_, rfl⟩
    rw [← hae, ← hbe]
    have A1 := hid (fun (h : t.kind = 1) => (show a = leaf 1 ⟨#[]⟩ ⟨#[]⟩ ((Z.idxOf t.var : Nat) : Int) by
      rw [hae, instT_var h]
      exact instV_bindsZ Zf Z t.var (by
        have h8 := hpz
        rw [varsT_args, if_pos h] at h8
        exact (varsR_prefix t.args _).trans h8)))
    have E1 := hid (fun (h : u.kind = 1) => (show e = leaf 1 ⟨#[]⟩ ⟨#[]⟩ ((Y.idxOf u.var : Nat) : Int) by
      rw [hbe, instT_var h]
      exact instV_bindsZ Yf Y u.var (by
        have h8 := hpy
        rw [varsT_args, if_pos h] at h8
        exact (varsR_prefix u.args _).trans h8)))
    have A2 := hid (fun (h : t.kind ≠ 1) => (hae.trans (instT_not h)))
    have E2 := hid (fun (h : u.kind ≠ 1) => (hbe.trans (instT_not h)))
    have hka : a.kind = t.kind := by
      by_cases h : t.kind = 1
      · rw [A1.out h, h]; rfl
      · rw [A2.out h]; rfl
    have hkb : e.kind = u.kind := by
      by_cases h : u.kind = 1
      · rw [E1.out h, h]; rfl
      · rw [E2.out h]; rfl
    clear hae hbe hpz hpy
    obtain ⟨W0, hW0⟩ : ∃ W0, W0 = (w.alloc (tobj t p cp)).alloc (tobj u q cq) := ⟨_, rfl⟩
    have hB := hid (show Below w.heap.size w W0 by rw [hW0]; exact ((Below.refl w.heap.size w).alloc (Nat.le_refl _) _).alloc (by simp) _)
    have HS2 := hid (show W0.heap[w.heap.size + 1]? = some (tobj u q cq) by rw [hW0]; have h := heap_alloc_new (w.alloc (tobj t p cp)) (tobj u q cq); rwa [World.size_alloc] at h)
    have HS1 := hid (show W0.heap[w.heap.size]? = some (tobj t p cp) by rw [hW0]; exact (heap_alloc_old (w.alloc (tobj t p cp)) _ (by simp)).trans (heap_alloc_new w _))
    have hz0 : w.heap.size + 2 ≤ W0.heap.size := by rw [hW0]; simp
    have CN := hid (fun W => orderNums_any t.num u.num W (Nat.le_trans (bareT_le _) (by unfold maxLen; exact gt.1.head.num)) (Nat.le_trans (bareT_le _) (by unfold maxLen; exact gu.1.head.num)))
    have OT := hid gt.ok
    have OU := hid gu.ok
    have HG := hid (And.intro gt gu)
    have HT := hid hT
    have HU := hid hU
    have HE := hid (ordT_eq a e)
    have BWF := hid (fun (W : World) (h : Chg [m1, m2] W0 W) => (Chg.low (hB0.trans (hB.out.mono hB0.size)) h (fun x hx => by simp at hx; omega) : Below w0.heap.size w0 W))
    have NZw := hid hNZ
    have NYw := hid hNY
    have NZ := hid (hNZ.keep hB.out)
    have NY := hid (hNY.keep hB.out)
    clear hB0 hNZ hNY
    have HNE := hid (fun k (h : k < t.args.length) => (show nodes t.args[k] ≤ d by have := nodes_lt h; omega))
    have hlt := hT.len
    have hlu := hU.len
    unfold maxLen at hlt hlu
    obtain ⟨x0, x1, x2, x3, x4, x5⟩ := six_of HS1.out
    obtain ⟨y0, y1, y2, y3, y4, y5⟩ := six_of HS2.out
    obtain ⟨r, hr⟩ : ∃ r, r = ordT a e := ⟨_, rfl⟩
    rw [← hr]
    have HR := hid (show r = orI (cmpI (rankT t.kind) (rankT u.kind)) (ordG a e) by rw [hr, HE.out, hka, hkb])
    have hk1a := hka
    clear hr HE hT hU gt gu
    unfold tobj at hW0
    unfold Tm.val at ih ⊢
    have IH := hid ih
    clear ih
    by_cases hR : cmpI (rankT t.kind) (rankT u.kind) = 0
    · have hk := rank_inj OT.out.kind OU.out.kind (cmpI_zero.1 hR)
      have HR2 := hid (show r = ordG a e by rw [HR.out, hR]; rfl)
      have hRR := hid (cmpI_zero.2 (cmpI_zero.1 hR))
      clear HR hR
      rw [← hk] at y0 hW0 hRR ⊢
      rcases (show t.kind = 1 ∨ t.kind = 4 ∨ t.kind = 3 ∨ (t.kind ≠ 1 ∧ t.kind ≠ 4 ∧ t.kind ≠ 3) by omega) with h | h | h | ⟨h1, h4, h3⟩
      · have HV := hid (show r = cmpI ((Z.idxOf t.var : Nat) : Int) ((Y.idxOf u.var : Nat) : Int) by rw [HR2.out]; unfold ordG; rw [hka, if_pos h, A1.out h, E1.out (hk ▸ h)]; rfl)
        have hst : varsT t Z = addN Z t.var := by
          rw [HVT.out, if_pos h]
          rcases OT.out.args with h9 | h9
          · omega
          · rw [h9]; rfl
        have hsu : varsT u Y = addN Y u.var := by
          rw [HVU.out, if_pos (hk ▸ h)]
          rcases OU.out.args with h9 | h9
          · omega
          · rw [h9]; rfl
        rw [hst, hsu]
        have C1 := hid (fun (W : World) (x : NumSt W bl g1 m1 Z) (y : NumSt W br g2 m2 Y) => variant1_any bl g1 m1 br g2 m2 Z Y t.var u.var W x y hmm hvt hvu hlz hly)
        rw [← HV.out] at C1
        clear hst hsu hka hkb hk1a HVT HVU A1 E1 A2 E2 HPZ HPY BWF hvt hvu hlz hly HV
        rw [h] at x0 y0 hW0 hRR ⊢
        clear HR2 hk h HNE IH HT HU HG OT OU
        generalize addN Z t.var = Z2 at *
        generalize addN Y u.var = Y2 at *
        generalize t.var = tv at *
        generalize u.var = uv at *
        go_enter Tryz.func62, Tryz.ntmps62
        go_wp2_with fail
        rw [← hW0]
        clear hW0
        go_quiet ((first | fail | (go_at_call 91; exact Calls.quiet_of_same (rank_any _ _)) | (go_at_call 64; exact Calls.quiet_of_same ((compareI_any _ _ _).mono fun e w' h => ⟨by rw [hRR.out] at h; exact h.1, h.2.symm⟩))))
        obtain ⟨W1, hW1⟩ : ∃ W1, W1 = W0.drewN nq := ⟨_, rfl⟩
        have BD1 := hid (show Below W0.heap.size W0 W1 by rw [hW1]; exact drewN_below W0 nq)
        have a0 : W1.cell? ⟨w.heap.size, 0, none⟩ = some (.int .i64 1) := by rw [hW1]; exact x0
        have a4 : W1.cell? ⟨w.heap.size, 4, none⟩ = some (.int .i64 tv) := by rw [hW1]; exact x4
        have b4 : W1.cell? ⟨w.heap.size + 1, 4, none⟩ = some (.int .i64 uv) := by rw [hW1]; exact y4
        rw [← hW1]
        clear hW1 x0 x1 x2 x3 x4 x5 y0 y1 y2 y3 y4 y5 HS1 HS2
        go_wp2_with (first
          | (go_at_call 63; (with_reducible refine (C1.out _ (NZ.out.keep BD1.out) (NY.out.keep BD1.out)).mono ?_); rintro e w2 ⟨rfl, hn2, hy2, hc2⟩; have N2 := hid hn2; have Y3 := hid hy2; have C2 := hid (show Chg [m1, m2] w w2 from ((Chg.of_below hB.out).trans (Chg.of_below BD1.out)).trans hc2); clear hn2 hy2 hc2)
          | fail)
        go_ret
        exact ⟨rfl, fun _ => ⟨N2.out, Y3.out⟩, C2.out⟩
      · have HV := hid (show r = cmpF t.bits u.bits by rw [HR2.out]; unfold ordG; rw [hka, if_neg (by omega), if_pos h, A2.out (by omega), E2.out (by omega)]; rfl)
        have hst : varsT t Z = Z := by
          rw [HVT.out, if_neg (by omega)]
          rcases OT.out.args with h9 | h9
          · omega
          · rw [h9]; rfl
        have hsu : varsT u Y = Y := by
          rw [HVU.out, if_neg (by omega)]
          rcases OU.out.args with h9 | h9
          · omega
          · rw [h9]; rfl
        rw [hst, hsu]
        clear hst hsu hka hkb hk1a HVT HVU A1 E1 A2 E2 HPZ HPY BWF hvt hvu hlz hly
        obtain ⟨f1, -, -, z1⟩ := OT.out.fin h
        obtain ⟨f2, -, -, z2⟩ := OU.out.fin (hk ▸ h)
        rw [h] at x0 y0 hW0 hRR ⊢
        clear HR2 hk h HNE IH HT HU HG OT OU
        obtain ⟨n, hn⟩ : ∃ n : Nat, t.bits = (n : Int) := ⟨t.bits.toNat, by omega⟩
        obtain ⟨m, hm⟩ : ∃ m : Nat, u.bits = (m : Int) := ⟨u.bits.toNat, by omega⟩
        rw [hn] at f1 x3 hW0 HV ⊢
        rw [hm] at f2 y3 hW0 HV ⊢
        rw [Int.toNat_natCast] at f1 f2
        clear hn hm z1 z2
        have CF := hid (fun W => compareF_any n m W f1 f2)
        have r1 := run_frombits n
        have r2 := run_frombits m
        clear f1 f2
        generalize cmpF (n : Int) (m : Int) = z at *
        go_enter Tryz.func62, Tryz.ntmps62
        go_wp2_with fail
        rw [← hW0]
        clear hW0
        go_quiet ((first | fail | (go_at_call 91; exact Calls.quiet_of_same (rank_any _ _)) | (go_at_call 64; exact Calls.quiet_of_same ((compareI_any _ _ _).mono fun e w' h => ⟨by rw [hRR.out] at h; exact h.1, h.2.symm⟩))))
        go_wp2_with fail
        obtain ⟨W1, hW1⟩ : ∃ W1, W1 = W0.drewN nq := ⟨_, rfl⟩
        have hB1 := hid (show Below w.heap.size w W1 by rw [hW1]; exact hB.out.trans ((drewN_below W0 nq).mono hB.out.size))
        have a3 : W1.cell? ⟨w.heap.size, 3, none⟩ = some (.int .u64 (n : Int)) := by rw [hW1]; exact x3
        have b3 : W1.cell? ⟨w.heap.size + 1, 3, none⟩ = some (.int .u64 (m : Int)) := by rw [hW1]; exact y3
        rw [← hW1]
        clear hW1 x0 x1 x2 x3 x4 x5 y0 y1 y2 y3 y4 y5 HS1 HS2
        go_quiet ((first | fail | (go_at_call 92; exact Calls.quiet_of_same (CF.out _))))
        go_wp2
        go_ret
        have BX := hid (fun (n : Nat) => hB1.out.trans ((drewN_below W1 n).mono hB1.out.size))
        exact ⟨by rw [HV.out]; rfl, fun _ => ⟨NZw.out.keep (BX.out _), NYw.out.keep (BX.out _)⟩, Chg.of_below (BX.out _)⟩
      · have HV := hid (show r = numsWay t.num u.num by rw [HR2.out]; unfold ordG; rw [hka, if_neg (by omega), if_neg (by omega), if_pos h, A2.out (by omega), E2.out (by omega)]; rfl)
        have hst : varsT t Z = Z := by
          rw [HVT.out, if_neg (by omega)]
          rcases OT.out.args with h9 | h9
          · omega
          · rw [h9]; rfl
        have hsu : varsT u Y = Y := by
          rw [HVU.out, if_neg (by omega)]
          rcases OU.out.args with h9 | h9
          · omega
          · rw [h9]; rfl
        rw [hst, hsu]
        clear hst hsu hka hkb hk1a HVT HVU A1 E1 A2 E2 HPZ HPY BWF hvt hvu hlz hly
        rw [h] at x0 y0 hW0 hRR ⊢
        clear HR2 hk h HNE IH HT HU HG OT OU
        generalize numsWay t.num u.num = z at *
        generalize t.num = tn at *
        generalize u.num = un at *
        go_enter Tryz.func62, Tryz.ntmps62
        go_wp2_with fail
        rw [← hW0]
        clear hW0
        go_quiet ((first | fail | (go_at_call 91; exact Calls.quiet_of_same (rank_any _ _)) | (go_at_call 64; exact Calls.quiet_of_same ((compareI_any _ _ _).mono fun e w' h => ⟨by rw [hRR.out] at h; exact h.1, h.2.symm⟩))))
        go_wp2_with (go_at_call 94; (with_reducible refine (CN.out _).mono ?_); rintro e w2 ⟨rfl, hb2⟩; have B2 := hid hb2; clear hb2)
        go_ret
        have BX := hid (show Below w.heap.size w _ from hB.out.trans (((drewN_below W0 nq).trans (B2.out.mono (Nat.le_refl _))).mono hB.out.size))
        exact ⟨by rw [HV.out]; rfl, fun _ => ⟨NZw.out.keep BX.out, NYw.out.keep BX.out⟩, Chg.of_below BX.out⟩
      · have hq1 : (t.kind == 1) = false := beq_eq_false_iff_ne.2 h1
        have hq4 : (t.kind == 4) = false := beq_eq_false_iff_ne.2 h4
        have hq3 : (t.kind == 3) = false := beq_eq_false_iff_ne.2 h3
        obtain ⟨li, hli⟩ : ∃ li, li = cmpI (t.args.length : Int) (u.args.length : Int) := ⟨_, rfl⟩
        obtain ⟨ls, hls⟩ : ∃ ls, ls = cmpS t.name.data.toList u.name.data.toList := ⟨_, rfl⟩
        have h1u : u.kind ≠ 1 := by omega
        have hal : a.args = t.args.map (instT (bindsZ Zf)) := by rw [A2.out h1]; rfl
        have hel : e.args = u.args.map (instT (bindsZ Yf)) := by rw [E2.out h1u]; rfl
        have han : a.name = t.name := by rw [A2.out h1]; rfl
        have hen : e.name = u.name := by rw [E2.out h1u]; rfl
        have HV := hid (show r = orI (orI li ls) (ordL a.args e.args) by
          rw [HR2.out, hli, hls]; unfold ordG; rw [hka, if_neg h1, if_neg h4, if_neg h3, han, hen]
          rw [show a.args.length = t.args.length by rw [hal, List.length_map], show e.args.length = u.args.length by rw [hel, List.length_map]])
        have HST := hid (show varsT t Z = varsR t.args Z by rw [HVT.out, if_neg h1])
        have HSU := hid (show varsT u Y = varsR u.args Y by rw [HVU.out, if_neg h1u])
        rw [HST.out, HSU.out]
        have HPK := hid (fun k => (show varsR (t.args.take k) Z <+: Zf from (varsR_take_prefix t.args k Z).trans (by rw [← HST.out]; exact HPZ.out)))
        have HQK := hid (fun k => (show varsR (u.args.take k) Y <+: Yf from (varsR_take_prefix u.args k Y).trans (by rw [← HSU.out]; exact HPY.out)))
        have HVK := hid (fun k (hk : k < t.args.length) => varsR_take Z t.args k hk)
        have HUK := hid (fun k (hk : k < u.args.length) => varsR_take Y u.args k hk)
        have HAL := hid hal
        have HEL := hid hel
        have HAG := hid (fun k (hk : k < t.args.length) (hk2 : k < u.args.length) => (show ordL (a.args.drop k) (e.args.drop k) = orI (ordT (instT (bindsZ Zf) t.args[k]) (instT (bindsZ Yf) u.args[k])) (ordL (a.args.drop (k + 1)) (e.args.drop (k + 1))) by
          rw [ordL_drop a.args e.args k (by rw [hal]; simpa using hk) (by rw [hel]; simpa using hk2)]
          simp only [hal, hel, List.getElem_map]))
        clear hka hkb hk1a HVT HVU A1 E1 A2 E2 HPZ HPY hvt hvu hlz hly hal hel han hen h1u HST HSU
        have HLI := hid hli
        have CI := hid (show ∀ W, Calls Tryz.prog 64 #[.int .i64 (t.args.length : Int), .int .i64 (u.args.length : Int)] W fun e w' => e = .returned (.int .i64 li) ∧ W = w' from fun W => by rw [hli]; exact compareI_any _ _ W)
        have CS := hid (show ∀ W, Calls Tryz.prog 96 #[.string t.name, .string u.name] W fun e w' => e = .returned (.int .i64 ls) ∧ W = w' from fun W => by rw [hls]; exact compareS_any _ _ W)
        clear HR2 hk h1 h4 h3 OT OU CN hli hls
        have PO := hid (fun (W : World) => pair_cells W (.int .i64 li) (.int .i64 ls) 3)
        have SX := hid (show ∀ W : World, Chg [m1, m2] W0 W → (W.cell? ⟨w.heap.size, 5, none⟩ = some (.slice p t.args.length cp) ∧ W.cell? ⟨w.heap.size, 1, none⟩ = some (.string t.name) ∧ W.cell? ⟨w.heap.size + 1, 5, none⟩ = some (.slice q u.args.length cq) ∧ W.cell? ⟨w.heap.size + 1, 1, none⟩ = some (.string u.name)) from fun W h =>
          have o1 := (h.same _ (lt_of_block HS1.out) (by simp; omega)).trans HS1.out
          have o2 := (h.same _ (lt_of_block HS2.out) (by simp; omega)).trans HS2.out
          ⟨(six_of o1).c5, (six_of o1).c1, (six_of o2).c5, (six_of o2).c1⟩)
        clear HS1 HS2
        by_cases hor : orI li ls = 0
        · have hlen := hid (show t.args.length = u.args.length by have h := (orI_zero.1 hor).1; rw [HLI.out, cmpI_zero] at h; omega)
          have HV2 := hid (show r = ordL (a.args.drop 0) (e.args.drop 0) from (HV.out).trans (if_pos hor))
          have hqo : (orI li ls == 0) = true := beq_iff_eq.2 hor
          have hqn : (orI li ls != 0) = false := by simp [hor]
          clear HV hor HLI
          go_enter Tryz.func62, Tryz.ntmps62
          go_wp2_with fail
          rw [← hW0]
          clear hW0
          go_quiet ((first | fail | (go_at_call 91; exact Calls.quiet_of_same (rank_any _ _)) | (go_at_call 64; exact Calls.quiet_of_same ((compareI_any _ _ _).mono fun e w' h => ⟨by rw [hRR.out] at h; exact h.1, h.2.symm⟩))))
          go_wp2_with fail
          obtain ⟨W1, hW1⟩ : ∃ W1, W1 = W0.drewN nq := ⟨_, rfl⟩
          have hB1 := hid (show Below W0.heap.size W0 W1 by rw [hW1]; exact drewN_below W0 nq)
          rw [← hW1]
          clear hW1 x0 x1 x2 x3 x4 x5 y0 y1 y2 y3 y4 y5
          have s1 := SX.out W1 (Chg.of_below hB1.out)
          go_region_held3 (fun w' => w'.cell? ⟨w.heap.size, 5, none⟩ = some (.slice p t.args.length cp) ∧ w'.cell? ⟨w.heap.size, 1, none⟩ = some (.string t.name) ∧ w'.cell? ⟨w.heap.size + 1, 5, none⟩ = some (.slice q u.args.length cq) ∧ w'.cell? ⟨w.heap.size + 1, 1, none⟩ = some (.string u.name))
            (first
              | (with_reducible exact s1)
              | (with_reducible exact SX.out _ (Chg.of_below (bl_drew hB1.out)))
              | (with_reducible exact SX.out _ (Chg.of_below (bl_drew (bl_alloc hB1.out))))
              | (with_reducible exact SX.out _ (Chg.of_below (bl_alloc (bl_drew hB1.out))))
              | fail)
            ((first
              | (go_at_call 64; (with_reducible refine (CI.out _).mono ?_); rintro e w' ⟨rfl, rfl⟩)
              | (go_at_call 96; (with_reducible refine (CS.out _).mono ?_); rintro e w' ⟨rfl, rfl⟩)
              | (go_at_call 95; (with_reducible refine (or_any _ li ls _ (PO.out W1).1 (PO.out W1).2).mono ?_); rintro e w' ⟨rfl, rfl⟩)))
          obtain ⟨W2, hW2⟩ : ∃ W2, W2 = (W1.alloc (.cells #[.int .i64 li, .int .i64 ls] 3)).drew := ⟨_, rfl⟩
          have hB2 := hid (show Below W0.heap.size W0 W2 by rw [hW2]; exact bl_drew (bl_alloc hB1.out))
          rw [← hW2]
          clear hW2 s1 CI CS PO
          obtain ⟨s2a, s2d, s2b, s2c⟩ := SX.out W2 (Chg.of_below hB2.out)
          go_wp2_with fail
          (try simp only [hqn])
          go_loopw [67] (fun i wr => ∃ k : Nat, k ≤ t.args.length ∧ i = .int .i64 (k : Int) ∧ Hid (r = ordL (a.args.drop k) (e.args.drop k)) ∧ Hid (NumSt wr bl g1 m1 (varsR (t.args.take k) Z)) ∧ Hid (NumSt wr br g2 m2 (varsR (u.args.take k) Y)) ∧ Hid (Chg [m1, m2] W0 wr)) (fun i _ => t.args.length - (intOf i).toNat)
          case atStart => exact ⟨0, by omega, rfl, HV2, hid (by simpa [varsR] using NZ.out.keep hB2.out), hid (by simpa [varsR] using NY.out.keep hB2.out), hid (Chg.of_below hB2.out)⟩
          case round =>
            clear HV2 hB2 hB1
            obtain ⟨k, hk, rfl, hr, NZr, NYr, hBr⟩ := hrel
            obtain ⟨g5, -, k5, -⟩ := SX.out wr hBr.out
            by_cases hlt : k < t.args.length
            · have hlt2 : k < u.args.length := by rw [← hlen.out]; exact hlt
              have hk0 : (0 : Int) ≤ (k : Int) := by omega
              have hk1 : (k : Int) < (t.args.length : Int) := by omega
              have hk2 : (k : Int) < (u.args.length : Int) := by omega
              obtain ⟨b, o, rfl, e1, c1, hs1, ht1⟩ := HT.out.get k hlt
              obtain ⟨b2, o2, rfl, e2, c2, hs2, ht2⟩ := HU.out.get k hlt2
              have HCALL := hid (fun (W : World) (h : Below wr.heap.size wr W) => IH.out t.args[k] u.args[k] e1 e2 c1 c2 (varsR (t.args.take k) Z) (varsR (u.args.take k) Y) W (HNE.out k hlt) ht1 ht2 (HG.out.1.arg _ (List.getElem_mem hlt)).1 (HG.out.2.arg _ (List.getElem_mem hlt2)).1 ((BWF.out wr hBr.out).trans (h.mono (BWF.out wr hBr.out).size)) (NZr.out.keep h) (NYr.out.keep h) (by rw [← HVK.out k hlt]; exact HPK.out (k + 1)) (by rw [← HUK.out k hlt2]; exact HQK.out (k + 1)))
              have HZ2 := hid (HVK.out k hlt)
              have HY2 := hid (HUK.out k hlt2)
              rw [← HZ2.out, ← HY2.out] at HCALL
              clear HZ2 HY2
              have HRK := hid (hr.out.trans (HAG.out k hlt hlt2))
              have RR := hid (Below.refl wr.heap.size wr)
              have RF := hid (Chg.refl [m1, m2] wr)
              have RD := hid (show Chg [m1, m2] wr wr.drew from Chg.of_below (Below.refl wr.heap.size wr).drew)
              clear hr ht1 ht2
              generalize t.args[k] = t1 at *
              generalize u.args[k] = u1 at *
              generalize ordT (instT (bindsZ Zf) t1) (instT (bindsZ Yf) u1) = z at *
              have SR := hid (show ∀ W : World, Chg [m1, m2] wr W → (W.cell? ⟨w.heap.size, 5, none⟩ = some (.slice (some ⟨b, o, none⟩) t.args.length cp) ∧ W.cell? ⟨w.heap.size + 1, 5, none⟩ = some (.slice (some ⟨b2, o2, none⟩) u.args.length cq) ∧ W.cell? ⟨b, o + k * 6, none⟩ = some (.int .i64 t1.kind) ∧ W.cell? ⟨b, o + k * 6 + 1, none⟩ = some (.string t1.name) ∧ W.cell? ⟨b, o + k * 6 + 2, none⟩ = some (.string t1.num) ∧ W.cell? ⟨b, o + k * 6 + 3, none⟩ = some (.int .u64 t1.bits) ∧ W.cell? ⟨b, o + k * 6 + 4, none⟩ = some (.int .i64 t1.var) ∧ W.cell? ⟨b, o + k * 6 + 5, none⟩ = some (.slice e1 t1.args.length c1) ∧ W.cell? ⟨b2, o2 + k * 6, none⟩ = some (.int .i64 u1.kind) ∧ W.cell? ⟨b2, o2 + k * 6 + 1, none⟩ = some (.string u1.name) ∧ W.cell? ⟨b2, o2 + k * 6 + 2, none⟩ = some (.string u1.num) ∧ W.cell? ⟨b2, o2 + k * 6 + 3, none⟩ = some (.int .u64 u1.bits) ∧ W.cell? ⟨b2, o2 + k * 6 + 4, none⟩ = some (.int .i64 u1.var) ∧ W.cell? ⟨b2, o2 + k * 6 + 5, none⟩ = some (.slice e2 u1.args.length c2)) from fun W h =>
                have i1 := hs1.keep (BWF.out W (hBr.out.trans h))
                have i2 := hs2.keep (BWF.out W (hBr.out.trans h))
                have n := SX.out W (hBr.out.trans h)
                ⟨n.1, n.2.2.1, i1.c0, i1.c1, i1.c2, i1.c3, i1.c4, i1.c5, i2.c0, i2.c1, i2.c2, i2.c3, i2.c4, i2.c5⟩)
              have sr := SR.out wr RF.out
              clear hs1 hs2 g5 k5
              by_cases hz : z = 0
              · subst hz
                have HRN := hid (show r = ordL (a.args.drop (k + 1)) (e.args.drop (k + 1)) from HRK.out)
                clear HRK
                go_wp2_with fail
                go_region_held3 (fun w' => w'.cell? ⟨w.heap.size, 5, none⟩ = some (.slice (some ⟨b, o, none⟩) t.args.length cp) ∧ w'.cell? ⟨w.heap.size + 1, 5, none⟩ = some (.slice (some ⟨b2, o2, none⟩) u.args.length cq) ∧ w'.cell? ⟨b, o + k * 6, none⟩ = some (.int .i64 t1.kind) ∧ w'.cell? ⟨b, o + k * 6 + 1, none⟩ = some (.string t1.name) ∧ w'.cell? ⟨b, o + k * 6 + 2, none⟩ = some (.string t1.num) ∧ w'.cell? ⟨b, o + k * 6 + 3, none⟩ = some (.int .u64 t1.bits) ∧ w'.cell? ⟨b, o + k * 6 + 4, none⟩ = some (.int .i64 t1.var) ∧ w'.cell? ⟨b, o + k * 6 + 5, none⟩ = some (.slice e1 t1.args.length c1) ∧ w'.cell? ⟨b2, o2 + k * 6, none⟩ = some (.int .i64 u1.kind) ∧ w'.cell? ⟨b2, o2 + k * 6 + 1, none⟩ = some (.string u1.name) ∧ w'.cell? ⟨b2, o2 + k * 6 + 2, none⟩ = some (.string u1.num) ∧ w'.cell? ⟨b2, o2 + k * 6 + 3, none⟩ = some (.int .u64 u1.bits) ∧ w'.cell? ⟨b2, o2 + k * 6 + 4, none⟩ = some (.int .i64 u1.var) ∧ w'.cell? ⟨b2, o2 + k * 6 + 5, none⟩ = some (.slice e2 u1.args.length c2))
                  (first
                    | (with_reducible exact sr)
                    | (with_reducible exact SR.out _ RD.out)
                    | (with_reducible exact SR.out _ C2.out)
                    | fail)
                  ((first
                    | (go_at_call 62; (with_reducible refine (HCALL.out _ (bl_drew RR.out)).mono ?_); rintro e w2 ⟨rfl, hs2, hc2⟩; have S2 := hid hs2; have C2 := hid (show Chg [m1, m2] wr w2 from RD.out.trans hc2); clear hs2 hc2)))
                go_wp2
                go_roundw
                case rel => exact ⟨k + 1, by omega, by go_num, HRN, hid (S2.out trivial).1, hid (S2.out trivial).2, hid (hBr.out.trans C2.out)⟩
                case measure => simp [intOf]; omega
              · have hq : (z == 0) = false := beq_eq_false_iff_ne.2 hz
                have HRN := hid (show r = z from HRK.out.trans (if_neg hz))
                have HZN := hid hz
                clear HRK hz
                go_wp2_with fail
                go_region_held3 (fun w' => w'.cell? ⟨w.heap.size, 5, none⟩ = some (.slice (some ⟨b, o, none⟩) t.args.length cp) ∧ w'.cell? ⟨w.heap.size + 1, 5, none⟩ = some (.slice (some ⟨b2, o2, none⟩) u.args.length cq) ∧ w'.cell? ⟨b, o + k * 6, none⟩ = some (.int .i64 t1.kind) ∧ w'.cell? ⟨b, o + k * 6 + 1, none⟩ = some (.string t1.name) ∧ w'.cell? ⟨b, o + k * 6 + 2, none⟩ = some (.string t1.num) ∧ w'.cell? ⟨b, o + k * 6 + 3, none⟩ = some (.int .u64 t1.bits) ∧ w'.cell? ⟨b, o + k * 6 + 4, none⟩ = some (.int .i64 t1.var) ∧ w'.cell? ⟨b, o + k * 6 + 5, none⟩ = some (.slice e1 t1.args.length c1) ∧ w'.cell? ⟨b2, o2 + k * 6, none⟩ = some (.int .i64 u1.kind) ∧ w'.cell? ⟨b2, o2 + k * 6 + 1, none⟩ = some (.string u1.name) ∧ w'.cell? ⟨b2, o2 + k * 6 + 2, none⟩ = some (.string u1.num) ∧ w'.cell? ⟨b2, o2 + k * 6 + 3, none⟩ = some (.int .u64 u1.bits) ∧ w'.cell? ⟨b2, o2 + k * 6 + 4, none⟩ = some (.int .i64 u1.var) ∧ w'.cell? ⟨b2, o2 + k * 6 + 5, none⟩ = some (.slice e2 u1.args.length c2))
                  (first
                    | (with_reducible exact sr)
                    | (with_reducible exact SR.out _ RD.out)
                    | (with_reducible exact SR.out _ C2.out)
                    | fail)
                  ((first
                    | (go_at_call 62; (with_reducible refine (HCALL.out _ (bl_drew RR.out)).mono ?_); rintro e w2 ⟨rfl, hs2, hc2⟩; have S2 := hid hs2; have C2 := hid (show Chg [m1, m2] wr w2 from RD.out.trans hc2); clear hs2 hc2)))
                go_wp2
                go_ret
                exact ⟨by rw [HRN.out]; rfl, fun h => absurd (HRN.out.symm.trans h) HZN.out, (Chg.of_below hB.out).trans (hBr.out.trans C2.out)⟩
            · obtain rfl : k = t.args.length := by omega
              have HRN := hid (show r = 0 by rw [hr.out, List.drop_eq_nil_of_le (by rw [HAL.out, List.length_map]; exact Nat.le_refl _)]; simp [ordL])
              have HZE := hid (show NumSt wr bl g1 m1 (varsR t.args Z) ∧ NumSt wr br g2 m2 (varsR u.args Y) from ⟨by have h := NZr.out; rwa [List.take_length] at h, by have h := NYr.out; rwa [hlen.out, List.take_length] at h⟩)
              clear hr hlt
              go_wp2_with fail
              go_ret
              exact ⟨by rw [HRN.out]; rfl, fun _ => HZE.out, (Chg.of_below hB.out).trans hBr.out⟩
        · have HV2 := hid (show r = orI li ls from (HV.out).trans (if_neg hor))
          have hqo : (orI li ls == 0) = false := beq_eq_false_iff_ne.2 hor
          have HON := hid hor
          clear HV hor HLI
          go_enter Tryz.func62, Tryz.ntmps62
          go_wp2_with fail
          rw [← hW0]
          clear hW0
          go_quiet ((first | fail | (go_at_call 91; exact Calls.quiet_of_same (rank_any _ _)) | (go_at_call 64; exact Calls.quiet_of_same ((compareI_any _ _ _).mono fun e w' h => ⟨by rw [hRR.out] at h; exact h.1, h.2.symm⟩))))
          go_wp2_with fail
          obtain ⟨W1, hW1⟩ : ∃ W1, W1 = W0.drewN nq := ⟨_, rfl⟩
          have hB1 := hid (show Below W0.heap.size W0 W1 by rw [hW1]; exact drewN_below W0 nq)
          rw [← hW1]
          clear hW1 x0 x1 x2 x3 x4 x5 y0 y1 y2 y3 y4 y5
          have s1 := SX.out W1 (Chg.of_below hB1.out)
          go_region_held3 (fun w' => w'.cell? ⟨w.heap.size, 5, none⟩ = some (.slice p t.args.length cp) ∧ w'.cell? ⟨w.heap.size, 1, none⟩ = some (.string t.name) ∧ w'.cell? ⟨w.heap.size + 1, 5, none⟩ = some (.slice q u.args.length cq) ∧ w'.cell? ⟨w.heap.size + 1, 1, none⟩ = some (.string u.name))
            (first
              | (with_reducible exact s1)
              | (with_reducible exact SX.out _ (Chg.of_below (bl_drew hB1.out)))
              | (with_reducible exact SX.out _ (Chg.of_below (bl_drew (bl_alloc hB1.out))))
              | (with_reducible exact SX.out _ (Chg.of_below (bl_alloc (bl_drew hB1.out))))
              | fail)
            ((first
              | (go_at_call 64; (with_reducible refine (CI.out _).mono ?_); rintro e w' ⟨rfl, rfl⟩)
              | (go_at_call 96; (with_reducible refine (CS.out _).mono ?_); rintro e w' ⟨rfl, rfl⟩)
              | (go_at_call 95; (with_reducible refine (or_any _ li ls _ (PO.out W1).1 (PO.out W1).2).mono ?_); rintro e w' ⟨rfl, rfl⟩)))
          go_wp2
          go_ret
          exact ⟨by rw [HV2.out]; rfl, fun h => absurd (HV2.out.symm.trans h) HON.out, Chg.of_below (hB.out.trans ((bl_drew (bl_alloc hB1.out)).mono hB.out.size))⟩
    · have HV := hid (show r = cmpI (rankT t.kind) (rankT u.kind) by rw [HR.out]; unfold orI; rw [if_neg hR])
      have HRN := hid hR
      clear hka hkb hk1a HVT HVU A1 E1 A2 E2 HPZ HPY BWF hvt hvu hlz hly
      have hq : (cmpI (rankT t.kind) (rankT u.kind) == 0) = false := beq_eq_false_iff_ne.2 hR
      clear HR hR HNE IH HT HU HG OT OU CN
      go_enter Tryz.func62, Tryz.ntmps62
      go_wp2_with fail
      rw [← hW0]
      clear hW0
      go_quiet ((first | fail | (go_at_call 91; exact Calls.quiet_of_same (rank_any _ _)) | (go_at_call 64; exact Calls.quiet_of_same ((compareI_any _ _ _).mono fun e w' h => ⟨h.1, h.2.symm⟩))))
      go_wp2
      go_ret
      exact ⟨by rw [HV.out]; rfl, fun h => absurd (HV.out.symm.trans h) HRN.out, Chg.of_below (hB.out.trans ((drewN_below W0 nq).mono hB.out.size))⟩
end Go.Proofs.YtkapejcbmonfkaaGreatDoor

namespace Go.Proofs.YtkapejcbmonfkaaGreatDoor
open Go.RowKit

theorem checks_two {t u : Tm} (dt : AllT DomA t) (du : AllT DomA u) (h : checksErr vName numOk bitsOk [t, u] = 0) : Valid t ∧ Valid u := by
  unfold checksErr checksErr checksErr at h
  by_cases h1 : checkErr vName numOk bitsOk t = 0
  · rw [if_pos h1] at h
    by_cases h2 : checkErr vName numOk bitsOk u = 0
    · exact ⟨⟨dt, h1⟩, ⟨du, h2⟩⟩
    · rw [if_neg h2] at h; exact absurd h h2
  · rw [if_neg h1] at h; exact absurd h h1
set_option maxRecDepth 100000 in
set_option maxHeartbeats 4000000 in
theorem compareBad_any (t u : Tm) (p q : Option Addr) (cp cq : Nat) (w : World) (hT : TmAt w t p) (hU : TmAt w u q) (dt : AllT DomA t) (du : AllT DomA u) (hX : Utf w) (hE : checksErr vName numOk bitsOk [t, u] ≠ 0) :
    Calls Tryz.prog 11 #[t.val p cp, u.val q cq] w fun e w' => e = .returned (.tuple #[.int .i64 0, .int .i64 (checksErr vName numOk bitsOk [t, u])]) ∧ Below w.heap.size w w' := by
  obtain ⟨W0, hW0⟩ : ∃ W0, W0 = ((w.alloc (tobj t p cp)).alloc (tobj u q cq)).alloc (pobj t u p q cp cq) := ⟨_, rfl⟩
  have hB := hid (show Below w.heap.size w W0 by rw [hW0]; exact (((Below.refl w.heap.size w).alloc (Nat.le_refl _) _).alloc (by simp) _).alloc (by simp; omega) _)
  have HS3 := hid (show W0.heap[w.heap.size + 1 + 1]? = some (pobj t u p q cp cq) by rw [hW0]; have h := heap_alloc_new ((w.alloc (tobj t p cp)).alloc (tobj u q cq)) (pobj t u p q cp cq); rw [World.size_alloc, World.size_alloc] at h; exact h)
  have CK := checks_any vName numOk bitsOk DomA [t, u] (some ⟨w.heap.size + 1 + 1, 0, none⟩) 2 W0 (by unfold maxLen; simp) (.inr ⟨_, _, rfl, row_two HS3.out (hT.keep hB.out) (hU.keep hB.out)⟩) (oracleA _ (hX.keep hB.out)) (by unfold AllR AllR AllR; exact ⟨dt, du, trivial⟩)
  generalize checksErr vName numOk bitsOk [t, u] = z at *
  have HC := hid (show Calls Tryz.prog 46 #[.slice (some ⟨w.heap.size + 1 + 1, 0, none⟩) 2 2] W0 fun e w' => e = .returned (.int .i64 z) ∧ Below W0.heap.size W0 w' from CK)
  have hq : (z == 0) = false := beq_eq_false_iff_ne.2 hE
  have hq2 : (z != 0) = true := by simp [hE]
  unfold tobj pobj at hW0
  unfold Tm.val
  clear CK HS3 hT hU dt du hX hE
  go_enter Tryz.func11, Tryz.ntmps11
  go_wp2_with (go_at_call 46; rw [← hW0]; (with_reducible refine HC.out.mono ?_); rintro e w1 ⟨rfl, hb1⟩; have B1 := hid (hB.out.trans (hb1.mono hB.out.size)); clear hb1 HC)
  go_ret2
  exact ⟨rfl, B1.out⟩
/-- Compare's answer. -/
def cmpAns (t u : Tm) : Int := if checksErr vName numOk bitsOk [t, u] = 0 then ordT t u else 0
theorem compareAll_any (t u : Tm) (p q : Option Addr) (cp cq : Nat) (w : World) (hT : TmAt w t p) (hU : TmAt w u q) (dt : AllT DomA t) (du : AllT DomA u) (hX : Utf w) :
    Calls Tryz.prog 11 #[t.val p cp, u.val q cq] w fun e w' => e = .returned (.tuple #[.int .i64 (cmpAns t u), .int .i64 (checksErr vName numOk bitsOk [t, u])]) ∧ Below w.heap.size w w' := by
  unfold cmpAns
  by_cases h : checksErr vName numOk bitsOk [t, u] = 0
  · obtain ⟨vt, vu⟩ := checks_two dt du h
    rw [if_pos h, h]
    exact compareT_any t u p q cp cq w hT hU vt vu hX
  · rw [if_neg h]
    exact compareBad_any t u p q cp cq w hT hU dt du hX h
end Go.Proofs.YtkapejcbmonfkaaGreatDoor

namespace Go.Proofs.YtkapejcbmonfkaaGreatDoor
open Go.RowKit Go.Maps

set_option maxRecDepth 100000 in
set_option maxHeartbeats 4000000 in
theorem variantBad_any (t u : Tm) (p q : Option Addr) (cp cq : Nat) (w : World) (hT : TmAt w t p) (hU : TmAt w u q) (dt : AllT DomA t) (du : AllT DomA u) (hX : Utf w) (hE : checksErr vName numOk bitsOk [t, u] ≠ 0) :
    Calls Tryz.prog 20 #[t.val p cp, u.val q cq] w fun e w' => e = .returned (.tuple #[.bool false, .int .i64 (checksErr vName numOk bitsOk [t, u])]) ∧ Below w.heap.size w w' := by
  obtain ⟨W0, hW0⟩ : ∃ W0, W0 = ((w.alloc (tobj t p cp)).alloc (tobj u q cq)).alloc (pobj t u p q cp cq) := ⟨_, rfl⟩
  have hB := hid (show Below w.heap.size w W0 by rw [hW0]; exact (((Below.refl w.heap.size w).alloc (Nat.le_refl _) _).alloc (by simp) _).alloc (by simp; omega) _)
  have HS3 := hid (show W0.heap[w.heap.size + 1 + 1]? = some (pobj t u p q cp cq) by rw [hW0]; have h := heap_alloc_new ((w.alloc (tobj t p cp)).alloc (tobj u q cq)) (pobj t u p q cp cq); rw [World.size_alloc, World.size_alloc] at h; exact h)
  have CK := checks_any vName numOk bitsOk DomA [t, u] (some ⟨w.heap.size + 1 + 1, 0, none⟩) 2 W0 (by unfold maxLen; simp) (.inr ⟨_, _, rfl, row_two HS3.out (hT.keep hB.out) (hU.keep hB.out)⟩) (oracleA _ (hX.keep hB.out)) (by unfold AllR AllR AllR; exact ⟨dt, du, trivial⟩)
  generalize checksErr vName numOk bitsOk [t, u] = z at *
  have HC := hid (show Calls Tryz.prog 46 #[.slice (some ⟨w.heap.size + 1 + 1, 0, none⟩) 2 2] W0 fun e w' => e = .returned (.int .i64 z) ∧ Below W0.heap.size W0 w' from CK)
  have hq : (z == 0) = false := beq_eq_false_iff_ne.2 hE
  have hq2 : (z != 0) = true := by simp [hE]
  unfold tobj pobj at hW0
  unfold Tm.val
  clear CK HS3 hT hU dt du hX hE
  go_enter Tryz.func20, Tryz.ntmps20
  go_wp2_with (go_at_call 46; rw [← hW0]; (with_reducible refine HC.out.mono ?_); rintro e w1 ⟨rfl, hb1⟩; have B1 := hid (hB.out.trans (hb1.mono hB.out.size)); clear hb1 HC)
  go_ret2
  exact ⟨rfl, B1.out⟩
/-- How two terms stand with their variables numbered anew. -/
def ordV (t u : Tm) : Int := ordT (instT (bindsZ (varsT t [])) t) (instT (bindsZ (varsT u [])) u)
set_option maxRecDepth 100000 in
set_option maxHeartbeats 8000000 in
theorem variantT_any (t u : Tm) (p q : Option Addr) (cp cq : Nat) (w : World) (hT : TmAt w t p) (hU : TmAt w u q) (vt : Valid t) (vu : Valid u) (hX : Utf w) :
    Calls Tryz.prog 20 #[t.val p cp, u.val q cq] w fun e w' => e = .returned (.tuple #[.bool (ordV t u == 0), .int .i64 0]) ∧ Below w.heap.size w w' := by
  obtain ⟨W0, hW0⟩ : ∃ W0, W0 = ((w.alloc (tobj t p cp)).alloc (tobj u q cq)).alloc (pobj t u p q cp cq) := ⟨_, rfl⟩
  have hB := hid (show Below w.heap.size w W0 by rw [hW0]; exact (((Below.refl w.heap.size w).alloc (Nat.le_refl _) _).alloc (by simp) _).alloc (by simp; omega) _)
  have HS3 := hid (show W0.heap[w.heap.size + 1 + 1]? = some (pobj t u p q cp cq) by rw [hW0]; have h := heap_alloc_new ((w.alloc (tobj t p cp)).alloc (tobj u q cq)) (pobj t u p q cp cq); rw [World.size_alloc, World.size_alloc] at h; exact h)
  have HS2 := hid (show W0.heap[w.heap.size + 1]? = some (tobj u q cq) by rw [hW0]; have h := heap_alloc_new (w.alloc (tobj t p cp)) (tobj u q cq); rw [World.size_alloc] at h; exact (heap_alloc_old _ _ (by simp)).trans h)
  have HS1 := hid (show W0.heap[w.heap.size]? = some (tobj t p cp) by rw [hW0]; exact (heap_alloc_old _ _ (by simp; omega)).trans ((heap_alloc_old (w.alloc (tobj t p cp)) _ (by simp)).trans (heap_alloc_new w _)))
  have CK := checks_any vName numOk bitsOk DomA [t, u] (some ⟨w.heap.size + 1 + 1, 0, none⟩) 2 W0 (by unfold maxLen; simp) (.inr ⟨_, _, rfl, row_two HS3.out (hT.keep hB.out) (hU.keep hB.out)⟩) (oracleA _ (hX.keep hB.out)) (by unfold AllR AllR AllR; exact ⟨vt.1, vu.1, trivial⟩)
  rw [show checksErr vName numOk bitsOk [t, u] = 0 by unfold checksErr checksErr checksErr; rw [vt.2, vu.2]; rfl] at CK
  have HC := hid (show Calls Tryz.prog 46 #[.slice (some ⟨w.heap.size + 1 + 1, 0, none⟩) 2 2] W0 fun e w' => e = .returned (.int .i64 0) ∧ Below W0.heap.size W0 w' from CK)
  have h4t : nodes t ≤ 4000 := by
    have h := vt.2
    unfold checkErr at h
    split at h
    · cases h
    · omega
  have h4u : nodes u ≤ 4000 := by
    have h := vu.2
    unfold checkErr at h
    split at h
    · cases h
    · omega
  have hlz : (varsT t []).length < 140737488355328 := by have := varsT_length t []; simp only [List.length_nil] at this; omega
  have hly : (varsT u []).length < 140737488355328 := by have := varsT_length u []; simp only [List.length_nil] at this; omega
  have HORD := hid (fun (W : World) (bl g1 m1 br g2 m2 : Nat) (hw : Below w.heap.size w W) (h1 : w.heap.size ≤ m1) (h2 : w.heap.size ≤ m2) (h3 : m1 ≠ m2) (n1 : NumSt W bl g1 m1 []) (n2 : NumSt W br g2 m2 []) => orderV_any w bl g1 m1 br g2 m2 h1 h2 h3 (varsT t []) (varsT u []) hlz hly (nodes t) t u p q cp cq [] [] W (Nat.le_refl _) hT hU vt.good vu.good hw n1 n2 List.prefix_rfl List.prefix_rfl)
  obtain ⟨z, hz⟩ : ∃ z, z = ordV t u := ⟨_, rfl⟩
  rw [← hz]
  have HZ := hid (show ordT (instT (bindsZ (varsT t [])) t) (instT (bindsZ (varsT u [])) u) = z from hz.symm)
  have hmm := @run_makeMap Tryz.prog
  obtain ⟨x0, x1, x2, x3, x4, x5⟩ := six_of HS1.out
  obtain ⟨y0, y1, y2, y3, y4, y5⟩ := six_of HS2.out
  unfold tobj pobj at hW0
  unfold Tm.val at HORD ⊢
  clear CK HS3 hT hU vt vu hX hz hlz hly h4t h4u
  go_enter Tryz.func20, Tryz.ntmps20
  go_upto_region 5 with (first
    | (go_at_call 46; rw [← hW0]; (with_reducible refine HC.out.mono ?_); rintro e w1 ⟨rfl, hb1⟩; have P1 := hid (obj_keep HS1.out hb1); have P2 := hid (obj_keep HS2.out hb1); have B1 := hid (hB.out.trans (hb1.mono hB.out.size)); clear hb1 HC hW0 x0 x1 x2 x3 x4 x5 y0 y1 y2 y3 y4 y5 HS1 HS2)
    | (go_at_call 56; first | ((with_reducible refine (numbering_any w1).mono ?_); rintro e w2 ⟨rfl, hw2⟩; have HW2 := hid hw2; clear hw2) | ((with_reducible refine (numbering_any w2).mono ?_); rintro e w3 ⟨rfl, hw3⟩; have HW3 := hid hw3; clear hw3))
    | fail)
  obtain ⟨W4, hW4⟩ : ∃ W4, W4 = (w3.alloc (.cells #[.func (.func 90) #[] #[.pointer (some ⟨w1.heap.size + 1, 0, none⟩)]] 79)).alloc (.cells #[.func (.func 90) #[] #[.pointer (some ⟨w2.heap.size + 1, 0, none⟩)]] 79) := ⟨_, rfl⟩
  rw [← hW4]
  have e2 := HW2.out
  have e3 := HW3.out
  have hs2 : w2.heap.size = w1.heap.size + 2 := by rw [e2]; simp
  have hs3 : w3.heap.size = w2.heap.size + 2 := by rw [e3]; simp
  have n1 := Nums.made w1
  have n2 := Nums.made w2
  have g1 := World.alloc_heap_new (w1.alloc (.map #[] 0)) (.cells #[.map (some w1.heap.size)] 117)
  have g2 := World.alloc_heap_new (w2.alloc (.map #[] 0)) (.cells #[.map (some w2.heap.size)] 117)
  rw [← e2, World.size_alloc] at g1
  rw [← e3, World.size_alloc] at g2
  have b2 : Below w1.heap.size w1 w2 := by rw [e2]; exact ((Below.refl _ _).alloc (Nat.le_refl _) _).alloc (by simp) _
  have b3 : Below w2.heap.size w2 w3 := by rw [e3]; exact ((Below.refl _ _).alloc (Nat.le_refl _) _).alloc (by simp) _
  have b4 : Below w3.heap.size w3 W4 := by rw [hW4]; exact ((Below.refl _ _).alloc (Nat.le_refl _) _).alloc (by simp) _
  have b24 : Below w2.heap.size w2 W4 := b3.trans (b4.mono (by omega))
  have b14 : Below w1.heap.size w1 W4 := b2.trans (b24.mono (by omega))
  have NA : NumSt W4 w3.heap.size (w1.heap.size + 1) w1.heap.size [] := by
    refine ⟨?_, ?_, ?_⟩
    · rw [hW4]; exact (cells_of ((heap_alloc_old (w3.alloc _) _ (by simp)).trans (heap_alloc_new w3 _)) 0).trans rfl
    · exact heap_cell_keep b24 ((cells_of g1 0).trans rfl)
    · refine Nums.keep ?_ b24
      rw [e2]
      exact n1.keep ((Below.refl _ _).alloc (Nat.le_refl _) _)
  have NB : NumSt W4 (w3.heap.size + 1) (w2.heap.size + 1) w2.heap.size [] := by
    refine ⟨?_, ?_, ?_⟩
    · rw [hW4]
      have h := heap_alloc_new (w3.alloc (.cells #[.func (.func 90) #[] #[.pointer (some ⟨w1.heap.size + 1, 0, none⟩)]] 79)) (.cells #[.func (.func 90) #[] #[.pointer (some ⟨w2.heap.size + 1, 0, none⟩)]] 79)
      rw [World.size_alloc] at h
      exact (cells_of h 0).trans rfl
    · exact heap_cell_keep b4 ((cells_of g2 0).trans rfl)
    · refine Nums.keep ?_ b4
      rw [e3]
      exact n2.keep ((Below.refl _ _).alloc (Nat.le_refl _) _)
  have B4 := hid (show Below w.heap.size w W4 from B1.out.trans (b14.mono B1.out.size))
  have P14 := hid (obj_keep P1.out b14)
  have P24 := hid (obj_keep P2.out b14)
  have hlo := B1.out.size
  have HO := hid (HORD.out W4 w3.heap.size (w1.heap.size + 1) w1.heap.size (w3.heap.size + 1) (w2.heap.size + 1) w2.heap.size B4.out (by omega) (by omega) (by omega) NA NB)
  rw [HZ.out] at HO
  obtain ⟨m1, hm1⟩ : ∃ m1, m1 = w1.heap.size := ⟨_, rfl⟩
  obtain ⟨m2, hm2⟩ : ∃ m2, m2 = w2.heap.size := ⟨_, rfl⟩
  have hmw : w.heap.size ≤ m1 ∧ w.heap.size ≤ m2 := by omega
  rw [← hm1, ← hm2] at HO
  clear NA NB n1 n2 g1 g2 e2 e3 hs2 hs3 b2 b3 b4 b24 b14 hW4 HW2 HW3 P1 P2 HORD HZ B1 hlo hm1 hm2
  generalize w3.heap.size = bl at *
  obtain ⟨x0, x1, x2, x3, x4, x5⟩ := six_of P14.out
  obtain ⟨y0, y1, y2, y3, y4, y5⟩ := six_of P24.out
  go_wp2_with (first
    | (go_at_call 62; (with_reducible refine HO.out.mono ?_); rintro e w5 ⟨rfl, -, hc5⟩; have B5 := hid (show Below w.heap.size w w5 from Chg.low B4.out hc5 (fun x hx => by simp at hx; omega)); clear hc5 HO)
    | fail)
  go_ret2
  exact ⟨rfl, B5.out⟩
/-- Variant's answer. -/
def varAns (t u : Tm) : Bool := if checksErr vName numOk bitsOk [t, u] = 0 then ordV t u == 0 else false
theorem variantAll_any (t u : Tm) (p q : Option Addr) (cp cq : Nat) (w : World) (hT : TmAt w t p) (hU : TmAt w u q) (dt : AllT DomA t) (du : AllT DomA u) (hX : Utf w) :
    Calls Tryz.prog 20 #[t.val p cp, u.val q cq] w fun e w' => e = .returned (.tuple #[.bool (varAns t u), .int .i64 (checksErr vName numOk bitsOk [t, u])]) ∧ Below w.heap.size w w' := by
  unfold varAns
  by_cases h : checksErr vName numOk bitsOk [t, u] = 0
  · obtain ⟨vt, vu⟩ := checks_two dt du h
    rw [if_pos h, h]
    exact variantT_any t u p q cp cq w hT hU vt vu hX
  · rw [if_neg h]
    exact variantBad_any t u p q cp cq w hT hU dt du hX h
end Go.Proofs.YtkapejcbmonfkaaGreatDoor

namespace Go.Proofs.YtkapejcbmonfkaaGreatDoor
open Go.RowKit

theorem infoBnd : (Tryz.prog.info? 47).map (fun i => (i.zero, i.size, i.bytes)) = some (some (.agg #[.int .i64 0, .int .i64 0, .string ⟨#[]⟩, .string ⟨#[]⟩, .int .u64 0, .int .i64 0, .slice none 0 0]), 7, 88) := by kernel_rfl
theorem cellsBnd_one (x : Int × Tm × Option Addr × Nat) : ∀ u ∈ cellsB x, u.oneCell' = true := by
  intro u hu
  rcases List.mem_cons.1 hu with rfl | hu
  · rfl
  · exact cellsT_one _ u hu
end Go.Proofs.YtkapejcbmonfkaaGreatDoor

namespace Go.Proofs.YtkapejcbmonfkaaGreatDoor
open Go.RowKit

set_option maxRecDepth 100000 in
set_option maxHeartbeats 32000000 in
theorem plainR_any (l : List Tm) (p : Option Addr) (cap : Nat) (w : World) (hl : ListAt w l p) (hsz : nodesL l ≤ 1048576) (hcp : ∀ k (h : k < l.length), AllT CpOk l[k]) :
    Calls Tryz.prog 15 #[.slice p l.length cap] w fun e w' => ∃ q c L S, e = .returned (.slice q l.length c) ∧ WeakL w' w.heap.size q l.length c L S ∧ L.map (·.1) = plainD l ∧ Below w.heap.size w w' := by
  have hln := len_nodesL l
  have CA := hid (allVars_any l p cap w hl (by omega) (by omega))
  have HL := hid hl
  have HCP := hid hcp
  have hzl : (varsR l []).length ≤ 1048576 := by have := varsR_length l []; simp only [List.length_nil] at this; omega
  obtain ⟨P, hP⟩ : ∃ P, P = plainD l := ⟨_, rfl⟩
  rw [← hP]
  have HP := hid (show P = l.map (instT (bindsZ (varsR l []))) from hP)
  clear hP hl hcp
  generalize varsR l [] = Z at *
  go_enter Tryz.func15, Tryz.ntmps15
  go_wp2_with (first
    | (go_at_call 14; (with_reducible refine CA.out.mono ?_); rintro e w1 ⟨qv, cv, rfl, ho1, hb1⟩; have HV := hid (fun k (hk : k < Z.length) => rowI_get ho1 rfl k hk); have B1 := hid hb1; clear ho1 hb1 CA)
    | fail)
  have HBZ := hid (bindsZ_length Z)
  go_loopw [4, 5] (fun s i wr => ∃ (k : Nat) (L : RowB) (S : List Nat) (q : Option Addr) (c : Nat), k ≤ Z.length ∧ s = .slice q k c ∧ i = .int .i64 (k : Int) ∧ Hid (BindL wr w1.heap.size q k c L S) ∧ Hid (L.map (fun x => (x.1, x.2.1)) = (bindsZ Z).take k) ∧ Hid (Below w1.heap.size w1 wr)) (fun _ i _ => Z.length - (intOf i).toNat)
  case atStart => exact ⟨0, [], [], none, 0, by omega, rfl, rfl, hid (BindL.nil _ _), hid (by simp), hid (Below.refl _ _)⟩
  case round =>
    obtain ⟨k, L, S, q, c, hk, rfl, rfl, BL, HLM, hBr⟩ := hrel
    by_cases hlk : k < Z.length
    · have hk0 : (0 : Int) ≤ (k : Int) := by omega
      have hk1 : (k : Int) < (Z.length : Int) := by omega
      obtain ⟨g0, rfl, hv1⟩ := HV.out k hlk
      have HTK := hid (show (bindsZ Z).take (k + 1) = (bindsZ Z).take k ++ [(Z[k], leaf 1 ⟨#[]⟩ ⟨#[]⟩ (k : Int))] by
        have hk2 : k < (bindsZ Z).length := by rw [HBZ.out]; exact hlk
        rw [← List.take_append_getElem hk2, bindsZ_get Z k hk2])
      clear HV HL HCP HP B1 HBZ
      generalize Z[k] = bv at *
      have SY := hid (show ∀ W : World, Below w1.heap.size w1 W → W.cell? ⟨g0, k, none⟩ = some (.int .i64 bv) from fun W h => heap_cell_keep h hv1)
      have SX := hid (fun (W : World) (h : Below wr.heap.size wr W) => SY.out W (hBr.out.trans (h.mono hBr.out.size)))
      have BRD := hid (show Below wr.heap.size wr wr.drew from (Below.refl _ _).drew)
      have CV := hid (fun (W : World) => (show Calls Tryz.prog 42 #[.int .i64 (k : Int)] W fun e w' => e = .returned (.agg #[.int .i64 1, .string ⟨#[]⟩, .string ⟨#[]⟩, .int .u64 0, .int .i64 (k : Int), .slice none 0 0]) ∧ Below W.heap.size W w' from makeV (k : Int) W))
      clear hv1
      go_wp2_with fail
      have sd := SX.out wr.drew BRD.out
      refine wp_region_held_drew (S := fun W => W.cell? ⟨g0, k, none⟩ = some (.int .i64 bv)) (by kernel_rfl) sd (fun hHeld => ?_)
      refine' wpAnyH_take (i := 0) (v := (.slice q k c)) rfl (by decide +kernel) (by decide +kernel) (by decide +kernel) (fun _ _ _ h => h) (Or.inl ⟨by rfl, ?hyT1⟩) (by assumption) ?restT1
      case hyT1 => (intro w5 hSw; (try dsimp only at hSw); go_simp; try with_reducible rfl)
      case' restT1 => (try simp only [Act.put, List.setIfInBounds_toArray, List.set_cons_zero, List.set_cons_succ])
      refine' wpAnyH_take (i := 1) (v := (.slice (some ⟨g0, 0, none⟩) Z.length cv)) rfl (by decide +kernel) (by decide +kernel) (by decide +kernel) (fun _ _ _ h => h) (Or.inl ⟨by rfl, ?hyT2⟩) (by assumption) ?restT2
      case hyT2 => (intro w5 hSw; (try dsimp only at hSw); go_simp; try with_reducible rfl)
      case' restT2 => (try simp only [Act.put, List.setIfInBounds_toArray, List.set_cons_zero, List.set_cons_succ])
      refine' wpAnyH_take (i := 2) (v := (.int .i64 (k : Int))) rfl (by decide +kernel) (by decide +kernel) (by decide +kernel) (fun _ _ _ h => h) (Or.inl ⟨by rfl, ?hyT3⟩) (by assumption) ?restT3
      case hyT3 => (intro w5 hSw; (try dsimp only at hSw); go_simp; try with_reducible rfl)
      case' restT3 => (try simp only [Act.put, List.setIfInBounds_toArray, List.set_cons_zero, List.set_cons_succ])
      refine' wpAnyH_take (i := 3) (v := (.pointer (some ⟨g0, k, none⟩))) rfl (by decide +kernel) (by decide +kernel) (by decide +kernel) (fun _ _ _ h => h) (Or.inl ⟨by rfl, ?hyT4⟩) (by assumption) ?restT4
      case hyT4 => (intro w5 hSw; (try dsimp only at hSw); go_simp; try with_reducible rfl)
      case' restT4 => (try simp only [Act.put, List.setIfInBounds_toArray, List.set_cons_zero, List.set_cons_succ])
      refine' wpAnyH_take (i := 4) (v := (.int .i64 bv)) rfl (by decide +kernel) (by decide +kernel) (by decide +kernel) (fun _ _ _ h => h) (Or.inl ⟨by rfl, ?hyT5⟩) (by assumption) ?restT5
      case hyT5 => (intro w5 hSw; (try dsimp only at hSw); go_simp; try with_reducible rfl)
      case' restT5 => (try simp only [Act.put, List.setIfInBounds_toArray, List.set_cons_zero, List.set_cons_succ])
      refine' wpAnyH_take (i := 5) (v := (.int .i64 (k : Int))) rfl (by decide +kernel) (by decide +kernel) (by decide +kernel) (fun _ _ _ h => h) (Or.inl ⟨by rfl, ?hyT6⟩) (by assumption) ?restT6
      case hyT6 => (intro w5 hSw; (try dsimp only at hSw); go_simp; try with_reducible rfl)
      case' restT6 => (try simp only [Act.put, List.setIfInBounds_toArray, List.set_cons_zero, List.set_cons_succ])
      refine wpAnyH_ready (rs := [6]) (by decide +kernel) (by simp) ?_
      refine AllReadyH.cons rfl (fun K hK => ?_) AllReadyH.nil
      go_simp
      (with_reducible refine (CV.out wr.drew).mono ?_)
      rintro e w2 ⟨rfl, hb2⟩
      have BR2 := hid (show Below wr.heap.size wr w2 from BRD.out.trans hb2)
      clear hb2
      refine hK.out _ _ (SX.out w2 BR2.out) (fun hHeld => ?_)
      clear hK K
      (try simp only [Act.put, List.setIfInBounds_toArray, List.set_cons_zero, List.set_cons_succ])
      refine' wpAnyH_take (i := 7) (v := (.agg #[.int .i64 bv, .int .i64 1, .string ⟨#[]⟩, .string ⟨#[]⟩, .int .u64 0, .int .i64 (k : Int), .slice none 0 0])) rfl (by decide +kernel) (by decide +kernel) (by decide +kernel) (fun _ _ _ h => h) (Or.inl ⟨by rfl, ?hyT7⟩) (by assumption) ?restT7
      case hyT7 => (intro w5 hSw; (try dsimp only at hSw); go_simp; try with_reducible rfl)
      case' restT7 => (try simp only [Act.put, List.setIfInBounds_toArray, List.set_cons_zero, List.set_cons_succ])
      refine wpAnyH_ready (rs := [8]) (by decide +kernel) (by simp) ?_
      refine AllReadyH.cons rfl (fun K hK => ?_) AllReadyH.nil
      go_simp
      obtain ⟨W3, hW3⟩ : ∃ W3, W3 = w2.alloc (.cells #[.int .i64 bv, .int .i64 1, .string ⟨#[]⟩, .string ⟨#[]⟩, .int .u64 0, .int .i64 (k : Int), .slice none 0 0] 47) := ⟨_, rfl⟩
      rw [← hW3]
      have BA := hid (show Below w2.heap.size w2 W3 by rw [hW3]; exact (Below.refl _ _).alloc (Nat.le_refl _) _)
      have HN3 := hid (show W3.heap[w2.heap.size]? = some (.cells #[.int .i64 bv, .int .i64 1, .string ⟨#[]⟩, .string ⟨#[]⟩, .int .u64 0, .int .i64 (k : Int), .slice none 0 0] 47 (0, 0)) by rw [hW3]; exact World.alloc_heap_new w2 _)
      have BR3 := hid (show Below wr.heap.size wr W3 from BR2.out.trans (BA.out.mono BR2.out.size))
      have HZ3 := hid (show W3.heap.size = w2.heap.size + 1 by rw [hW3]; simp)
      clear hW3
      refine hK.out _ _ (SX.out W3 BR3.out) (fun hHeld => ?_)
      clear hK K
      (try simp only [Act.put, List.setIfInBounds_toArray, List.set_cons_zero, List.set_cons_succ])
      refine wpAnyH_ready (rs := [9]) (by decide +kernel) (by simp) ?_
      refine AllReadyH.cons rfl (fun K hK => ?_) AllReadyH.nil
      have ML3 := hid (BL.out.same (w' := W3) fun x _ hx => BR3.out.block x hx)
      have hsz := And.intro BR2.out.size hBr.out.size
      obtain ⟨i0, hi, hz0, hz1, hz2⟩ := info_parts infoBnd
      have HM3 := hid (show WeakT W3 (leaf 1 ⟨#[]⟩ ⟨#[]⟩ (k : Int)) none 0 [] from (leaf_mine _ _ _ _ _).weak)
      refine step_append_lies W3 rfl _ _ 45 rfl w1.heap.size 47 i0 (.agg #[.int .i64 0, .int .i64 0, .string ⟨#[]⟩, .string ⟨#[]⟩, .int .u64 0, .int .i64 0, .slice none 0 0]) 7 88 Tryz.underlying45 hi hz0 hz1 hz2 rfl (by decide) (.slice q k c) k (flatB L) (by simp [Act.eval, Act.put]) ML3.out.row ⟨w2.heap.size, 0, none⟩ 1 1 (cellsB (bv, leaf 1 ⟨#[]⟩ ⟨#[]⟩ (k : Int), none, 0)) (by simp [Act.eval, Act.put]) rfl (World.news_of_block HN3.out) (cellsBnd_one _) (by decide) (by unfold maxLen; omega) (by omega) (by rw [HZ3.out]; omega) W3.heap.size rfl ?_
      intro g c' w5 hown hgrow hat hlt5
      have HG5 := hid hgrow
      have BL5 := hid (BindL.snoc (x := (bv, leaf 1 ⟨#[]⟩ ⟨#[]⟩ (k : Int), none, 0)) ML3.out HM3.out (fun x _ h1 => by cases h1) (fun x _ h1 => by cases h1) (fun x h1 => by cases h1) hown hgrow (hat.imp id (fun h => by omega)))
      have B5 := hid (show Below w1.heap.size w1 w5 from (hBr.out.trans (BR3.out.mono hBr.out.size)).grown hgrow (by rw [HZ3.out]; omega) (fun x e => by have := ownBlock_le ML3.out.row e; omega))
      have HM5 := hid (show (L ++ [((bv, leaf 1 ⟨#[]⟩ ⟨#[]⟩ (k : Int), none, 0) : Int × Tm × Option Addr × Nat)]).map (fun x => (x.1, x.2.1)) = (bindsZ Z).take (k + 1) by rw [List.map_append, HLM.out, HTK.out]; rfl)
      clear hown hgrow hat hlt5 HG5 ML3 HM3 HN3 BA BL
      refine hK.out _ _ (SY.out w5 B5.out) (fun hHeld => ?_)
      clear hK K
      (try simp only [Act.put, List.setIfInBounds_toArray, List.set_cons_zero, List.set_cons_succ])
      refine' wpAnyH_take (i := 10) (v := (.slice (some ⟨g, 0, none⟩) (k + 1) c')) rfl (by decide +kernel) (by decide +kernel) (by decide +kernel) (fun _ _ _ h => h) (Or.inl ⟨by rfl, ?hyT8⟩) (by assumption) ?restT8
      case hyT8 => (intro w5 hSw; (try dsimp only at hSw); go_simp; try with_reducible rfl)
      case' restT8 => (try simp only [Act.put, List.setIfInBounds_toArray, List.set_cons_zero, List.set_cons_succ])
      refine wpAnyH_done (by kernel_rfl) ?_ _
      (try go_simp)
      (try simp only [Act.put, List.setIfInBounds_toArray, List.set_cons_zero, List.set_cons_succ])
      clear sd
      go_wp2_with fail
      go_roundw
      case rel => exact ⟨k + 1, L ++ [(bv, leaf 1 ⟨#[]⟩ ⟨#[]⟩ (k : Int), none, 0)], S ++ [], some ⟨g, 0, none⟩, c', by omega, rfl, by go_num, BL5, HM5, B5⟩
      case measure => simp [intOf]; omega
    · obtain rfl : k = Z.length := by omega
      have HQ := hid (show BindAt wr (bindsZ Z) q from by
        have h := BL.out.at_
        rw [HLM.out] at h
        rwa [show Z.length = (bindsZ Z).length from HBZ.out.symm, List.take_length] at h)
      have B2 := hid (B1.out.trans (hBr.out.mono B1.out.size))
      have HBL := hid (show ∀ (W : World), Below wr.heap.size wr W → ∀ (k : Nat) (h : k < l.length) (p2 : Option Addr) (c2 : Nat), TmAt W l[k] p2 → Calls Tryz.prog 55 #[l[k].val p2 c2, .slice q Z.length c] W fun e w' => ∃ (q : Option Addr) (c : Nat) (S : List Nat), e = .returned ((instT (bindsZ Z) l[k]).val q c) ∧ WeakT w' (instT (bindsZ Z) l[k]) q c S ∧ (∀ k ∈ S, W.heap.size ≤ k) ∧ Below W.heap.size W w' from fun W hW k h p2 c2 ht => by
        have h5 := inst_any (bindsZ Z) q c (by rw [HBZ.out]; omega) (fun j hj => by rw [bindsZ_get Z j hj]; exact leaf_cp _) (nodes l[k]) l[k] p2 c2 W (Nat.le_refl _) ht (HCP.out k h) (HQ.out.keep hW)
        rwa [HBZ.out] at h5)
      have HBn := hid (show w.heap.size ≤ wr.heap.size from Nat.le_trans B1.out.size hBr.out.size)
      clear BL HLM hBr B1 HQ HCP hlk hk HV HBZ
      obtain ⟨wb, rfl⟩ : ∃ wb, wb = wr := ⟨_, rfl⟩
      go_wp2_with fail
      go_loopw [6, 7] (fun s i wr => ∃ (k : Nat) (L : Row) (S : List Nat) (q : Option Addr) (c : Nat), k ≤ l.length ∧ s = .slice q k c ∧ i = .int .i64 (k : Int) ∧ Hid (WeakL wr wb.heap.size q k c L S) ∧ Hid (L.map (·.1) = P.take k) ∧ Hid (Below wb.heap.size wb wr)) (fun _ i _ => l.length - (intOf i).toNat)
      case atStart => exact ⟨0, [], [], none, 0, by omega, rfl, rfl, hid (WeakL.nil _ _), hid (by simp), hid (Below.refl _ _)⟩
      case round =>
        obtain ⟨k, L, S, qo, co, hk, rfl, rfl, HWL, HLM, BQ⟩ := hrel
        by_cases hlk : k < l.length
        · obtain ⟨b, o, hp, e1, f1, hs, ht⟩ := HL.out.get k hlk
          subst hp
          have hs2 : Six wr b (o + k * 6) l[k] e1 f1 := hs.keep (B2.out.trans (BQ.out.mono B2.out.size))
          obtain ⟨y0, y1, y2, y3, y4, y5⟩ := hs2
          have hkP : k < P.length := by rw [HP.out]; simpa using hlk
          have HC := hid (HBL.out wr BQ.out k hlk e1 f1 (ht.keep (B2.out.trans (BQ.out.mono B2.out.size))))
          have HTK := hid (show P.take (k + 1) = P.take k ++ [instT (bindsZ Z) l[k]] by
            rw [← List.take_append_getElem hkP]
            simp only [HP.out, List.getElem_map])
          unfold Tm.val at HC
          have HSZ := hid (And.intro BQ.out.size HBn.out)
          clear hs ht hkP HBL
          generalize instT (bindsZ Z) l[k] = t2 at *
          generalize l[k] = t1 at *
          go_wp2_with (first
            | (go_at_call 55; (with_reducible refine HC.out.mono ?_); rintro e w3 ⟨q2, c2, S1, rfl, hm, hS1, hb3⟩; have HM1 := hid hm; have HS1 := hid hS1; have BR3 := hid hb3; clear hm hS1 hb3 HC)
            | (at_builtin; refine wpList_appW _ rfl _ _ rfl ?_; refine ⟨w3, wb.heap.size, qo, k, co, L, S, t2, q2, c2, S1, rfl, rfl, ⟨rfl, HWL.out.same (w' := w3) (fun x _ hx => BR3.out.block x hx), HM1.out, by omega, by have := BR3.out.size; have := HSZ.out; omega, fun x hx h1 => by have := HS1.out x h1; have := HWL.out.own.lt x hx; omega, fun x hx h1 => by have := HS1.out x h1; have := ownBlock_lt HWL.out.row hx; omega, fun x hx => by have := HS1.out x hx; have := HSZ.out; omega⟩, ?_⟩; intro g c' w5 hd; have ML5 := hid hd.list; have B5 := hid (show Below wb.heap.size wb w5 from (BQ.out.trans (BR3.out.mono BQ.out.size)).trans hd.below); clear hd)
            | fail)
          go_roundw
          case rel => exact ⟨k + 1, L ++ [(t2, q2, c2)], S ++ S1, some ⟨g, 0, none⟩, c', by omega, rfl, by go_num, ML5, hid (by rw [List.map_append, HLM.out, HTK.out]; rfl), B5⟩
          case measure => simp [intOf]; omega
        · obtain rfl : k = l.length := by omega
          have HE := hid (show L.map (·.1) = P by rw [HLM.out, show l.length = P.length by rw [HP.out]; simp, List.take_length])
          clear hlk
          go_wp2_with fail
          go_ret
          exact ⟨qo, co, L, S, rfl, HWL.out.base HBn.out, HE.out, B2.out.trans (BQ.out.mono B2.out.size)⟩
end Go.Proofs.YtkapejcbmonfkaaGreatDoor
