/- Walks: rule where its head pushes something back, up to its last box. No condition but those that each theorem names. Walks: rule where its head pushes something back, from its last box on. No condition but those that each theorem names. Walks: rule where its head pushes something back: its last two statements. No condition but those that each theorem names. Walk: rule, of whatever term may be. No condition but those that the theorem names. -/
import Derived.Test.YtiaddfedaikaiaaGreatDoorD32m
import Derived.Test.YtiaddfedaikaiaaGreatDoorD9um
namespace Go.Proofs.YtiaddfedaikaiaaGreatDoor
open Go.RowKit

mutual
/-- No part of a tree has this one alone as its arguments. -/
def NoA (a : Tm) : Tm → Prop
  | .mk _ _ _ _ _ l => l ≠ [a] ∧ NoAR a l
def NoAR (a : Tm) : List Tm → Prop
  | [] => True
  | t :: l => NoA a t ∧ NoAR a l
end
theorem noAR_mem {a : Tm} : ∀ {l : List Tm}, (∀ u ∈ l, NoA a u) → NoAR a l
  | [], _ => by unfold NoAR; trivial
  | t :: l, h => by unfold NoAR; exact ⟨h t (by simp), noAR_mem fun u hu => h u (by simp [hu])⟩
theorem noA_small (a : Tm) : ∀ (d : Nat) (t : Tm), nodes t ≤ d → nodes t ≤ nodes a → NoA a t
  | 0, t, h, _ => by have := nodes_pos t; omega
  | d + 1, t, h, h2 => by
    cases t with
    | mk k n u b v l =>
      unfold NoA
      have hn := nodes_args (.mk k n u b v l)
      refine ⟨fun e => ?_, noAR_mem fun x hx => ?_⟩
      · subst e
        have : nodesL [a] = nodes a := by simp [nodesL]
        have hh : (Tm.mk k n u b v [a]).args = [a] := rfl
        rw [hh, this] at hn
        omega
      · obtain ⟨j, hj, rfl⟩ := List.getElem_of_mem hx
        have := nodes_lt (t := .mk k n u b v l) (k := j) hj
        exact noA_small a d _ (by show nodes (Tm.mk k n u b v l).args[j] ≤ d; omega) (by show nodes (Tm.mk k n u b v l).args[j] ≤ nodes a; omega)
mutual
theorem tm_det {W : World} : ∀ {t u : Tm} {p : Option Addr}, TmAt W t p → TmAt W u p → t.args.length = u.args.length → t.args = u.args
  | .mk _ _ _ _ _ l, .mk _ _ _ _ _ m, p, h1, h2, h => by
    unfold TmAt at h1 h2
    show l = m
    have h : l.length = m.length := h
    rcases h1.2 with e | ⟨b, o, e, r1⟩
    · subst e
      exact (List.length_eq_zero_iff.1 h.symm).symm
    · rcases h2.2 with e2 | ⟨b', o', e2, r2⟩
      · subst e2
        exact List.length_eq_zero_iff.1 h
      · subst e
        obtain ⟨rfl, rfl⟩ : b = b' ∧ o = o' := by simpa using e2
        exact row_det r1 r2 h
theorem row_det {W : World} : ∀ {l m : List Tm} {b o : Nat}, RowT W l b o → RowT W m b o → l.length = m.length → l = m
  | [], m, _, _, _, _, h => (List.length_eq_zero_iff.1 h.symm).symm
  | t :: l, [], _, _, _, _, h => by simp at h
  | t :: l, u :: m, b, o, h1, h2, h => by
    unfold RowT at h1 h2
    obtain ⟨⟨p, c, s1, t1⟩, r1⟩ := h1
    obtain ⟨⟨p', c', s2, t2⟩, r2⟩ := h2
    have e5 := Option.some.inj (s1.c5.symm.trans s2.c5)
    have e0 := Option.some.inj (s1.c0.symm.trans s2.c0)
    have e1 := Option.some.inj (s1.c1.symm.trans s2.c1)
    have e2 := Option.some.inj (s1.c2.symm.trans s2.c2)
    have e3 := Option.some.inj (s1.c3.symm.trans s2.c3)
    have e4 := Option.some.inj (s1.c4.symm.trans s2.c4)
    simp at e0 e1 e2 e3 e4 e5
    obtain ⟨rfl, e5, -⟩ := e5
    have ha := tm_det t1 t2 e5
    rw [row_det r1 r2 (by simpa using h)]
    congr 1
    cases t
    cases u
    simp [Tm.kind, Tm.name, Tm.num, Tm.bits, Tm.var, Tm.args] at *
    exact ⟨e0, e1, e2, e3, e4, ha⟩
end
mutual
/-- A tree outlives a store into a box, where no part of it has what lies in the box alone as its arguments. -/
theorem TmAt.past2 {W W' : World} {b : Nat} {a : Tm} {pa : Option Addr} {ca : Nat} (hb : W.heap[b]? = some (tobj a pa ca)) (ha : TmAt W a pa) (hk : Past W W' b) : ∀ {t : Tm} {p : Option Addr}, NoA a t → TmAt W t p → TmAt W' t p
  | .mk kk nn uu bb vv l, p, g, k => by
    unfold NoA at g
    unfold TmAt at k ⊢
    refine ⟨k.1, ?_⟩
    rcases k.2 with k | ⟨b', o, e, k⟩
    · exact .inl k
    · by_cases hl : l = []
      · exact .inl hl
      · refine .inr ⟨b', o, e, RowT.past2 hb ha hk (fun e => ?_) g.2 k⟩
        subst e
        cases l with
        | nil => exact hl rfl
        | cons x l =>
          unfold RowT at k
          obtain ⟨⟨q, c, s, tx⟩, r⟩ := k
          have c5 := s.c5
          rw [cells_of hb] at c5
          have h5 := (Array.getElem?_eq_some_iff.1 c5).1
          have ho : o = 0 := by simp at h5; omega
          subst ho
          cases l with
          | cons y l =>
            unfold RowT at r
            obtain ⟨⟨q', c', s', -⟩, -⟩ := r
            have d0 := s'.c0
            rw [cells_of hb] at d0
            have := (Array.getElem?_eq_some_iff.1 d0).1
            simp at this
          | nil =>
            have sa := six_of hb
            have e5 := Option.some.inj (s.c5.symm.trans sa.c5)
            have e0 := Option.some.inj (s.c0.symm.trans sa.c0)
            have e1 := Option.some.inj (s.c1.symm.trans sa.c1)
            have e2 := Option.some.inj (s.c2.symm.trans sa.c2)
            have e3 := Option.some.inj (s.c3.symm.trans sa.c3)
            have e4 := Option.some.inj (s.c4.symm.trans sa.c4)
            simp at e0 e1 e2 e3 e4 e5
            obtain ⟨rfl, e5, -⟩ := e5
            have hx := tm_det tx ha e5
            apply g.1
            congr 1
            cases x
            cases a
            simp [Tm.kind, Tm.name, Tm.num, Tm.bits, Tm.var, Tm.args] at *
            exact ⟨e0, e1, e2, e3, e4, hx⟩
theorem RowT.past2 {W W' : World} {b : Nat} {a : Tm} {pa : Option Addr} {ca : Nat} (hb : W.heap[b]? = some (tobj a pa ca)) (ha : TmAt W a pa) (hk : Past W W' b) : ∀ {l : List Tm} {k o : Nat}, k ≠ b → NoAR a l → RowT W l k o → RowT W' l k o
  | [], _, _, _, _, _ => by unfold RowT; trivial
  | t :: l, k, o, hne, g, q => by
    unfold NoAR at g
    unfold RowT at q ⊢
    obtain ⟨⟨p, cap, h1, h2⟩, h3⟩ := q
    have hlt : k < W.heap.size := by
      have := World.block_lt_of_cell? W _ h1.c0
      simpa using this
    exact ⟨⟨p, cap, h1.same (hk k hlt hne), TmAt.past2 hb ha hk g.1 h2⟩, RowT.past2 hb ha hk hne g.2 h3⟩
end
theorem RuleSt.keep {bx k4 k5 k6 k7 k8 : Nat} {n N : Int} {a1 a2 : Tm} {p1 p2 : Option Addr} {c1 c2 : Nat} {w V V' : World} {N' : Int} (h : RuleSt bx n N a1 a2 p1 p2 c1 c2 k4 k5 k6 k7 k8 w V) (hb : But1 bx V V') (hx : Box1 V' bx N') : RuleSt bx n N' a1 a2 p1 p2 c1 c2 k4 k5 k6 k7 k8 w V' := by
  have hlt := h.but.lt
  have n4 := h.n4
  have n5 := h.n5
  have n6 := h.n6
  have n7 := h.n7
  have n8 := h.n8
  exact { but := h.but.trans hb, box := hx, o4 := hb.obj h.o4 (by omega), o5 := hb.obj h.o5 (by omega), o6 := hb.obj h.o6 (by omega), o7 := hb.obj h.o7 (by omega), o8 := hb.obj h.o8 (by omega), n4 := n4, n5 := n5, n6 := n6, n7 := n7, n8 := n8, d45 := h.d45, d46 := h.d46, d47 := h.d47, d48 := h.d48, d56 := h.d56, d57 := h.d57, d58 := h.d58, d67 := h.d67, d68 := h.d68, d78 := h.d78 }
theorem RuleSt.far {bx k4 k5 k6 k7 k8 : Nat} {n N : Int} {a1 a2 : Tm} {p1 p2 : Option Addr} {c1 c2 : Nat} {w V V' : World} {k : Nat} (h : RuleSt bx n N a1 a2 p1 p2 c1 c2 k4 k5 k6 k7 k8 w V) (hg : V.grownBy V' (some k)) (hk : w.heap.size ≤ k) (e4 : k4 ≠ k) (e5 : k5 ≠ k) (e6 : k6 ≠ k) (e7 : k7 ≠ k) (e8 : k8 ≠ k) : RuleSt bx n N a1 a2 p1 p2 c1 c2 k4 k5 k6 k7 k8 w V' := by
  have hlt := h.but.lt
  have far : ∀ {j : Nat} {ob : Obj}, V.heap[j]? = some ob → j ≠ k → V'.heap[j]? = some ob := fun h hne => (hg.block _ (lt_of_block h) (fun e => hne (Option.some.inj e))).trans h
  have hx := far h.box (by omega)
  exact { but := ⟨h.but.chg.grown1 hg (fun x e => .inl (by have := Option.some.inj e; omega)), h.but.here, ⟨_, hx⟩⟩, box := hx, o4 := far h.o4 e4, o5 := far h.o5 e5, o6 := far h.o6 e6, o7 := far h.o7 e7, o8 := far h.o8 e8, n4 := h.n4, n5 := h.n5, n6 := h.n6, n7 := h.n7, n8 := h.n8, d45 := h.d45, d46 := h.d46, d47 := h.d47, d48 := h.d48, d56 := h.d56, d57 := h.d57, d58 := h.d58, d67 := h.d67, d68 := h.d68, d78 := h.d78 }
theorem RuleSt.at5 {bx k4 k5 k6 k7 k8 : Nat} {n N : Int} {a1 a2 : Tm} {p1 p2 : Option Addr} {c1 c2 : Nat} {w V V' : World} {a : Tm} {p : Option Addr} {c : Nat} (h : RuleSt bx n N a1 a2 p1 p2 c1 c2 k4 k5 k6 k7 k8 w V) (hg : V.grownBy V' (some k5)) (h5 : V'.heap[k5]? = some (tobj a p c)) : RuleSt bx n N a a2 p p2 c c2 k4 k5 k6 k7 k8 w V' := by
  have hlt := h.but.lt
  have n5 := h.n5
  have far : ∀ {j : Nat} {ob : Obj}, V.heap[j]? = some ob → j ≠ k5 → V'.heap[j]? = some ob := fun h hne => (hg.block _ (lt_of_block h) (fun e => hne (Option.some.inj e))).trans h
  have hx := far h.box (by omega)
  exact { but := ⟨h.but.chg.grown1 hg (fun x e => .inl (by have := Option.some.inj e; omega)), h.but.here, ⟨_, hx⟩⟩, box := hx, o4 := far h.o4 h.d45, o5 := h5, o6 := far h.o6 h.d56.symm, o7 := far h.o7 h.d57.symm, o8 := far h.o8 h.d58.symm, n4 := h.n4, n5 := h.n5, n6 := h.n6, n7 := h.n7, n8 := h.n8, d45 := h.d45, d46 := h.d46, d47 := h.d47, d48 := h.d48, d56 := h.d56, d57 := h.d57, d58 := h.d58, d67 := h.d67, d68 := h.d68, d78 := h.d78 }
theorem More.keep {bx k4 k5 k6 k7 k8 k9 : Nat} {w V V' : World} {ob : Obj} (h : More k4 k5 k6 k7 k8 k9 w V ob) (hb : But1 bx V V') (hlt : bx < w.heap.size) : More k4 k5 k6 k7 k8 k9 w V' ob := by
  have n9 := h.n9
  exact ⟨hb.obj h.o9 (by omega), n9, h.d49, h.d59, h.d69, h.d79, h.d89⟩
theorem More.far {k4 k5 k6 k7 k8 k9 k : Nat} {w V V' : World} {ob : Obj} (h : More k4 k5 k6 k7 k8 k9 w V ob) (hg : V.grownBy V' (some k)) (hne : k9 ≠ k) : More k4 k5 k6 k7 k8 k9 w V' ob :=
  ⟨(hg.block _ (lt_of_block h.o9) (fun e => hne (Option.some.inj e))).trans h.o9, h.n9, h.d49, h.d59, h.d69, h.d79, h.d89⟩
theorem ten_st {bx k4 k5 k6 k7 k8 k9 : Nat} {n : Int} {a1 a2 : Tm} {p1 p2 : Option Addr} {c1 c2 : Nat} {w W v : World} {ob : Obj} (hst : RuleSt bx n (n + 2) a1 a2 p1 p2 c1 c2 k4 k5 k6 k7 k8 w W) (hmo : More k4 k5 k6 k7 k8 k9 w W ob) (hb : But1 bx W v) (hx : Box1 v bx (n + 2 + 1)) :
    RuleSt bx n (n + 3) a1 a2 p1 p2 c1 c2 k4 k5 k6 k7 k8 w (v.alloc (.cells #[.int .i64 1, .string ⟨#[]⟩, .string ⟨#[]⟩, .int .u64 0, .int .i64 (n + 2), .slice none 0 0] 25)) ∧ More k4 k5 k6 k7 k8 k9 w (v.alloc (.cells #[.int .i64 1, .string ⟨#[]⟩, .string ⟨#[]⟩, .int .u64 0, .int .i64 (n + 2), .slice none 0 0] 25)) ob ∧ More k4 k5 k6 k7 k8 v.heap.size w (v.alloc (.cells #[.int .i64 1, .string ⟨#[]⟩, .string ⟨#[]⟩, .int .u64 0, .int .i64 (n + 2), .slice none 0 0] 25)) (.cells #[.int .i64 1, .string ⟨#[]⟩, .string ⟨#[]⟩, .int .u64 0, .int .i64 (n + 2), .slice none 0 0] 25 (0, 0)) ∧ k9 ≠ v.heap.size := by
  have hal : Below v.heap.size v (v.alloc (.cells #[.int .i64 1, .string ⟨#[]⟩, .string ⟨#[]⟩, .int .u64 0, .int .i64 (n + 2), .slice none 0 0] 25)) := (Below.refl _ _).alloc (Nat.le_refl _) _
  have hb2 := hb.trans (But1.of_below hx hal)
  have hlt := hst.but.lt
  have s1 := hst.keep hb hx
  have s2 := hst.keep hb2 (hx.keep hal)
  have m1 := hmo.keep hb hlt
  have l4 := lt_of_block s1.o4
  have l5 := lt_of_block s1.o5
  have l6 := lt_of_block s1.o6
  have l7 := lt_of_block s1.o7
  have l8 := lt_of_block s1.o8
  have l9 := lt_of_block m1.o9
  have hsz := (hst.but.trans hb).size
  exact ⟨by rw [show n + 3 = n + 2 + 1 by omega]; exact s2, hmo.keep hb2 hlt, ⟨heap_alloc_new _ _, hsz, by omega, by omega, by omega, by omega, by omega⟩, by omega⟩
set_option maxRecDepth 100000 in
set_option maxHeartbeats 16000000 in
theorem push_call (bx : Nat) (n : Int) (a3 a2 a4 : Tm) (p3 p2 p4 : Option Addr) (c3 c2 c4 : Nat) (k4 k5 k6 k7 k8 k9 : Nat) (w W : World) {u0 u2 u3 u10 u11 u12 u13 u14 u15 u16 u17 u18 u19 u20 u21 u22 u23 u24 u25 u26 u27 u28 u29 u30 u31 u32 u33 u34 u35 u36 u37 u38 u39 u40 u41 u42 u43 u44 u45 u46 u47 u48 u49 u50 u51 u52 u53 u54 u55 u56 u57 u58 u59 u60 u61 u62 u63 u64 u65 u66 u67 u68 u69 u70 u71 u72 u73 u74 u75 u76 : Value} (hst : RuleSt bx n (n + 2) a3 a2 p3 p2 c3 c2 k4 k5 k6 k7 k8 w W) (_hmo : More k4 k5 k6 k7 k8 k9 w W (.cells #[.int .i64 a4.kind, .string a4.name, .string a4.num, .int .u64 a4.bits, .int .i64 a4.var, .slice p4 a4.args.length c4] 25 (0, 0))) (T3 : TmAt w a3 p3) (g3 : Good a3) (hX : ∀ V, But1 bx w V → Utf V) (hn3 : nodes a3 ≤ 4000) (bb : Tm) (hc : callE a3 = some bb) (Q : Ending → World → Prop) (hQ : ∀ x w', (∃ k, x = .panicked [{ v := .iface 105 (.pointer (some ⟨k, 0, none⟩)), recovered := false }] ∧ BallAt w' k bb ∧ But1 bx w w') → Q x w') :
    Code.wp Tryz.prog tail6 (bodyPost Tryz.prog Tryz.f52 Q) ⟨#[u0, .func (.func 104) #[] #[.pointer (some ⟨bx, 0, none⟩)], u2, u3, .pointer (some ⟨k4, 0, none⟩), .pointer (some ⟨k5, 0, none⟩), .pointer (some ⟨k6, 0, none⟩), .pointer (some ⟨k7, 0, none⟩), .pointer (some ⟨k8, 0, none⟩), .pointer (some ⟨k9, 0, none⟩), u10, u11, u12, u13, u14, u15, u16, u17, u18, u19, u20, u21, u22, u23, u24, u25, u26, u27, u28, u29, u30, u31, u32, u33, u34, u35, u36, u37, u38, u39, u40, u41, u42, u43, u44, u45, u46, u47, u48, u49, u50, u51, u52, u53, u54, u55, u56, u57, u58, u59, u60, u61, u62, u63, u64, u65, u66, u67, u68, u69, u70, u71, u72, u73, u74, u75, u76], []⟩ W := by
  have HQ := hid hQ
  have NE := hid (show NeSt bx k4 k5 k6 k7 k8 from ne_st hst)
  have SR := hid (fun (V : World) (h : But1 bx W V) => (show V.cell? ⟨k5, 0, none⟩ = some (.int .i64 a3.kind) ∧ V.cell? ⟨k5, 1, none⟩ = some (.string a3.name) ∧ V.cell? ⟨k5, 2, none⟩ = some (.string a3.num) ∧ V.cell? ⟨k5, 3, none⟩ = some (.int .u64 a3.bits) ∧ V.cell? ⟨k5, 4, none⟩ = some (.int .i64 a3.var) ∧ V.cell? ⟨k5, 5, none⟩ = some (.slice p3 a3.args.length c3) from (six_free (h.obj hst.o5 (NE.out.e5).1)).1))
  have BB := hid (But1.refl hst.box)
  have XB := hid hst.box
  have N0 := hid hst.but
  have CN := hid (show ∀ V, But1 bx W V → Calls Tryz.prog 108 #[.agg #[.int .i64 a3.kind, .string a3.name, .string a3.num, .int .u64 a3.bits, .int .i64 a3.var, .slice p3 a3.args.length c3]] V fun x w' => ∃ k, x = .panicked [{ v := .iface 105 (.pointer (some ⟨k, 0, none⟩)), recovered := false }] ∧ BallAt w' k bb ∧ Below V.heap.size V w' from fun V h => by
    have hb := hst.but.trans h
    have h := callable_any a3 p3 c3 V (hb.tm T3) g3 (hX V hb) hn3
    rw [hc] at h
    exact h.mono fun x w' ⟨⟨k, a, b⟩, d⟩ => ⟨k, a, b, d⟩)
  clear hst _hmo T3 g3 hX hn3 hQ hc
  show Code.wp Tryz.prog tail6 _ _ _
  conv => arg 2; whnf
  obtain ⟨g0, g1, g2, g3, g4, g5⟩ := SR.out _ BB.out
  go_wp2_with (first
    | (go_at_call 108; (with_reducible refine (CN.out _ BB.out).mono ?_); rintro x v3 ⟨k, rfl, hk, hb3⟩; have K3 := hid hk; have BB := hid (BB.out.trans (But1.of_below XB.out hb3)); clear hb3 hk)
    | fail)
  exact ⟨rfl, HQ.out _ _ ⟨k, rfl, K3.out, N0.out.trans BB.out⟩⟩
set_option maxRecDepth 100000 in
set_option maxHeartbeats 16000000 in
theorem push_ten (bx : Nat) (n : Int) (a3 a2 a4 : Tm) (p3 p2 p4 : Option Addr) (c3 c2 c4 : Nat) (k4 k5 k6 k7 k8 k9 : Nat) (w W : World) {u0 u2 u3 u10 u11 u12 u13 u14 u15 u16 u17 u18 u19 u20 u21 u22 u23 u24 u25 u26 u27 u28 u29 u30 u31 u32 u33 u34 u35 u36 u37 u38 u39 u40 u41 u42 u43 u44 u45 u46 u47 u48 u49 u50 u51 u52 u53 u54 u55 u56 u57 u58 u59 u60 u61 u62 u63 u64 u65 u66 u67 u68 u69 u70 u71 u72 u73 u74 u75 u76 : Value} (hst : RuleSt bx n (n + 2) a3 a2 p3 p2 c3 c2 k4 k5 k6 k7 k8 w W) (hmo : More k4 k5 k6 k7 k8 k9 w W (.cells #[.int .i64 a4.kind, .string a4.name, .string a4.num, .int .u64 a4.bits, .int .i64 a4.var, .slice p4 a4.args.length c4] 25 (0, 0))) (_T3 : TmAt w a3 p3) (_g3 : Good a3) (_hX : ∀ V, But1 bx w V → Utf V) (_hn3 : nodes a3 ≤ 4000) (h0 : 0 ≤ n) (hmx : n + 3 ≤ 9223372036854775806) (hc : callE a3 = none) (Q : Ending → World → Prop)
    (HK : ∀ u0 u2 u3 u11 u12 u13 u14 u15 u16 u17 u18 u19 u20 u21 u22 u23 u24 u25 u26 u27 u28 u29 u30 u31 u32 u33 u34 u35 u36 u37 u38 u39 u40 u41 u42 u43 u44 u45 u46 u47 u48 u49 u50 u51 u52 u53 u54 u55 u56 u57 u58 u59 u60 u61 u62 u63 u64 u65 u66 u67 u68 u69 u70 u71 u72 u73 u74 u75 u76 k10 V, RuleSt bx n (n + 3) a3 a2 p3 p2 c3 c2 k4 k5 k6 k7 k8 w V → More k4 k5 k6 k7 k8 k9 w V (.cells #[.int .i64 a4.kind, .string a4.name, .string a4.num, .int .u64 a4.bits, .int .i64 a4.var, .slice p4 a4.args.length c4] 25 (0, 0)) → More k4 k5 k6 k7 k8 k10 w V (.cells #[.int .i64 1, .string ⟨#[]⟩, .string ⟨#[]⟩, .int .u64 0, .int .i64 (n + 2), .slice none 0 0] 25 (0, 0)) → k9 ≠ k10 → Code.wp Tryz.prog tail8 (bodyPost Tryz.prog Tryz.f52 Q) ⟨#[u0, .func (.func 104) #[] #[.pointer (some ⟨bx, 0, none⟩)], u2, u3, .pointer (some ⟨k4, 0, none⟩), .pointer (some ⟨k5, 0, none⟩), .pointer (some ⟨k6, 0, none⟩), .pointer (some ⟨k7, 0, none⟩), .pointer (some ⟨k8, 0, none⟩), .pointer (some ⟨k9, 0, none⟩), .pointer (some ⟨k10, 0, none⟩), u11, u12, u13, u14, u15, u16, u17, u18, u19, u20, u21, u22, u23, u24, u25, u26, u27, u28, u29, u30, u31, u32, u33, u34, u35, u36, u37, u38, u39, u40, u41, u42, u43, u44, u45, u46, u47, u48, u49, u50, u51, u52, u53, u54, u55, u56, u57, u58, u59, u60, u61, u62, u63, u64, u65, u66, u67, u68, u69, u70, u71, u72, u73, u74, u75, u76], []⟩ V) :
    Code.wp Tryz.prog tail6 (bodyPost Tryz.prog Tryz.f52 Q) ⟨#[u0, .func (.func 104) #[] #[.pointer (some ⟨bx, 0, none⟩)], u2, u3, .pointer (some ⟨k4, 0, none⟩), .pointer (some ⟨k5, 0, none⟩), .pointer (some ⟨k6, 0, none⟩), .pointer (some ⟨k7, 0, none⟩), .pointer (some ⟨k8, 0, none⟩), .pointer (some ⟨k9, 0, none⟩), u10, u11, u12, u13, u14, u15, u16, u17, u18, u19, u20, u21, u22, u23, u24, u25, u26, u27, u28, u29, u30, u31, u32, u33, u34, u35, u36, u37, u38, u39, u40, u41, u42, u43, u44, u45, u46, u47, u48, u49, u50, u51, u52, u53, u54, u55, u56, u57, u58, u59, u60, u61, u62, u63, u64, u65, u66, u67, u68, u69, u70, u71, u72, u73, u74, u75, u76], []⟩ W := by
  have CH := hid HK
  have ST := hid hst
  have MO := hid hmo
  have NE := hid (show NeSt bx k4 k5 k6 k7 k8 from ne_st hst)
  have SR := hid (fun (V : World) (h : But1 bx W V) => (show V.cell? ⟨k5, 0, none⟩ = some (.int .i64 a3.kind) ∧ V.cell? ⟨k5, 1, none⟩ = some (.string a3.name) ∧ V.cell? ⟨k5, 2, none⟩ = some (.string a3.num) ∧ V.cell? ⟨k5, 3, none⟩ = some (.int .u64 a3.bits) ∧ V.cell? ⟨k5, 4, none⟩ = some (.int .i64 a3.var) ∧ V.cell? ⟨k5, 5, none⟩ = some (.slice p3 a3.args.length c3) from (six_free (h.obj hst.o5 (NE.out.e5).1)).1))
  have BB := hid (But1.refl hst.box)
  have XB := hid hst.box
  have N0 := hid hst.but
  have CN := hid (show ∀ V, Calls Tryz.prog 108 #[.agg #[.int .i64 a3.kind, .string a3.name, .string a3.num, .int .u64 a3.bits, .int .i64 a3.var, .slice p3 a3.args.length c3]] V fun x w' => x = .returned (.tuple #[]) ∧ Below V.heap.size V w' from fun V => callable_ok a3 p3 c3 V (callE_kind hc).1 (callE_kind hc).2.1 (callE_kind hc).2.2)
  have CF := hid (show ∀ W, Box1 W bx (n + 2) → Calls Tryz.prog 104 #[.pointer (some ⟨bx, 0, none⟩)] W fun x w' => x = .returned (.agg #[.int .i64 1, .string ⟨#[]⟩, .string ⟨#[]⟩, .int .u64 0, .int .i64 (n + 2), .slice none 0 0]) ∧ Box1 w' bx (n + 2 + 1) ∧ But1 bx W w' from fun W h => fresh_any bx (n + 2) W h (by omega) (by omega))
  clear hst hmo _T3 _g3 _hX _hn3 hc HK h0 hmx
  show Code.wp Tryz.prog tail6 _ _ _
  conv => arg 2; whnf
  obtain ⟨g0, g1, g2, _g3, g4, g5⟩ := SR.out _ BB.out
  go_upto_region 10 with (first
    | (go_at_call 108; (with_reducible refine (CN.out _).mono ?_); rintro x v3 ⟨rfl, hb3⟩; have BB := hid (BB.out.trans (But1.of_below XB.out hb3)); have XB := hid (XB.out.keep hb3); clear hb3 g0 g1 g2 _g3 g4 g5)
    | fail)
  go_cut [10] (fun s10 wx => ∃ k10, s10 = .pointer (some ⟨k10, 0, none⟩) ∧ RuleSt bx n (n + 3) a3 a2 p3 p2 c3 c2 k4 k5 k6 k7 k8 w wx ∧ More k4 k5 k6 k7 k8 k9 w wx (.cells #[.int .i64 a4.kind, .string a4.name, .string a4.num, .int .u64 a4.bits, .int .i64 a4.var, .slice p4 a4.args.length c4] 25 (0, 0)) ∧ More k4 k5 k6 k7 k8 k10 w wx (.cells #[.int .i64 1, .string ⟨#[]⟩, .string ⟨#[]⟩, .int .u64 0, .int .i64 (n + 2), .slice none 0 0] 25 (0, 0)) ∧ k9 ≠ k10)
  case first =>
    go_wp2_with (first
      | (go_at_call 104; (with_reducible refine (CF.out _ XB.out).mono ?_); rintro x v4 ⟨rfl, hx4, hb4⟩; have D4 := hid (BB.out.trans hb4); have X4 := hid hx4; clear hb4 hx4)
      | fail)
    go_meet
    case rel => exact ⟨_, rfl, ten_st ST.out MO.out D4.out X4.out⟩
  case rest =>
    obtain ⟨k10, rfl, hst, hmo, hm10, hne⟩ := hcut
    rename_i K hK
    refine hK _ _ ?_
    exact CH.out _ _ _ _ _ _ _ _ _ _ _ _ _ _ _ _ _ _ _ _ _ _ _ _ _ _ _ _ _ _ _ _ _ _ _ _ _ _ _ _ _ _ _ _ _ _ _ _ _ _ _ _ _ _ _ _ _ _ _ _ _ _ _ _ _ _ _ _ _ _ _ hst hmo hm10 hne
end Go.Proofs.YtiaddfedaikaiaaGreatDoor

namespace Go.Proofs.YtiaddfedaikaiaaGreatDoor
open Go.RowKit

noncomputable def tail9 : Code := seqDrop 9 (Tryz.f52.body.getD .skip)
noncomputable def tail10 : Code := seqDrop 10 (Tryz.f52.body.getD .skip)
theorem endT_ok {t e r : Tm} (h : endT t e = some r) : isOfT (elems t).2 nEmpty 0 = true ∧ r = listT (elems t).1 e := by
  unfold endT at h
  split at h
  · exact ⟨‹_›, (Option.some.inj h).symm⟩
  · cases h
theorem endT_no {t e : Tm} (h : endT t e = none) : isOfT (elems t).2 nEmpty 0 = false := by
  unfold endT at h
  split at h
  · cases h
  · exact (Bool.not_eq_true _).mp ‹_›
set_option maxRecDepth 100000 in
set_option maxHeartbeats 16000000 in
theorem push_noend (bx : Nat) (n : Int) (a3 a2 a4 : Tm) (p3 p2 p4 : Option Addr) (c3 c2 c4 : Nat) (k4 k5 k6 k7 k8 k9 k10 : Nat) (w W : World) {u0 u2 u3 u11 u12 u13 u14 u15 u16 u17 u18 u19 u20 u21 u22 u23 u24 u25 u26 u27 u28 u29 u30 u31 u32 u33 u34 u35 u36 u37 u38 u39 u40 u41 u42 u43 u44 u45 u46 u47 u48 u49 u50 u51 u52 u53 u54 u55 u56 u57 u58 u59 u60 u61 u62 u63 u64 u65 u66 u67 u68 u69 u70 u71 u72 u73 u74 u75 u76 : Value} (hst : RuleSt bx n (n + 3) a3 a2 p3 p2 c3 c2 k4 k5 k6 k7 k8 w W) (hm9 : More k4 k5 k6 k7 k8 k9 w W (tobj a4 p4 c4)) (hm10 : More k4 k5 k6 k7 k8 k10 w W (.cells #[.int .i64 1, .string ⟨#[]⟩, .string ⟨#[]⟩, .int .u64 0, .int .i64 (n + 2), .slice none 0 0] 25 (0, 0))) (_hne : k9 ≠ k10) (T4 : TmAt W a4 p4) (g4 : Good a4) (hX : ∀ V, But1 bx w V → Utf V) (hn4 : nodes a4 ≤ 4000) (_h0 : 0 ≤ n) (_hmx : n + 3 ≤ 9223372036854775806) (he : endT a4 (vrT (n + 2)) = none) (Q : Ending → World → Prop) (hQ : ∀ x w', (∃ k, x = .panicked [{ v := .iface 105 (.pointer (some ⟨k, 0, none⟩)), recovered := false }] ∧ BallAt w' k (bType nList a4) ∧ But1 bx w w') → Q x w') :
    Code.wp Tryz.prog tail8 (bodyPost Tryz.prog Tryz.f52 Q) ⟨#[u0, .func (.func 104) #[] #[.pointer (some ⟨bx, 0, none⟩)], u2, u3, .pointer (some ⟨k4, 0, none⟩), .pointer (some ⟨k5, 0, none⟩), .pointer (some ⟨k6, 0, none⟩), .pointer (some ⟨k7, 0, none⟩), .pointer (some ⟨k8, 0, none⟩), .pointer (some ⟨k9, 0, none⟩), .pointer (some ⟨k10, 0, none⟩), u11, u12, u13, u14, u15, u16, u17, u18, u19, u20, u21, u22, u23, u24, u25, u26, u27, u28, u29, u30, u31, u32, u33, u34, u35, u36, u37, u38, u39, u40, u41, u42, u43, u44, u45, u46, u47, u48, u49, u50, u51, u52, u53, u54, u55, u56, u57, u58, u59, u60, u61, u62, u63, u64, u65, u66, u67, u68, u69, u70, u71, u72, u73, u74, u75, u76], []⟩ W := by
  have HQ := hid hQ
  have NE := hid (show NeSt bx k4 k5 k6 k7 k8 from ne_st hst)
  have hn9 : k9 ≠ bx := by have := hm9.n9; have := hst.but.lt; omega
  have hn10 : k10 ≠ bx := by have := hm10.n9; have := hst.but.lt; omega
  have SR := hid (fun (V : World) (h : But1 bx W V) => (show V.cell? ⟨k9, 0, none⟩ = some (.int .i64 a4.kind) ∧ V.cell? ⟨k9, 1, none⟩ = some (.string a4.name) ∧ V.cell? ⟨k9, 2, none⟩ = some (.string a4.num) ∧ V.cell? ⟨k9, 3, none⟩ = some (.int .u64 a4.bits) ∧ V.cell? ⟨k9, 4, none⟩ = some (.int .i64 a4.var) ∧ V.cell? ⟨k9, 5, none⟩ = some (.slice p4 a4.args.length c4) ∧ V.cell? ⟨k10, 0, none⟩ = some (.int .i64 1) ∧ V.cell? ⟨k10, 1, none⟩ = some (.string ⟨#[]⟩) ∧ V.cell? ⟨k10, 2, none⟩ = some (.string ⟨#[]⟩) ∧ V.cell? ⟨k10, 3, none⟩ = some (.int .u64 0) ∧ V.cell? ⟨k10, 4, none⟩ = some (.int .i64 (n + 2)) ∧ V.cell? ⟨k10, 5, none⟩ = some (.slice none 0 0) from by
    have m1 := (six_of (h.obj hm9.o9 hn9))
    have m2 := (six_free (h.obj hm10.o9 hn10)).1
    exact ⟨m1.c0, m1.c1, m1.c2, m1.c3, m1.c4, m1.c5, m2.1, m2.2.1, m2.2.2.1, m2.2.2.2.1, m2.2.2.2.2.1, m2.2.2.2.2.2⟩))
  have BB := hid (But1.refl hst.box)
  have XB := hid hst.box
  have N0 := hid hst.but
  obtain ⟨bb, hbb⟩ : ∃ bb, bb = bType nList a4 := ⟨_, rfl⟩
  have CE := hid (show ∀ V, But1 bx W V → Calls Tryz.prog 111 #[.agg #[.int .i64 a4.kind, .string a4.name, .string a4.num, .int .u64 a4.bits, .int .i64 a4.var, .slice p4 a4.args.length c4], .agg #[.int .i64 1, .string ⟨#[]⟩, .string ⟨#[]⟩, .int .u64 0, .int .i64 (n + 2), .slice none 0 0]] V fun x w' => ∃ k, x = .panicked [{ v := .iface 105 (.pointer (some ⟨k, 0, none⟩)), recovered := false }] ∧ BallAt w' k bb ∧ Below V.heap.size V w' from fun V h => by
    rw [hbb]
    exact ending_bad a4 (vrT (n + 2)) p4 none c4 0 V (h.tm T4) (leaf_mine V 1 ⟨#[]⟩ ⟨#[]⟩ (n + 2)).at_ g4 (hX V (hst.but.trans h)) hn4 (endT_no he))
  rw [← hbb] at HQ
  clear hst hm9 hm10 T4 g4 hX hn4 hQ he _h0 _hmx _hne hn9 hn10 hbb
  show Code.wp Tryz.prog tail8 _ _ _
  conv => arg 2; whnf
  obtain ⟨g0, g1, g2, g3, g4, g5, j0, j1, j2, j3, j4, j5⟩ := SR.out _ BB.out
  go_wp2_with (first
    | (go_at_call 111; (with_reducible refine (CE.out _ BB.out).mono ?_); rintro x v3 ⟨k, rfl, hk, hb3⟩; have K3 := hid hk; have BB := hid (BB.out.trans (But1.of_below XB.out hb3)); clear hb3 hk)
    | fail)
  exact ⟨rfl, HQ.out _ _ ⟨k, rfl, K3.out, N0.out.trans BB.out⟩⟩
theorem end_st {bx k4 k5 k6 k7 k8 k9 k10 : Nat} {n : Int} {a1 a2 a4 pe : Tm} {p1 p2 p4 q : Option Addr} {c1 c2 c4 c : Nat} {w W v V : World} {ob : Obj} (hst : RuleSt bx n (n + 3) a1 a2 p1 p2 c1 c2 k4 k5 k6 k7 k8 w W) (hm9 : More k4 k5 k6 k7 k8 k9 w W (tobj a4 p4 c4)) (hm10 : More k4 k5 k6 k7 k8 k10 w W ob) (hne : k9 ≠ k10) (hb : But1 bx W v) (hx : Box1 v bx (n + 3)) (hp : TmAt (above v W.heap.size) pe q) (hV : V = ((((((v.setCell ⟨k9, 0, none⟩ (.int .i64 pe.kind)).setCell ⟨k9, 1, none⟩ (.string pe.name)).setCell ⟨k9, 2, none⟩ (.string pe.num)).setCell ⟨k9, 3, none⟩ (.int .u64 pe.bits)).setCell ⟨k9, 4, none⟩ (.int .i64 pe.var)).setCell ⟨k9, 5, none⟩ (.slice q pe.args.length c))) :
    RuleSt bx n (n + 3) a1 a2 p1 p2 c1 c2 k4 k5 k6 k7 k8 w V ∧ More k4 k5 k6 k7 k8 k9 w V (tobj pe q c) ∧ More k4 k5 k6 k7 k8 k10 w V ob ∧ TmAt (above V W.heap.size) pe q ∧ W.heap.size ≤ V.heap.size := by
  have hlt := hst.but.lt
  have hg : v.grownBy V (some k9) := by rw [hV]; exact set6_grown v k9 _ _ _ _ _ _
  have m9 := hm9.keep hb hlt
  have m10 := hm10.keep hb hlt
  have h9 : V.heap[k9]? = some (tobj pe q c) := by rw [hV]; exact set6 (show v.heap[k9]? = some (.cells _ _ (0, 0)) from m9.o9) _ _ _ _ _ _
  have l9 := lt_of_block hm9.o9
  exact ⟨(hst.keep hb hx).far hg m9.n9 m9.d49 m9.d59 m9.d69 m9.d79 m9.d89, ⟨h9, m9.n9, m9.d49, m9.d59, m9.d69, m9.d79, m9.d89⟩, m10.far hg hne.symm, (above_keep hp fun b o u hb' hc => (World.cell?_of_block (hg.block b (by have := World.block_lt_of_cell? v _ hc; simpa using this) (fun e => by have := Option.some.inj e; omega))).trans hc).1, Nat.le_trans hb.size hg.size⟩
set_option maxRecDepth 100000 in
set_option maxHeartbeats 16000000 in
theorem push_end (bx : Nat) (n : Int) (a3 a2 a4 : Tm) (p3 p2 p4 : Option Addr) (c3 c2 c4 : Nat) (k4 k5 k6 k7 k8 k9 k10 : Nat) (w W : World) {u0 u2 u3 u11 u12 u13 u14 u15 u16 u17 u18 u19 u20 u21 u22 u23 u24 u25 u26 u27 u28 u29 u30 u31 u32 u33 u34 u35 u36 u37 u38 u39 u40 u41 u42 u43 u44 u45 u46 u47 u48 u49 u50 u51 u52 u53 u54 u55 u56 u57 u58 u59 u60 u61 u62 u63 u64 u65 u66 u67 u68 u69 u70 u71 u72 u73 u74 u75 u76 : Value} (hst : RuleSt bx n (n + 3) a3 a2 p3 p2 c3 c2 k4 k5 k6 k7 k8 w W) (hm9 : More k4 k5 k6 k7 k8 k9 w W (tobj a4 p4 c4)) (hm10 : More k4 k5 k6 k7 k8 k10 w W (.cells #[.int .i64 1, .string ⟨#[]⟩, .string ⟨#[]⟩, .int .u64 0, .int .i64 (n + 2), .slice none 0 0] 25 (0, 0))) (hne : k9 ≠ k10) (T4 : TmAt W a4 p4) (g4 : Good a4) (hX : ∀ V, But1 bx w V → Utf V) (hn4 : nodes a4 ≤ 4000) (h0 : 0 ≤ n) (hmx : n + 3 ≤ 9223372036854775806) (pe : Tm) (he : endT a4 (vrT (n + 2)) = some pe) (Q : Ending → World → Prop)
    (HK : ∀ u0 u2 u3 u11 u12 u13 u14 u15 u16 u17 u18 u19 u20 u21 u22 u23 u24 u25 u26 u27 u28 u29 u30 u31 u32 u33 u34 u35 u36 u37 u38 u39 u40 u41 u42 u43 u44 u45 u46 u47 u48 u49 u50 u51 u52 u53 u54 u55 u56 u57 u58 u59 u60 u61 u62 u63 u64 u65 u66 u67 u68 u69 u70 u71 u72 u73 u74 u75 u76 q c V, RuleSt bx n (n + 3) a3 a2 p3 p2 c3 c2 k4 k5 k6 k7 k8 w V → More k4 k5 k6 k7 k8 k9 w V (tobj pe q c) → More k4 k5 k6 k7 k8 k10 w V (.cells #[.int .i64 1, .string ⟨#[]⟩, .string ⟨#[]⟩, .int .u64 0, .int .i64 (n + 2), .slice none 0 0] 25 (0, 0)) → TmAt (above V W.heap.size) pe q → W.heap.size ≤ V.heap.size → Code.wp Tryz.prog tail9 (bodyPost Tryz.prog Tryz.f52 Q) ⟨#[u0, .func (.func 104) #[] #[.pointer (some ⟨bx, 0, none⟩)], u2, u3, .pointer (some ⟨k4, 0, none⟩), .pointer (some ⟨k5, 0, none⟩), .pointer (some ⟨k6, 0, none⟩), .pointer (some ⟨k7, 0, none⟩), .pointer (some ⟨k8, 0, none⟩), .pointer (some ⟨k9, 0, none⟩), .pointer (some ⟨k10, 0, none⟩), u11, u12, u13, u14, u15, u16, u17, u18, u19, u20, u21, u22, u23, u24, u25, u26, u27, u28, u29, u30, u31, u32, u33, u34, u35, u36, u37, u38, u39, u40, u41, u42, u43, u44, u45, u46, u47, u48, u49, u50, u51, u52, u53, u54, u55, u56, u57, u58, u59, u60, u61, u62, u63, u64, u65, u66, u67, u68, u69, u70, u71, u72, u73, u74, u75, u76], []⟩ V) :
    Code.wp Tryz.prog tail8 (bodyPost Tryz.prog Tryz.f52 Q) ⟨#[u0, .func (.func 104) #[] #[.pointer (some ⟨bx, 0, none⟩)], u2, u3, .pointer (some ⟨k4, 0, none⟩), .pointer (some ⟨k5, 0, none⟩), .pointer (some ⟨k6, 0, none⟩), .pointer (some ⟨k7, 0, none⟩), .pointer (some ⟨k8, 0, none⟩), .pointer (some ⟨k9, 0, none⟩), .pointer (some ⟨k10, 0, none⟩), u11, u12, u13, u14, u15, u16, u17, u18, u19, u20, u21, u22, u23, u24, u25, u26, u27, u28, u29, u30, u31, u32, u33, u34, u35, u36, u37, u38, u39, u40, u41, u42, u43, u44, u45, u46, u47, u48, u49, u50, u51, u52, u53, u54, u55, u56, u57, u58, u59, u60, u61, u62, u63, u64, u65, u66, u67, u68, u69, u70, u71, u72, u73, u74, u75, u76], []⟩ W := by
  have CH := hid HK
  have ST := hid hst
  have M9 := hid hm9
  have M10 := hid hm10
  have HNE := hid hne
  have NE := hid (show NeSt bx k4 k5 k6 k7 k8 from ne_st hst)
  have hn9 : k9 ≠ bx := by have := hm9.n9; have := hst.but.lt; omega
  have hn10 : k10 ≠ bx := by have := hm10.n9; have := hst.but.lt; omega
  have SR := hid (fun (V : World) (h : But1 bx W V) => (show V.cell? ⟨k9, 0, none⟩ = some (.int .i64 a4.kind) ∧ V.cell? ⟨k9, 1, none⟩ = some (.string a4.name) ∧ V.cell? ⟨k9, 2, none⟩ = some (.string a4.num) ∧ V.cell? ⟨k9, 3, none⟩ = some (.int .u64 a4.bits) ∧ V.cell? ⟨k9, 4, none⟩ = some (.int .i64 a4.var) ∧ V.cell? ⟨k9, 5, none⟩ = some (.slice p4 a4.args.length c4) ∧ V.cell? ⟨k10, 0, none⟩ = some (.int .i64 1) ∧ V.cell? ⟨k10, 1, none⟩ = some (.string ⟨#[]⟩) ∧ V.cell? ⟨k10, 2, none⟩ = some (.string ⟨#[]⟩) ∧ V.cell? ⟨k10, 3, none⟩ = some (.int .u64 0) ∧ V.cell? ⟨k10, 4, none⟩ = some (.int .i64 (n + 2)) ∧ V.cell? ⟨k10, 5, none⟩ = some (.slice none 0 0) from by
    have m1 := (six_of (h.obj hm9.o9 hn9))
    have m2 := (six_free (h.obj hm10.o9 hn10)).1
    exact ⟨m1.c0, m1.c1, m1.c2, m1.c3, m1.c4, m1.c5, m2.1, m2.2.1, m2.2.2.1, m2.2.2.2.1, m2.2.2.2.2.1, m2.2.2.2.2.2⟩))
  have BB := hid (But1.refl hst.box)
  have XB := hid hst.box
  have N0 := hid hst.but
  have hen := endT_ok he
  have CE := hid (show ∀ V, But1 bx W V → Calls Tryz.prog 111 #[.agg #[.int .i64 a4.kind, .string a4.name, .string a4.num, .int .u64 a4.bits, .int .i64 a4.var, .slice p4 a4.args.length c4], .agg #[.int .i64 1, .string ⟨#[]⟩, .string ⟨#[]⟩, .int .u64 0, .int .i64 (n + 2), .slice none 0 0]] V fun x w' => ∃ q c', x = .returned (.agg #[.int .i64 pe.kind, .string pe.name, .string pe.num, .int .u64 pe.bits, .int .i64 pe.var, .slice q pe.args.length c']) ∧ TmAt (above w' V.heap.size) pe q ∧ Below V.heap.size V w' from fun V h => by
    rw [hen.2]
    exact ending_up a4 (vrT (n + 2)) p4 none c4 0 V (h.tm T4) rfl g4 (vrT_good (by omega) (by omega)) (hX V (hst.but.trans h)) hn4 hen.1)
  have FR := hid (fun (V : World) (h : But1 bx W V) => (six_free (show V.heap[k9]? = some (.cells #[.int .i64 a4.kind, .string a4.name, .string a4.num, .int .u64 a4.bits, .int .i64 a4.var, .slice p4 a4.args.length c4] 25 (0, 0)) from h.obj hm9.o9 hn9)))
  clear hst hm9 hm10 T4 g4 hX hn4 he h0 hmx hne hn9 hn10 hen HK
  show Code.wp Tryz.prog tail8 _ _ _
  conv => arg 2; whnf
  obtain ⟨g0, g1, g2, g3, g4, g5, j0, j1, j2, j3, j4, j5⟩ := SR.out _ BB.out
  go_upto_region 11 with fail
  dsimp only
  go_cut [] (fun wx => ∃ q c, RuleSt bx n (n + 3) a3 a2 p3 p2 c3 c2 k4 k5 k6 k7 k8 w wx ∧ More k4 k5 k6 k7 k8 k9 w wx (tobj pe q c) ∧ More k4 k5 k6 k7 k8 k10 w wx (.cells #[.int .i64 1, .string ⟨#[]⟩, .string ⟨#[]⟩, .int .u64 0, .int .i64 (n + 2), .slice none 0 0] 25 (0, 0)) ∧ TmAt (above wx W.heap.size) pe q ∧ W.heap.size ≤ wx.heap.size)
  case first =>
    go_wp2_with (first
      | (go_at_call 111; (with_reducible refine (CE.out _ BB.out).mono ?_); rintro x v3 ⟨q, c, rfl, hm, hb3⟩; have MM := hid hm; have D3 := hid (But1.of_below XB.out hb3); have X3 := hid (XB.out.keep hb3); clear hb3 hm g0 g1 g2 g3 g4 g5 j0 j1 j2 j3 j4 j5; obtain ⟨⟨g0, g1, g2, g3, g4, g5⟩, ⟨f0, f1, f2, f3, f4, f5⟩⟩ := FR.out _ D3.out)
      | fail)
    go_meet
    case rel => exact ⟨q, c, end_st ST.out M9.out M10.out HNE.out D3.out X3.out MM.out rfl⟩
  case rest =>
    obtain ⟨q, c, hst, hm9, hm10, hp, hsz⟩ := hcut
    rename_i K hK
    refine hK _ _ ?_
    exact CH.out _ _ _ _ _ _ _ _ _ _ _ _ _ _ _ _ _ _ _ _ _ _ _ _ _ _ _ _ _ _ _ _ _ _ _ _ _ _ _ _ _ _ _ _ _ _ _ _ _ _ _ _ _ _ _ _ _ _ _ _ _ _ _ _ _ _ _ _ _ _ _ _ hst hm9 hm10 hp hsz
end Go.Proofs.YtiaddfedaikaiaaGreatDoor

namespace Go.Proofs.YtiaddfedaikaiaaGreatDoor
open Go.RowKit

set_option maxRecDepth 100000 in
set_option maxHeartbeats 16000000 in
theorem push_arity (bx : Nat) (n : Int) (a3 a2 pe : Tm) (p3 p2 qp : Option Addr) (c3 c2 cp B : Nat) (k4 k5 k6 k7 k8 k9 k10 : Nat) (w W : World) {u0 u2 u3 u11 u12 u13 u14 u15 u16 u17 u18 u19 u20 u21 u22 u23 u24 u25 u26 u27 u28 u29 u30 u31 u32 u33 u34 u35 u36 u37 u38 u39 u40 u41 u42 u43 u44 u45 u46 u47 u48 u49 u50 u51 u52 u53 u54 u55 u56 u57 u58 u59 u60 u61 u62 u63 u64 u65 u66 u67 u68 u69 u70 u71 u72 u73 u74 u75 u76 : Value} (hst : RuleSt bx n (n + 3) a3 a2 p3 p2 c3 c2 k4 k5 k6 k7 k8 w W) (_hm9 : More k4 k5 k6 k7 k8 k9 w W (tobj pe qp cp)) (_hm10 : More k4 k5 k6 k7 k8 k10 w W (.cells #[.int .i64 1, .string ⟨#[]⟩, .string ⟨#[]⟩, .int .u64 0, .int .i64 (n + 2), .slice none 0 0] 25 (0, 0))) (T3 : TmAt W a3 p3) (_TP : TmAt (above W B) pe qp) (_hB5 : k5 < B) (g3 : Good a3) (_h0 : 0 ≤ n) (_hmx : n + 3 ≤ 9223372036854775806) (hbt : betT a3 (vrT n) (vrT (n + 1)) = none) (Q : Ending → World → Prop) (hQ : ∀ x w', (∃ k, x = .panicked [{ v := .iface 105 (.pointer (some ⟨k, 0, none⟩)), recovered := false }] ∧ BallAt w' k bArity ∧ But1 bx w w') → Q x w') :
    Code.wp Tryz.prog tail9 (bodyPost Tryz.prog Tryz.f52 Q) ⟨#[u0, .func (.func 104) #[] #[.pointer (some ⟨bx, 0, none⟩)], u2, u3, .pointer (some ⟨k4, 0, none⟩), .pointer (some ⟨k5, 0, none⟩), .pointer (some ⟨k6, 0, none⟩), .pointer (some ⟨k7, 0, none⟩), .pointer (some ⟨k8, 0, none⟩), .pointer (some ⟨k9, 0, none⟩), .pointer (some ⟨k10, 0, none⟩), u11, u12, u13, u14, u15, u16, u17, u18, u19, u20, u21, u22, u23, u24, u25, u26, u27, u28, u29, u30, u31, u32, u33, u34, u35, u36, u37, u38, u39, u40, u41, u42, u43, u44, u45, u46, u47, u48, u49, u50, u51, u52, u53, u54, u55, u56, u57, u58, u59, u60, u61, u62, u63, u64, u65, u66, u67, u68, u69, u70, u71, u72, u73, u74, u75, u76], []⟩ W := by
  have HQ := hid hQ
  have NE := hid (show NeSt bx k4 k5 k6 k7 k8 from ne_st hst)
  have SR := hid (fun (V : World) (h : But1 bx W V) => (show V.cell? ⟨k5, 0, none⟩ = some (.int .i64 a3.kind) ∧ V.cell? ⟨k5, 1, none⟩ = some (.string a3.name) ∧ V.cell? ⟨k5, 2, none⟩ = some (.string a3.num) ∧ V.cell? ⟨k5, 3, none⟩ = some (.int .u64 a3.bits) ∧ V.cell? ⟨k5, 4, none⟩ = some (.int .i64 a3.var) ∧ V.cell? ⟨k5, 5, none⟩ = some (.slice p3 a3.args.length c3) ∧ V.cell? ⟨k7, 0, none⟩ = some (.int .i64 1) ∧ V.cell? ⟨k7, 1, none⟩ = some (.string ⟨#[]⟩) ∧ V.cell? ⟨k7, 2, none⟩ = some (.string ⟨#[]⟩) ∧ V.cell? ⟨k7, 3, none⟩ = some (.int .u64 0) ∧ V.cell? ⟨k7, 4, none⟩ = some (.int .i64 n) ∧ V.cell? ⟨k7, 5, none⟩ = some (.slice none 0 0) ∧ V.cell? ⟨k8, 0, none⟩ = some (.int .i64 1) ∧ V.cell? ⟨k8, 1, none⟩ = some (.string ⟨#[]⟩) ∧ V.cell? ⟨k8, 2, none⟩ = some (.string ⟨#[]⟩) ∧ V.cell? ⟨k8, 3, none⟩ = some (.int .u64 0) ∧ V.cell? ⟨k8, 4, none⟩ = some (.int .i64 (n + 1)) ∧ V.cell? ⟨k8, 5, none⟩ = some (.slice none 0 0) from by
    have m1 := (six_of (h.obj hst.o5 NE.out.e5.1))
    have m2 := (six_free (h.obj hst.o7 NE.out.e7.1)).1
    have m3 := (six_free (h.obj hst.o8 NE.out.e8.1)).1
    exact ⟨m1.c0, m1.c1, m1.c2, m1.c3, m1.c4, m1.c5, m2.1, m2.2.1, m2.2.2.1, m2.2.2.2.1, m2.2.2.2.2.1, m2.2.2.2.2.2, m3.1, m3.2.1, m3.2.2.1, m3.2.2.2.1, m3.2.2.2.2.1, m3.2.2.2.2.2⟩))
  have BB := hid (But1.refl hst.box)
  have XB := hid hst.box
  have N0 := hid hst.but
  have CT := hid (show ∀ V, But1 bx W V → Calls Tryz.prog 110 #[.agg #[.int .i64 a3.kind, .string a3.name, .string a3.num, .int .u64 a3.bits, .int .i64 a3.var, .slice p3 a3.args.length c3], .agg #[.int .i64 1, .string ⟨#[]⟩, .string ⟨#[]⟩, .int .u64 0, .int .i64 n, .slice none 0 0], .agg #[.int .i64 1, .string ⟨#[]⟩, .string ⟨#[]⟩, .int .u64 0, .int .i64 (n + 1), .slice none 0 0]] V fun x w' => ∃ k, x = .panicked [{ v := .iface 105 (.pointer (some ⟨k, 0, none⟩)), recovered := false }] ∧ BallAt w' k bArity ∧ Below V.heap.size V w' from fun V h =>
    between_bad a3 (vrT n) (vrT (n + 1)) p3 none none c3 0 0 V (h.tm T3) (leaf_mine V 1 ⟨#[]⟩ ⟨#[]⟩ n).at_ (leaf_mine V 1 ⟨#[]⟩ ⟨#[]⟩ (n + 1)).at_ g3 (betT_no hbt))
  clear hst _hm9 _hm10 T3 _TP g3 _h0 _hmx hQ hbt _hB5
  show Code.wp Tryz.prog tail9 _ _ _
  conv => arg 2; whnf
  obtain ⟨g0, g1, g2, g3, g4, g5, l0, l1, l2, l3, l4, l5, i0, i1, i2, i3, i4, i5⟩ := SR.out _ BB.out
  go_wp2_with (first
    | (go_at_call 110; (with_reducible refine (CT.out _ BB.out).mono ?_); rintro x v3 ⟨k, rfl, hk, hb3⟩; have K3 := hid hk; have BB := hid (BB.out.trans (But1.of_below XB.out hb3)); clear hb3 hk)
    | fail)
  exact ⟨rfl, HQ.out _ _ ⟨k, rfl, K3.out, N0.out.trans BB.out⟩⟩
theorem bet_st {bx k4 k5 k6 k7 k8 k9 k10 B : Nat} {n : Int} {a1 a2 pe hd : Tm} {p1 p2 qp q : Option Addr} {c1 c2 cp c : Nat} {w W v V : World} {ob : Obj} (hst : RuleSt bx n (n + 3) a1 a2 p1 p2 c1 c2 k4 k5 k6 k7 k8 w W) (hm9 : More k4 k5 k6 k7 k8 k9 w W (tobj pe qp cp)) (hm10 : More k4 k5 k6 k7 k8 k10 w W ob) (hb : But1 bx W v) (hx : Box1 v bx (n + 3)) (T1 : TmAt W a1 p1) (TP : TmAt (above W B) pe qp) (hB5 : k5 < B) (hno : NoA a1 hd) (hh : TmAt v hd q) (hbl : Below W.heap.size W v) (hV : V = ((((((v.setCell ⟨k5, 0, none⟩ (.int .i64 hd.kind)).setCell ⟨k5, 1, none⟩ (.string hd.name)).setCell ⟨k5, 2, none⟩ (.string hd.num)).setCell ⟨k5, 3, none⟩ (.int .u64 hd.bits)).setCell ⟨k5, 4, none⟩ (.int .i64 hd.var)).setCell ⟨k5, 5, none⟩ (.slice q hd.args.length c))) :
    RuleSt bx n (n + 3) hd a2 q p2 c c2 k4 k5 k6 k7 k8 w V ∧ More k4 k5 k6 k7 k8 k9 w V (tobj pe qp cp) ∧ More k4 k5 k6 k7 k8 k10 w V ob ∧ TmAt V hd q ∧ TmAt V pe qp := by
  have hlt := hst.but.lt
  have hg : v.grownBy V (some k5) := by rw [hV]; exact set6_grown v k5 _ _ _ _ _ _
  have s1 := hst.keep hb hx
  have m9 := hm9.keep hb hlt
  have m10 := hm10.keep hb hlt
  have h5 : V.heap[k5]? = some (tobj hd q c) := by rw [hV]; exact set6 (show v.heap[k5]? = some (.cells _ _ (0, 0)) from s1.o5) _ _ _ _ _ _
  refine ⟨s1.at5 hg h5, m9.far hg hm9.d59.symm, m10.far hg hm10.d59.symm, TmAt.past2 s1.o5 (hb.tm T1) (Past.grown hg) hno hh, (above_keep (above_up TP hbl) fun b o u hb' hc => (World.cell?_of_block (hg.block b (by have := World.block_lt_of_cell? v _ hc; simpa using this) (fun e => by have := Option.some.inj e; omega))).trans hc).2⟩
theorem noA_bet {a f e hd : Tm} (hf : nodes f = 1) (he : nodes e = 1) (h : betT a f e = some hd) : NoA a hd := by
  rw [(betT_ok h).2]
  unfold cT NoA
  have := nodes_pos a
  refine ⟨fun e => ?_, noAR_mem fun u hu => ?_⟩
  · have h2 := congrArg List.length e
    simp at h2
  · rcases List.mem_append.1 hu with hu | hu
    · obtain ⟨j, hj, rfl⟩ := List.getElem_of_mem hu
      have := nodes_lt (t := a) (k := j) hj
      exact noA_small a _ _ (Nat.le_refl _) (by omega)
    · simp only [List.mem_cons, List.not_mem_nil, or_false] at hu
      rcases hu with rfl | rfl
      · exact noA_small a _ _ (Nat.le_refl _) (by omega)
      · exact noA_small a _ _ (Nat.le_refl _) (by omega)
set_option maxRecDepth 100000 in
set_option maxHeartbeats 16000000 in
theorem push_bet (bx : Nat) (n : Int) (a3 a2 pe : Tm) (p3 p2 qp : Option Addr) (c3 c2 cp B : Nat) (k4 k5 k6 k7 k8 k9 k10 : Nat) (w W : World) {u0 u2 u3 u11 u12 u13 u14 u15 u16 u17 u18 u19 u20 u21 u22 u23 u24 u25 u26 u27 u28 u29 u30 u31 u32 u33 u34 u35 u36 u37 u38 u39 u40 u41 u42 u43 u44 u45 u46 u47 u48 u49 u50 u51 u52 u53 u54 u55 u56 u57 u58 u59 u60 u61 u62 u63 u64 u65 u66 u67 u68 u69 u70 u71 u72 u73 u74 u75 u76 : Value} (hst : RuleSt bx n (n + 3) a3 a2 p3 p2 c3 c2 k4 k5 k6 k7 k8 w W) (hm9 : More k4 k5 k6 k7 k8 k9 w W (tobj pe qp cp)) (hm10 : More k4 k5 k6 k7 k8 k10 w W (.cells #[.int .i64 1, .string ⟨#[]⟩, .string ⟨#[]⟩, .int .u64 0, .int .i64 (n + 2), .slice none 0 0] 25 (0, 0))) (T3 : TmAt W a3 p3) (TP : TmAt (above W B) pe qp) (hB5 : k5 < B) (g3 : Good a3) (h0 : 0 ≤ n) (hmx : n + 3 ≤ 9223372036854775806) (hd : Tm) (hbt : betT a3 (vrT n) (vrT (n + 1)) = some hd) (Q : Ending → World → Prop)
    (HK : ∀ u0 u2 u3 u11 u12 u13 u14 u15 u16 u17 u18 u19 u20 u21 u22 u23 u24 u25 u26 u27 u28 u29 u30 u31 u32 u33 u34 u35 u36 u37 u38 u39 u40 u41 u42 u43 u44 u45 u46 u47 u48 u49 u50 u51 u52 u53 u54 u55 u56 u57 u58 u59 u60 u61 u62 u63 u64 u65 u66 u67 u68 u69 u70 u71 u72 u73 u74 u75 u76 q c V, RuleSt bx n (n + 3) hd a2 q p2 c c2 k4 k5 k6 k7 k8 w V → More k4 k5 k6 k7 k8 k9 w V (tobj pe qp cp) → More k4 k5 k6 k7 k8 k10 w V (.cells #[.int .i64 1, .string ⟨#[]⟩, .string ⟨#[]⟩, .int .u64 0, .int .i64 (n + 2), .slice none 0 0] 25 (0, 0)) → TmAt V hd q → TmAt V pe qp → Code.wp Tryz.prog tail10 (bodyPost Tryz.prog Tryz.f52 Q) ⟨#[u0, .func (.func 104) #[] #[.pointer (some ⟨bx, 0, none⟩)], u2, u3, .pointer (some ⟨k4, 0, none⟩), .pointer (some ⟨k5, 0, none⟩), .pointer (some ⟨k6, 0, none⟩), .pointer (some ⟨k7, 0, none⟩), .pointer (some ⟨k8, 0, none⟩), .pointer (some ⟨k9, 0, none⟩), .pointer (some ⟨k10, 0, none⟩), u11, u12, u13, u14, u15, u16, u17, u18, u19, u20, u21, u22, u23, u24, u25, u26, u27, u28, u29, u30, u31, u32, u33, u34, u35, u36, u37, u38, u39, u40, u41, u42, u43, u44, u45, u46, u47, u48, u49, u50, u51, u52, u53, u54, u55, u56, u57, u58, u59, u60, u61, u62, u63, u64, u65, u66, u67, u68, u69, u70, u71, u72, u73, u74, u75, u76], []⟩ V) :
    Code.wp Tryz.prog tail9 (bodyPost Tryz.prog Tryz.f52 Q) ⟨#[u0, .func (.func 104) #[] #[.pointer (some ⟨bx, 0, none⟩)], u2, u3, .pointer (some ⟨k4, 0, none⟩), .pointer (some ⟨k5, 0, none⟩), .pointer (some ⟨k6, 0, none⟩), .pointer (some ⟨k7, 0, none⟩), .pointer (some ⟨k8, 0, none⟩), .pointer (some ⟨k9, 0, none⟩), .pointer (some ⟨k10, 0, none⟩), u11, u12, u13, u14, u15, u16, u17, u18, u19, u20, u21, u22, u23, u24, u25, u26, u27, u28, u29, u30, u31, u32, u33, u34, u35, u36, u37, u38, u39, u40, u41, u42, u43, u44, u45, u46, u47, u48, u49, u50, u51, u52, u53, u54, u55, u56, u57, u58, u59, u60, u61, u62, u63, u64, u65, u66, u67, u68, u69, u70, u71, u72, u73, u74, u75, u76], []⟩ W := by
  have CH := hid HK
  have ST := hid hst
  have M9 := hid hm9
  have M10 := hid hm10
  have T3H := hid T3
  have TPH := hid TP
  have HB5 := hid hB5
  have HNO := hid (noA_bet (by rw [nodes_args]; rfl) (by rw [nodes_args]; rfl) hbt)
  have NE := hid (show NeSt bx k4 k5 k6 k7 k8 from ne_st hst)
  have SR := hid (fun (V : World) (h : But1 bx W V) => (show V.cell? ⟨k5, 0, none⟩ = some (.int .i64 a3.kind) ∧ V.cell? ⟨k5, 1, none⟩ = some (.string a3.name) ∧ V.cell? ⟨k5, 2, none⟩ = some (.string a3.num) ∧ V.cell? ⟨k5, 3, none⟩ = some (.int .u64 a3.bits) ∧ V.cell? ⟨k5, 4, none⟩ = some (.int .i64 a3.var) ∧ V.cell? ⟨k5, 5, none⟩ = some (.slice p3 a3.args.length c3) ∧ V.cell? ⟨k7, 0, none⟩ = some (.int .i64 1) ∧ V.cell? ⟨k7, 1, none⟩ = some (.string ⟨#[]⟩) ∧ V.cell? ⟨k7, 2, none⟩ = some (.string ⟨#[]⟩) ∧ V.cell? ⟨k7, 3, none⟩ = some (.int .u64 0) ∧ V.cell? ⟨k7, 4, none⟩ = some (.int .i64 n) ∧ V.cell? ⟨k7, 5, none⟩ = some (.slice none 0 0) ∧ V.cell? ⟨k8, 0, none⟩ = some (.int .i64 1) ∧ V.cell? ⟨k8, 1, none⟩ = some (.string ⟨#[]⟩) ∧ V.cell? ⟨k8, 2, none⟩ = some (.string ⟨#[]⟩) ∧ V.cell? ⟨k8, 3, none⟩ = some (.int .u64 0) ∧ V.cell? ⟨k8, 4, none⟩ = some (.int .i64 (n + 1)) ∧ V.cell? ⟨k8, 5, none⟩ = some (.slice none 0 0) from by
    have m1 := (six_of (h.obj hst.o5 NE.out.e5.1))
    have m2 := (six_free (h.obj hst.o7 NE.out.e7.1)).1
    have m3 := (six_free (h.obj hst.o8 NE.out.e8.1)).1
    exact ⟨m1.c0, m1.c1, m1.c2, m1.c3, m1.c4, m1.c5, m2.1, m2.2.1, m2.2.2.1, m2.2.2.2.1, m2.2.2.2.2.1, m2.2.2.2.2.2, m3.1, m3.2.1, m3.2.2.1, m3.2.2.2.1, m3.2.2.2.2.1, m3.2.2.2.2.2⟩))
  have BB := hid (But1.refl hst.box)
  have XB := hid hst.box
  have N0 := hid hst.but
  have hbo := betT_ok hbt
  have CT := hid (show Calls Tryz.prog 110 #[.agg #[.int .i64 a3.kind, .string a3.name, .string a3.num, .int .u64 a3.bits, .int .i64 a3.var, .slice p3 a3.args.length c3], .agg #[.int .i64 1, .string ⟨#[]⟩, .string ⟨#[]⟩, .int .u64 0, .int .i64 n, .slice none 0 0], .agg #[.int .i64 1, .string ⟨#[]⟩, .string ⟨#[]⟩, .int .u64 0, .int .i64 (n + 1), .slice none 0 0]] W fun x w' => ∃ q c', x = .returned (.agg #[.int .i64 hd.kind, .string hd.name, .string hd.num, .int .u64 hd.bits, .int .i64 hd.var, .slice q hd.args.length c']) ∧ TmAt w' hd q ∧ Below W.heap.size W w' from by
    rw [hbo.2]
    exact between_ok a3 (vrT n) (vrT (n + 1)) p3 none none c3 0 0 W T3 (leaf_mine W 1 ⟨#[]⟩ ⟨#[]⟩ n).at_ (leaf_mine W 1 ⟨#[]⟩ ⟨#[]⟩ (n + 1)).at_ g3 (vrT_good h0 (by omega)) (vrT_good (by omega) (by omega)) hbo.1)
  have FR := hid (fun (V : World) (h : But1 bx W V) => (six_free (show V.heap[k5]? = some (.cells #[.int .i64 a3.kind, .string a3.name, .string a3.num, .int .u64 a3.bits, .int .i64 a3.var, .slice p3 a3.args.length c3] 25 (0, 0)) from h.obj hst.o5 NE.out.e5.1)))
  clear hst hm9 hm10 T3 TP g3 h0 hmx hbt hbo hB5 HK
  show Code.wp Tryz.prog tail9 _ _ _
  conv => arg 2; whnf
  obtain ⟨g0, g1, g2, g3, g4, g5, l0, l1, l2, l3, l4, l5, i0, i1, i2, i3, i4, i5⟩ := SR.out _ BB.out
  go_upto_region 12 with fail
  dsimp only
  go_cut [] (fun wx => ∃ q c, RuleSt bx n (n + 3) hd a2 q p2 c c2 k4 k5 k6 k7 k8 w wx ∧ More k4 k5 k6 k7 k8 k9 w wx (tobj pe qp cp) ∧ More k4 k5 k6 k7 k8 k10 w wx (.cells #[.int .i64 1, .string ⟨#[]⟩, .string ⟨#[]⟩, .int .u64 0, .int .i64 (n + 2), .slice none 0 0] 25 (0, 0)) ∧ TmAt wx hd q ∧ TmAt wx pe qp)
  case first =>
    go_wp2_with (first
      | (go_at_call 110; (with_reducible refine CT.out.mono ?_); rintro x v3 ⟨q, c, rfl, hm, hb3⟩; have MM := hid hm; have L3 := hid hb3; have D3 := hid (But1.of_below XB.out hb3); have X3 := hid (XB.out.keep hb3); clear hb3 hm g0 g1 g2 g3 g4 g5 l0 l1 l2 l3 l4 l5 i0 i1 i2 i3 i4 i5; obtain ⟨⟨g0, g1, g2, g3, g4, g5⟩, ⟨f0, f1, f2, f3, f4, f5⟩⟩ := FR.out _ D3.out)
      | fail)
    go_meet
    case rel => exact ⟨q, c, bet_st ST.out M9.out M10.out D3.out X3.out T3H.out TPH.out HB5.out HNO.out MM.out L3.out rfl⟩
  case rest =>
    obtain ⟨q, c, hst, hm9, hm10, hh, hp⟩ := hcut
    rename_i K hK
    refine hK _ _ ?_
    exact CH.out _ _ _ _ _ _ _ _ _ _ _ _ _ _ _ _ _ _ _ _ _ _ _ _ _ _ _ _ _ _ _ _ _ _ _ _ _ _ _ _ _ _ _ _ _ _ _ _ _ _ _ _ _ _ _ _ _ _ _ _ _ _ _ _ _ _ _ _ _ _ _ _ hst hm9 hm10 hh hp
set_option maxRecDepth 100000 in
set_option maxHeartbeats 16000000 in
theorem push_ball (bx : Nat) (n : Int) (hd a2 pe : Tm) (qh p2 qp : Option Addr) (ch c2 cp : Nat) (k4 k5 k6 k7 k8 k9 k10 : Nat) (w W : World) {u0 u2 u3 u11 u12 u13 u14 u15 u16 u17 u18 u19 u20 u21 u22 u23 u24 u25 u26 u27 u28 u29 u30 u31 u32 u33 u34 u35 u36 u37 u38 u39 u40 u41 u42 u43 u44 u45 u46 u47 u48 u49 u50 u51 u52 u53 u54 u55 u56 u57 u58 u59 u60 u61 u62 u63 u64 u65 u66 u67 u68 u69 u70 u71 u72 u73 u74 u75 u76 : Value} (hst : RuleSt bx n (n + 3) hd a2 qh p2 ch c2 k4 k5 k6 k7 k8 w W) (hm9 : More k4 k5 k6 k7 k8 k9 w W (tobj pe qp cp)) (hm10 : More k4 k5 k6 k7 k8 k10 w W (.cells #[.int .i64 1, .string ⟨#[]⟩, .string ⟨#[]⟩, .int .u64 0, .int .i64 (n + 2), .slice none 0 0] 25 (0, 0))) (_TH : TmAt W hd qh) (_TP : TmAt W pe qp) (T2 : TmAt w a2 p2) (_gh : Good hd) (_gp : Good pe) (g2 : Good a2) (hX : ∀ V, But1 bx w V → Utf V) (hn2 : nodes a2 ≤ 4000) (h0 : 0 ≤ n) (hmx : n + 3 + nodes a2 ≤ 9223372036854775806) (bb : Tm) (hok : bodyN (nodes a2) a2 (vrT n) (vrT (n + 2)) (n + 3) = .ball bb) (Q : Ending → World → Prop) (hQ : ∀ x w', (∃ k, x = .panicked [{ v := .iface 105 (.pointer (some ⟨k, 0, none⟩)), recovered := false }] ∧ BallAt w' k bb ∧ But1 bx w w') → Q x w') :
    Code.wp Tryz.prog tail10 (bodyPost Tryz.prog Tryz.f52 Q) ⟨#[u0, .func (.func 104) #[] #[.pointer (some ⟨bx, 0, none⟩)], u2, u3, .pointer (some ⟨k4, 0, none⟩), .pointer (some ⟨k5, 0, none⟩), .pointer (some ⟨k6, 0, none⟩), .pointer (some ⟨k7, 0, none⟩), .pointer (some ⟨k8, 0, none⟩), .pointer (some ⟨k9, 0, none⟩), .pointer (some ⟨k10, 0, none⟩), u11, u12, u13, u14, u15, u16, u17, u18, u19, u20, u21, u22, u23, u24, u25, u26, u27, u28, u29, u30, u31, u32, u33, u34, u35, u36, u37, u38, u39, u40, u41, u42, u43, u44, u45, u46, u47, u48, u49, u50, u51, u52, u53, u54, u55, u56, u57, u58, u59, u60, u61, u62, u63, u64, u65, u66, u67, u68, u69, u70, u71, u72, u73, u74, u75, u76], []⟩ W := by
  have HQ := hid hQ
  have NE := hid (show NeSt bx k4 k5 k6 k7 k8 from ne_st hst)
  have N9 := hid (show (k9 ≠ bx ∧ k4 ≠ k9) ∧ (k10 ≠ bx ∧ k4 ≠ k10) from ⟨⟨by have := hm9.n9; have := hst.but.lt; omega, hm9.d49⟩, ⟨by have := hm10.n9; have := hst.but.lt; omega, hm10.d49⟩⟩)
  have SR := hid (fun (V : World) (h : But1 bx W V) => (show V.cell? ⟨k5, 0, none⟩ = some (.int .i64 hd.kind) ∧ V.cell? ⟨k5, 1, none⟩ = some (.string hd.name) ∧ V.cell? ⟨k5, 2, none⟩ = some (.string hd.num) ∧ V.cell? ⟨k5, 3, none⟩ = some (.int .u64 hd.bits) ∧ V.cell? ⟨k5, 4, none⟩ = some (.int .i64 hd.var) ∧ V.cell? ⟨k5, 5, none⟩ = some (.slice qh hd.args.length ch) ∧ V.cell? ⟨k6, 0, none⟩ = some (.int .i64 a2.kind) ∧ V.cell? ⟨k6, 1, none⟩ = some (.string a2.name) ∧ V.cell? ⟨k6, 2, none⟩ = some (.string a2.num) ∧ V.cell? ⟨k6, 3, none⟩ = some (.int .u64 a2.bits) ∧ V.cell? ⟨k6, 4, none⟩ = some (.int .i64 a2.var) ∧ V.cell? ⟨k6, 5, none⟩ = some (.slice p2 a2.args.length c2) ∧ V.cell? ⟨k7, 0, none⟩ = some (.int .i64 1) ∧ V.cell? ⟨k7, 1, none⟩ = some (.string ⟨#[]⟩) ∧ V.cell? ⟨k7, 2, none⟩ = some (.string ⟨#[]⟩) ∧ V.cell? ⟨k7, 3, none⟩ = some (.int .u64 0) ∧ V.cell? ⟨k7, 4, none⟩ = some (.int .i64 n) ∧ V.cell? ⟨k7, 5, none⟩ = some (.slice none 0 0) ∧ V.cell? ⟨k8, 0, none⟩ = some (.int .i64 1) ∧ V.cell? ⟨k8, 1, none⟩ = some (.string ⟨#[]⟩) ∧ V.cell? ⟨k8, 2, none⟩ = some (.string ⟨#[]⟩) ∧ V.cell? ⟨k8, 3, none⟩ = some (.int .u64 0) ∧ V.cell? ⟨k8, 4, none⟩ = some (.int .i64 (n + 1)) ∧ V.cell? ⟨k8, 5, none⟩ = some (.slice none 0 0) ∧ V.cell? ⟨k9, 0, none⟩ = some (.int .i64 pe.kind) ∧ V.cell? ⟨k9, 1, none⟩ = some (.string pe.name) ∧ V.cell? ⟨k9, 2, none⟩ = some (.string pe.num) ∧ V.cell? ⟨k9, 3, none⟩ = some (.int .u64 pe.bits) ∧ V.cell? ⟨k9, 4, none⟩ = some (.int .i64 pe.var) ∧ V.cell? ⟨k9, 5, none⟩ = some (.slice qp pe.args.length cp) ∧ V.cell? ⟨k10, 0, none⟩ = some (.int .i64 1) ∧ V.cell? ⟨k10, 1, none⟩ = some (.string ⟨#[]⟩) ∧ V.cell? ⟨k10, 2, none⟩ = some (.string ⟨#[]⟩) ∧ V.cell? ⟨k10, 3, none⟩ = some (.int .u64 0) ∧ V.cell? ⟨k10, 4, none⟩ = some (.int .i64 (n + 2)) ∧ V.cell? ⟨k10, 5, none⟩ = some (.slice none 0 0) from by
    have mg := (six_free (h.obj hst.o5 (NE.out.e5).1)).1
    have mj := (six_free (h.obj hst.o6 (NE.out.e6).1)).1
    have ml := (six_free (h.obj hst.o7 (NE.out.e7).1)).1
    have mi := (six_free (h.obj hst.o8 (NE.out.e8).1)).1
    have ms := (six_free (h.obj hm9.o9 (N9.out.1).1)).1
    have mr := (six_free (h.obj hm10.o9 (N9.out.2).1)).1
    exact ⟨mg.1, mg.2.1, mg.2.2.1, mg.2.2.2.1, mg.2.2.2.2.1, mg.2.2.2.2.2, mj.1, mj.2.1, mj.2.2.1, mj.2.2.2.1, mj.2.2.2.2.1, mj.2.2.2.2.2, ml.1, ml.2.1, ml.2.2.1, ml.2.2.2.1, ml.2.2.2.2.1, ml.2.2.2.2.2, mi.1, mi.2.1, mi.2.2.1, mi.2.2.2.1, mi.2.2.2.2.1, mi.2.2.2.2.2, ms.1, ms.2.1, ms.2.2.1, ms.2.2.2.1, ms.2.2.2.2.1, ms.2.2.2.2.2, mr.1, mr.2.1, mr.2.2.1, mr.2.2.2.1, mr.2.2.2.2.1, mr.2.2.2.2.2⟩))
  have BB := hid (But1.refl hst.box)
  have XB := hid hst.box
  have N0 := hid hst.but
  have R0 := hid hst.o4
  have hlo := hid (show w.heap.size ≤ k4 ∧ bx < w.heap.size from ⟨hst.n4, hst.but.lt⟩)
  have CB := hid (show ∀ V, But1 bx W V → Box1 V bx (n + 3) → Calls Tryz.prog 68 #[.agg #[.int .i64 a2.kind, .string a2.name, .string a2.num, .int .u64 a2.bits, .int .i64 a2.var, .slice p2 a2.args.length c2], .agg #[.int .i64 1, .string ⟨#[]⟩, .string ⟨#[]⟩, .int .u64 0, .int .i64 n, .slice none 0 0], .agg #[.int .i64 1, .string ⟨#[]⟩, .string ⟨#[]⟩, .int .u64 0, .int .i64 (n + 2), .slice none 0 0], .func (.func 104) #[] #[.pointer (some ⟨bx, 0, none⟩)]] V fun x w' => ∃ k, x = .panicked [{ v := .iface 105 (.pointer (some ⟨k, 0, none⟩)), recovered := false }] ∧ BallAt w' k bb ∧ But1 bx V w' from fun V h h2 => by
    have hb := hst.but.trans h
    have hc := body_any bx (nodes a2) a2 (vrT n) (vrT (n + 2)) (n + 3) p2 none none c2 0 0 V (Nat.le_refl _) (hb.tm T2) (leaf_mine V 1 ⟨#[]⟩ ⟨#[]⟩ _).at_ (leaf_mine V 1 ⟨#[]⟩ ⟨#[]⟩ _).at_ g2 (vrT_good (by omega) (by omega)) (vrT_good (by omega) (by omega)) (fun V' h' => hX V' (hb.trans h')) hn2 h2 (by omega) (by omega)
    unfold BodyAt at hc
    rw [hok] at hc
    exact hc)
  clear hst hm9 hm10 _TH _TP T2 _gh _gp g2 hX hn2 h0 hmx hok hQ
  show Code.wp Tryz.prog tail10 _ _ _
  conv => arg 2; whnf
  obtain ⟨g0, g1, g2, g3, g4, g5, j0, j1, j2, j3, j4, j5, l0, l1, l2, l3, l4, l5, i0, i1, i2, i3, i4, i5, s0, s1, s2, s3, s4, s5, r0, r1, r2, r3, r4, r5⟩ := SR.out _ BB.out
  go_upto_region 13 with fail
  have BD := hid (show But1 bx W (World.drew _) from BB.out.trans (But1.of_below XB.out (bl_drew (Below.refl _ _))))
  have XD := hid (show Box1 (World.drew _) bx (n + 3) from XB.out)
  have sd := SR.out _ BD.out
  clear g0 g1 g2 g3 g4 g5 j0 j1 j2 j3 j4 j5 l0 l1 l2 l3 l4 l5 i0 i1 i2 i3 i4 i5 s0 s1 s2 s3 s4 s5 r0 r1 r2 r3 r4 r5
  refine wp_region_held_drew (S := fun V => V.cell? ⟨k5, 0, none⟩ = some (.int .i64 hd.kind) ∧ V.cell? ⟨k5, 1, none⟩ = some (.string hd.name) ∧ V.cell? ⟨k5, 2, none⟩ = some (.string hd.num) ∧ V.cell? ⟨k5, 3, none⟩ = some (.int .u64 hd.bits) ∧ V.cell? ⟨k5, 4, none⟩ = some (.int .i64 hd.var) ∧ V.cell? ⟨k5, 5, none⟩ = some (.slice qh hd.args.length ch) ∧ V.cell? ⟨k6, 0, none⟩ = some (.int .i64 a2.kind) ∧ V.cell? ⟨k6, 1, none⟩ = some (.string a2.name) ∧ V.cell? ⟨k6, 2, none⟩ = some (.string a2.num) ∧ V.cell? ⟨k6, 3, none⟩ = some (.int .u64 a2.bits) ∧ V.cell? ⟨k6, 4, none⟩ = some (.int .i64 a2.var) ∧ V.cell? ⟨k6, 5, none⟩ = some (.slice p2 a2.args.length c2) ∧ V.cell? ⟨k7, 0, none⟩ = some (.int .i64 1) ∧ V.cell? ⟨k7, 1, none⟩ = some (.string ⟨#[]⟩) ∧ V.cell? ⟨k7, 2, none⟩ = some (.string ⟨#[]⟩) ∧ V.cell? ⟨k7, 3, none⟩ = some (.int .u64 0) ∧ V.cell? ⟨k7, 4, none⟩ = some (.int .i64 n) ∧ V.cell? ⟨k7, 5, none⟩ = some (.slice none 0 0) ∧ V.cell? ⟨k8, 0, none⟩ = some (.int .i64 1) ∧ V.cell? ⟨k8, 1, none⟩ = some (.string ⟨#[]⟩) ∧ V.cell? ⟨k8, 2, none⟩ = some (.string ⟨#[]⟩) ∧ V.cell? ⟨k8, 3, none⟩ = some (.int .u64 0) ∧ V.cell? ⟨k8, 4, none⟩ = some (.int .i64 (n + 1)) ∧ V.cell? ⟨k8, 5, none⟩ = some (.slice none 0 0) ∧ V.cell? ⟨k9, 0, none⟩ = some (.int .i64 pe.kind) ∧ V.cell? ⟨k9, 1, none⟩ = some (.string pe.name) ∧ V.cell? ⟨k9, 2, none⟩ = some (.string pe.num) ∧ V.cell? ⟨k9, 3, none⟩ = some (.int .u64 pe.bits) ∧ V.cell? ⟨k9, 4, none⟩ = some (.int .i64 pe.var) ∧ V.cell? ⟨k9, 5, none⟩ = some (.slice qp pe.args.length cp) ∧ V.cell? ⟨k10, 0, none⟩ = some (.int .i64 1) ∧ V.cell? ⟨k10, 1, none⟩ = some (.string ⟨#[]⟩) ∧ V.cell? ⟨k10, 2, none⟩ = some (.string ⟨#[]⟩) ∧ V.cell? ⟨k10, 3, none⟩ = some (.int .u64 0) ∧ V.cell? ⟨k10, 4, none⟩ = some (.int .i64 (n + 2)) ∧ V.cell? ⟨k10, 5, none⟩ = some (.slice none 0 0)) (by kernel_rfl) sd (fun hHeld => ?_)
  refine' wpAnyH_take (i := 0) (v := (.agg #[.int .i64 hd.kind, .string hd.name, .string hd.num, .int .u64 hd.bits, .int .i64 hd.var, .slice qh hd.args.length ch])) rfl (by decide +kernel) (by decide +kernel) (by decide +kernel) (fun _ _ _ h => h) (Or.inl ⟨by rfl, ?_⟩) (by assumption) ?_
  · (intro w5 hSw; (try dsimp only at hSw); go_simp; try with_reducible rfl)
  (try simp only [Act.put, List.setIfInBounds_toArray])
  refine' wpAnyH_take (i := 1) (v := (.agg #[.int .i64 a2.kind, .string a2.name, .string a2.num, .int .u64 a2.bits, .int .i64 a2.var, .slice p2 a2.args.length c2])) rfl (by decide +kernel) (by decide +kernel) (by decide +kernel) (fun _ _ _ h => h) (Or.inl ⟨by rfl, ?_⟩) (by assumption) ?_
  · (intro w5 hSw; (try dsimp only at hSw); go_simp; try with_reducible rfl)
  (try simp only [Act.put])
  refine' wpAnyH_take (i := 2) (v := (.agg #[.int .i64 1, .string ⟨#[]⟩, .string ⟨#[]⟩, .int .u64 0, .int .i64 n, .slice none 0 0])) rfl (by decide +kernel) (by decide +kernel) (by decide +kernel) (fun _ _ _ h => h) (Or.inl ⟨by rfl, ?_⟩) (by assumption) ?_
  · (intro w5 hSw; (try dsimp only at hSw); go_simp; try with_reducible rfl)
  (try simp only [Act.put])
  refine' wpAnyH_take (i := 3) (v := (.agg #[.int .i64 1, .string ⟨#[]⟩, .string ⟨#[]⟩, .int .u64 0, .int .i64 (n + 2), .slice none 0 0])) rfl (by decide +kernel) (by decide +kernel) (by decide +kernel) (fun _ _ _ h => h) (Or.inl ⟨by rfl, ?_⟩) (by assumption) ?_
  · (intro w5 hSw; (try dsimp only at hSw); go_simp; try with_reducible rfl)
  (try simp only [Act.put])
  refine' wpAnyH_take (i := 4) (v := (.func (.func 104) #[] #[.pointer (some ⟨bx, 0, none⟩)])) rfl (by decide +kernel) (by decide +kernel) (by decide +kernel) (fun _ _ _ h => h) (Or.inl ⟨by rfl, ?_⟩) (by assumption) ?_
  · (intro w5 hSw; (try dsimp only at hSw); go_simp; try with_reducible rfl)
  (try simp only [Act.put])
  refine' wpAnyH_take (i := 6) (v := (.agg #[.int .i64 1, .string ⟨#[]⟩, .string ⟨#[]⟩, .int .u64 0, .int .i64 (n + 1), .slice none 0 0])) rfl (by decide +kernel) (by decide +kernel) (by decide +kernel) (fun _ _ _ h => h) (Or.inl ⟨by rfl, ?_⟩) (by assumption) ?_
  · (intro w5 hSw; (try dsimp only at hSw); go_simp; try with_reducible rfl)
  (try simp only [Act.put])
  refine' wpAnyH_take (i := 7) (v := (.agg #[.int .i64 pe.kind, .string pe.name, .string pe.num, .int .u64 pe.bits, .int .i64 pe.var, .slice qp pe.args.length cp])) rfl (by decide +kernel) (by decide +kernel) (by decide +kernel) (fun _ _ _ h => h) (Or.inl ⟨by rfl, ?_⟩) (by assumption) ?_
  · (intro w5 hSw; (try dsimp only at hSw); go_simp; try with_reducible rfl)
  (try simp only [Act.put])
  refine wpAnyH_ready (rs := [5]) (by decide +kernel) (by simp) ?_
  refine AllReadyH.cons rfl (fun K hK => ?_) AllReadyH.nil
  go_simp
  (with_reducible refine (CB.out _ BD.out XD.out).mono ?_)
  rintro x w4 ⟨k, rfl, ht, hb4⟩
  have D4 := hid (BD.out.trans hb4)
  clear hHeld sd hb4
  go_simp
  exact ⟨rfl, HQ.out _ _ ⟨k, rfl, ht, N0.out.trans D4.out⟩⟩
set_option maxRecDepth 100000 in
set_option maxHeartbeats 16000000 in
theorem push_ok (bx : Nat) (n : Int) (hd a2 pe : Tm) (qh p2 qp : Option Addr) (ch c2 cp : Nat) (k4 k5 k6 k7 k8 k9 k10 : Nat) (w W : World) {u0 u2 u3 u11 u12 u13 u14 u15 u16 u17 u18 u19 u20 u21 u22 u23 u24 u25 u26 u27 u28 u29 u30 u31 u32 u33 u34 u35 u36 u37 u38 u39 u40 u41 u42 u43 u44 u45 u46 u47 u48 u49 u50 u51 u52 u53 u54 u55 u56 u57 u58 u59 u60 u61 u62 u63 u64 u65 u66 u67 u68 u69 u70 u71 u72 u73 u74 u75 u76 : Value} (hst : RuleSt bx n (n + 3) hd a2 qh p2 ch c2 k4 k5 k6 k7 k8 w W) (hm9 : More k4 k5 k6 k7 k8 k9 w W (tobj pe qp cp)) (hm10 : More k4 k5 k6 k7 k8 k10 w W (.cells #[.int .i64 1, .string ⟨#[]⟩, .string ⟨#[]⟩, .int .u64 0, .int .i64 (n + 2), .slice none 0 0] 25 (0, 0))) (TH : TmAt W hd qh) (TP : TmAt W pe qp) (T2 : TmAt w a2 p2) (gh : Good hd) (gp : Good pe) (g2 : Good a2) (hX : ∀ V, But1 bx w V → Utf V) (hn2 : nodes a2 ≤ 4000) (h0 : 0 ≤ n) (hmx : n + 3 + nodes a2 ≤ 9223372036854775806) (g : Tm) (m : Int) (hok : bodyN (nodes a2) a2 (vrT n) (vrT (n + 2)) (n + 3) = .ok g m) (Q : Ending → World → Prop) (hQ : ∀ x w', (∃ q c', x = .returned ((cT nIf [hd, andT g (eqT (vrT (n + 1)) pe)]).val q c') ∧ TmAt w' (cT nIf [hd, andT g (eqT (vrT (n + 1)) pe)]) q ∧ Box1 w' bx m ∧ But1 bx w w') → Q x w') :
    Code.wp Tryz.prog tail10 (bodyPost Tryz.prog Tryz.f52 Q) ⟨#[u0, .func (.func 104) #[] #[.pointer (some ⟨bx, 0, none⟩)], u2, u3, .pointer (some ⟨k4, 0, none⟩), .pointer (some ⟨k5, 0, none⟩), .pointer (some ⟨k6, 0, none⟩), .pointer (some ⟨k7, 0, none⟩), .pointer (some ⟨k8, 0, none⟩), .pointer (some ⟨k9, 0, none⟩), .pointer (some ⟨k10, 0, none⟩), u11, u12, u13, u14, u15, u16, u17, u18, u19, u20, u21, u22, u23, u24, u25, u26, u27, u28, u29, u30, u31, u32, u33, u34, u35, u36, u37, u38, u39, u40, u41, u42, u43, u44, u45, u46, u47, u48, u49, u50, u51, u52, u53, u54, u55, u56, u57, u58, u59, u60, u61, u62, u63, u64, u65, u66, u67, u68, u69, u70, u71, u72, u73, u74, u75, u76], []⟩ W := by
  have HQ := hid hQ
  have GH := hid gh
  have NE := hid (show NeSt bx k4 k5 k6 k7 k8 from ne_st hst)
  have N9 := hid (show (k9 ≠ bx ∧ k4 ≠ k9) ∧ (k10 ≠ bx ∧ k4 ≠ k10) from ⟨⟨by have := hm9.n9; have := hst.but.lt; omega, hm9.d49⟩, ⟨by have := hm10.n9; have := hst.but.lt; omega, hm10.d49⟩⟩)
  have SR := hid (fun (V : World) (h : But1 bx W V) => (show V.cell? ⟨k5, 0, none⟩ = some (.int .i64 hd.kind) ∧ V.cell? ⟨k5, 1, none⟩ = some (.string hd.name) ∧ V.cell? ⟨k5, 2, none⟩ = some (.string hd.num) ∧ V.cell? ⟨k5, 3, none⟩ = some (.int .u64 hd.bits) ∧ V.cell? ⟨k5, 4, none⟩ = some (.int .i64 hd.var) ∧ V.cell? ⟨k5, 5, none⟩ = some (.slice qh hd.args.length ch) ∧ V.cell? ⟨k6, 0, none⟩ = some (.int .i64 a2.kind) ∧ V.cell? ⟨k6, 1, none⟩ = some (.string a2.name) ∧ V.cell? ⟨k6, 2, none⟩ = some (.string a2.num) ∧ V.cell? ⟨k6, 3, none⟩ = some (.int .u64 a2.bits) ∧ V.cell? ⟨k6, 4, none⟩ = some (.int .i64 a2.var) ∧ V.cell? ⟨k6, 5, none⟩ = some (.slice p2 a2.args.length c2) ∧ V.cell? ⟨k7, 0, none⟩ = some (.int .i64 1) ∧ V.cell? ⟨k7, 1, none⟩ = some (.string ⟨#[]⟩) ∧ V.cell? ⟨k7, 2, none⟩ = some (.string ⟨#[]⟩) ∧ V.cell? ⟨k7, 3, none⟩ = some (.int .u64 0) ∧ V.cell? ⟨k7, 4, none⟩ = some (.int .i64 n) ∧ V.cell? ⟨k7, 5, none⟩ = some (.slice none 0 0) ∧ V.cell? ⟨k8, 0, none⟩ = some (.int .i64 1) ∧ V.cell? ⟨k8, 1, none⟩ = some (.string ⟨#[]⟩) ∧ V.cell? ⟨k8, 2, none⟩ = some (.string ⟨#[]⟩) ∧ V.cell? ⟨k8, 3, none⟩ = some (.int .u64 0) ∧ V.cell? ⟨k8, 4, none⟩ = some (.int .i64 (n + 1)) ∧ V.cell? ⟨k8, 5, none⟩ = some (.slice none 0 0) ∧ V.cell? ⟨k9, 0, none⟩ = some (.int .i64 pe.kind) ∧ V.cell? ⟨k9, 1, none⟩ = some (.string pe.name) ∧ V.cell? ⟨k9, 2, none⟩ = some (.string pe.num) ∧ V.cell? ⟨k9, 3, none⟩ = some (.int .u64 pe.bits) ∧ V.cell? ⟨k9, 4, none⟩ = some (.int .i64 pe.var) ∧ V.cell? ⟨k9, 5, none⟩ = some (.slice qp pe.args.length cp) ∧ V.cell? ⟨k10, 0, none⟩ = some (.int .i64 1) ∧ V.cell? ⟨k10, 1, none⟩ = some (.string ⟨#[]⟩) ∧ V.cell? ⟨k10, 2, none⟩ = some (.string ⟨#[]⟩) ∧ V.cell? ⟨k10, 3, none⟩ = some (.int .u64 0) ∧ V.cell? ⟨k10, 4, none⟩ = some (.int .i64 (n + 2)) ∧ V.cell? ⟨k10, 5, none⟩ = some (.slice none 0 0) from by
    have mg := (six_free (h.obj hst.o5 (NE.out.e5).1)).1
    have mj := (six_free (h.obj hst.o6 (NE.out.e6).1)).1
    have ml := (six_free (h.obj hst.o7 (NE.out.e7).1)).1
    have mi := (six_free (h.obj hst.o8 (NE.out.e8).1)).1
    have ms := (six_free (h.obj hm9.o9 (N9.out.1).1)).1
    have mr := (six_free (h.obj hm10.o9 (N9.out.2).1)).1
    exact ⟨mg.1, mg.2.1, mg.2.2.1, mg.2.2.2.1, mg.2.2.2.2.1, mg.2.2.2.2.2, mj.1, mj.2.1, mj.2.2.1, mj.2.2.2.1, mj.2.2.2.2.1, mj.2.2.2.2.2, ml.1, ml.2.1, ml.2.2.1, ml.2.2.2.1, ml.2.2.2.2.1, ml.2.2.2.2.2, mi.1, mi.2.1, mi.2.2.1, mi.2.2.2.1, mi.2.2.2.2.1, mi.2.2.2.2.2, ms.1, ms.2.1, ms.2.2.1, ms.2.2.2.1, ms.2.2.2.2.1, ms.2.2.2.2.2, mr.1, mr.2.1, mr.2.2.1, mr.2.2.2.1, mr.2.2.2.2.1, mr.2.2.2.2.2⟩))
  have SS := hid (fun (V : World) (h : But1 bx W V) (u0 u1 u2 u3 u4 u5 : Value) => (show (fun V : World => V.cell? ⟨k5, 0, none⟩ = some (.int .i64 hd.kind) ∧ V.cell? ⟨k5, 1, none⟩ = some (.string hd.name) ∧ V.cell? ⟨k5, 2, none⟩ = some (.string hd.num) ∧ V.cell? ⟨k5, 3, none⟩ = some (.int .u64 hd.bits) ∧ V.cell? ⟨k5, 4, none⟩ = some (.int .i64 hd.var) ∧ V.cell? ⟨k5, 5, none⟩ = some (.slice qh hd.args.length ch) ∧ V.cell? ⟨k6, 0, none⟩ = some (.int .i64 a2.kind) ∧ V.cell? ⟨k6, 1, none⟩ = some (.string a2.name) ∧ V.cell? ⟨k6, 2, none⟩ = some (.string a2.num) ∧ V.cell? ⟨k6, 3, none⟩ = some (.int .u64 a2.bits) ∧ V.cell? ⟨k6, 4, none⟩ = some (.int .i64 a2.var) ∧ V.cell? ⟨k6, 5, none⟩ = some (.slice p2 a2.args.length c2) ∧ V.cell? ⟨k7, 0, none⟩ = some (.int .i64 1) ∧ V.cell? ⟨k7, 1, none⟩ = some (.string ⟨#[]⟩) ∧ V.cell? ⟨k7, 2, none⟩ = some (.string ⟨#[]⟩) ∧ V.cell? ⟨k7, 3, none⟩ = some (.int .u64 0) ∧ V.cell? ⟨k7, 4, none⟩ = some (.int .i64 n) ∧ V.cell? ⟨k7, 5, none⟩ = some (.slice none 0 0) ∧ V.cell? ⟨k8, 0, none⟩ = some (.int .i64 1) ∧ V.cell? ⟨k8, 1, none⟩ = some (.string ⟨#[]⟩) ∧ V.cell? ⟨k8, 2, none⟩ = some (.string ⟨#[]⟩) ∧ V.cell? ⟨k8, 3, none⟩ = some (.int .u64 0) ∧ V.cell? ⟨k8, 4, none⟩ = some (.int .i64 (n + 1)) ∧ V.cell? ⟨k8, 5, none⟩ = some (.slice none 0 0) ∧ V.cell? ⟨k9, 0, none⟩ = some (.int .i64 pe.kind) ∧ V.cell? ⟨k9, 1, none⟩ = some (.string pe.name) ∧ V.cell? ⟨k9, 2, none⟩ = some (.string pe.num) ∧ V.cell? ⟨k9, 3, none⟩ = some (.int .u64 pe.bits) ∧ V.cell? ⟨k9, 4, none⟩ = some (.int .i64 pe.var) ∧ V.cell? ⟨k9, 5, none⟩ = some (.slice qp pe.args.length cp) ∧ V.cell? ⟨k10, 0, none⟩ = some (.int .i64 1) ∧ V.cell? ⟨k10, 1, none⟩ = some (.string ⟨#[]⟩) ∧ V.cell? ⟨k10, 2, none⟩ = some (.string ⟨#[]⟩) ∧ V.cell? ⟨k10, 3, none⟩ = some (.int .u64 0) ∧ V.cell? ⟨k10, 4, none⟩ = some (.int .i64 (n + 2)) ∧ V.cell? ⟨k10, 5, none⟩ = some (.slice none 0 0)) (((((((V.setCell ⟨k4, 0, none⟩ u0).setCell ⟨k4, 1, none⟩ u1).setCell ⟨k4, 2, none⟩ u2).setCell ⟨k4, 3, none⟩ u3).setCell ⟨k4, 4, none⟩ u4).setCell ⟨k4, 5, none⟩ u5)) from by
    have hg := set6_grown V k4 u0 u1 u2 u3 u4 u5
    have mg := (six_free ((hg.block _ (lt_of_block (h.obj hst.o5 (NE.out.e5).1)) (fun e => (NE.out.e5).2 (Option.some.inj e).symm)).trans (h.obj hst.o5 (NE.out.e5).1))).1
    have mj := (six_free ((hg.block _ (lt_of_block (h.obj hst.o6 (NE.out.e6).1)) (fun e => (NE.out.e6).2 (Option.some.inj e).symm)).trans (h.obj hst.o6 (NE.out.e6).1))).1
    have ml := (six_free ((hg.block _ (lt_of_block (h.obj hst.o7 (NE.out.e7).1)) (fun e => (NE.out.e7).2 (Option.some.inj e).symm)).trans (h.obj hst.o7 (NE.out.e7).1))).1
    have mi := (six_free ((hg.block _ (lt_of_block (h.obj hst.o8 (NE.out.e8).1)) (fun e => (NE.out.e8).2 (Option.some.inj e).symm)).trans (h.obj hst.o8 (NE.out.e8).1))).1
    have ms := (six_free ((hg.block _ (lt_of_block (h.obj hm9.o9 (N9.out.1).1)) (fun e => (N9.out.1).2 (Option.some.inj e).symm)).trans (h.obj hm9.o9 (N9.out.1).1))).1
    have mr := (six_free ((hg.block _ (lt_of_block (h.obj hm10.o9 (N9.out.2).1)) (fun e => (N9.out.2).2 (Option.some.inj e).symm)).trans (h.obj hm10.o9 (N9.out.2).1))).1
    exact ⟨mg.1, mg.2.1, mg.2.2.1, mg.2.2.2.1, mg.2.2.2.2.1, mg.2.2.2.2.2, mj.1, mj.2.1, mj.2.2.1, mj.2.2.2.1, mj.2.2.2.2.1, mj.2.2.2.2.2, ml.1, ml.2.1, ml.2.2.1, ml.2.2.2.1, ml.2.2.2.2.1, ml.2.2.2.2.2, mi.1, mi.2.1, mi.2.2.1, mi.2.2.2.1, mi.2.2.2.2.1, mi.2.2.2.2.2, ms.1, ms.2.1, ms.2.2.1, ms.2.2.2.1, ms.2.2.2.2.1, ms.2.2.2.2.2, mr.1, mr.2.1, mr.2.2.1, mr.2.2.2.1, mr.2.2.2.2.1, mr.2.2.2.2.2⟩))
  have BB := hid (But1.refl hst.box)
  have XB := hid hst.box
  have N0 := hid hst.but
  have R0 := hid hst.o4
  have hlo := hid (show w.heap.size ≤ k4 ∧ bx < w.heap.size from ⟨hst.n4, hst.but.lt⟩)
  have CB := hid (show ∀ V, But1 bx W V → Box1 V bx (n + 3) → Calls Tryz.prog 68 #[.agg #[.int .i64 a2.kind, .string a2.name, .string a2.num, .int .u64 a2.bits, .int .i64 a2.var, .slice p2 a2.args.length c2], .agg #[.int .i64 1, .string ⟨#[]⟩, .string ⟨#[]⟩, .int .u64 0, .int .i64 n, .slice none 0 0], .agg #[.int .i64 1, .string ⟨#[]⟩, .string ⟨#[]⟩, .int .u64 0, .int .i64 (n + 2), .slice none 0 0], .func (.func 104) #[] #[.pointer (some ⟨bx, 0, none⟩)]] V fun x w' => ∃ q c', x = .returned (.agg #[.int .i64 g.kind, .string g.name, .string g.num, .int .u64 g.bits, .int .i64 g.var, .slice q g.args.length c']) ∧ TmAt w' g q ∧ Box1 w' bx m ∧ But1 bx V w' from fun V h h2 => by
    have hb := hst.but.trans h
    have hc := body_any bx (nodes a2) a2 (vrT n) (vrT (n + 2)) (n + 3) p2 none none c2 0 0 V (Nat.le_refl _) (hb.tm T2) (leaf_mine V 1 ⟨#[]⟩ ⟨#[]⟩ _).at_ (leaf_mine V 1 ⟨#[]⟩ ⟨#[]⟩ _).at_ g2 (vrT_good (by omega) (by omega)) (vrT_good (by omega) (by omega)) (fun V' h' => hX V' (hb.trans h')) hn2 h2 (by omega) (by omega)
    unfold BodyAt at hc
    rw [hok] at hc
    exact hc)
  have GG := hid (body_good (nodes a2) a2 (vrT n) (vrT (n + 2)) (n + 3) g m (Nat.le_refl _) g2 (vrT_good h0 (by omega)) (vrT_good (by omega) (by omega)) (by omega) (by omega) hok)
  obtain ⟨mm, hmm⟩ : ∃ mm, mm = eqT (vrT (n + 1)) pe := ⟨_, rfl⟩
  have GM := hid (show Good mm by rw [hmm]; exact eqT_good (vrT_good (by omega) (by omega)) gp)
  obtain ⟨y, hy⟩ : ∃ y, y = andT g mm := ⟨_, rfl⟩
  have GY := hid (show Good y by rw [hy]; exact andT_good GG.out GM.out)
  have CE := hid (show ∀ V, But1 bx W V → Calls Tryz.prog 113 #[.agg #[.int .i64 1, .string ⟨#[]⟩, .string ⟨#[]⟩, .int .u64 0, .int .i64 (n + 1), .slice none 0 0], .agg #[.int .i64 pe.kind, .string pe.name, .string pe.num, .int .u64 pe.bits, .int .i64 pe.var, .slice qp pe.args.length cp]] V fun x w' => ∃ q, x = .returned (.agg #[.int .i64 mm.kind, .string mm.name, .string mm.num, .int .u64 mm.bits, .int .i64 mm.var, .slice q mm.args.length 2]) ∧ TmAt w' mm q ∧ Below V.heap.size V w' from fun V h => by
    rw [hmm]
    exact equal_any (vrT (n + 1)) pe none qp 0 cp V (leaf_mine V 1 ⟨#[]⟩ ⟨#[]⟩ (n + 1)).at_ (h.tm TP))
  have CA := hid (show ∀ V q' c' q, TmAt V g q' → TmAt V mm q → Calls Tryz.prog 112 #[.agg #[.int .i64 g.kind, .string g.name, .string g.num, .int .u64 g.bits, .int .i64 g.var, .slice q' g.args.length c'], .agg #[.int .i64 mm.kind, .string mm.name, .string mm.num, .int .u64 mm.bits, .int .i64 mm.var, .slice q mm.args.length 2]] V fun x w' => ∃ q, x = .returned (.agg #[.int .i64 y.kind, .string y.name, .string y.num, .int .u64 y.bits, .int .i64 y.var, .slice q y.args.length 2]) ∧ TmAt w' y q ∧ Below V.heap.size V w' from fun V q' c' q h h2 => by
    rw [hy]
    exact and_any g mm q' q c' 2 V h h2)
  have HH := hid (fun (V : World) (h : But1 bx W V) => h.tm TH)
  rw [← hmm, ← hy] at HQ
  clear hmm hy
  obtain ⟨r, hr⟩ : ∃ r, r = cT nIf [hd, y] := ⟨_, rfl⟩
  have GR := hid (show Good r by
    rw [hr]
    exact two_good (by decide) (by decide +kernel) GH.out GY.out)
  have CO := hid (show ∀ V q, Calls Tryz.prog 109 #[.string ⟨#[58, 45]⟩, .slice q 2 2] V fun x w' => x = .returned (.agg #[.int .i64 r.kind, .string r.name, .string r.num, .int .u64 r.bits, .int .i64 r.var, .slice q r.args.length 2]) ∧ Below V.heap.size V w' from fun V q => by rw [hr]; exact of_any nIf [hd, y] q 2 V)
  have TY := hid (show ∀ V k qa ca qb cb, V.heap[k]? = some (.cells #[.int .i64 hd.kind, .string hd.name, .string hd.num, .int .u64 hd.bits, .int .i64 hd.var, .slice qa hd.args.length ca, .int .i64 y.kind, .string y.name, .string y.num, .int .u64 y.bits, .int .i64 y.var, .slice qb y.args.length cb] 25 (0, 0)) → TmAt V hd qa → TmAt V y qb → TmAt V r (some ⟨k, 0, none⟩) from fun V k qa ca qb cb h h2 h3 => by
    rw [hr]
    exact built nIf [(hd, qa, ca), (y, qb, cb)] h rfl (by simp) (fun x hx => by
      simp at hx
      rcases hx with rfl | rfl
      · exact h2
      · exact h3))
  rw [← hr] at HQ
  clear hr
  clear hst hm9 hm10 TH TP T2 gh gp g2 hX hn2 h0 hmx hok hQ
  show Code.wp Tryz.prog tail10 _ _ _
  conv => arg 2; whnf
  obtain ⟨g0, g1, g2, g3, g4, g5, j0, j1, j2, j3, j4, j5, l0, l1, l2, l3, l4, l5, i0, i1, i2, i3, i4, i5, s0, s1, s2, s3, s4, s5, r0, r1, r2, r3, r4, r5⟩ := SR.out _ BB.out
  go_upto_region 13 with fail
  have BD := hid (show But1 bx W (World.drew _) from BB.out.trans (But1.of_below XB.out (bl_drew (Below.refl _ _))))
  have XD := hid (show Box1 (World.drew _) bx (n + 3) from XB.out)
  have sr := SR.out _ BB.out
  clear g0 g1 g2 g3 g4 g5 j0 j1 j2 j3 j4 j5 l0 l1 l2 l3 l4 l5 i0 i1 i2 i3 i4 i5 s0 s1 s2 s3 s4 s5 r0 r1 r2 r3 r4 r5
  go_region_held3 (fun V => V.cell? ⟨k5, 0, none⟩ = some (.int .i64 hd.kind) ∧ V.cell? ⟨k5, 1, none⟩ = some (.string hd.name) ∧ V.cell? ⟨k5, 2, none⟩ = some (.string hd.num) ∧ V.cell? ⟨k5, 3, none⟩ = some (.int .u64 hd.bits) ∧ V.cell? ⟨k5, 4, none⟩ = some (.int .i64 hd.var) ∧ V.cell? ⟨k5, 5, none⟩ = some (.slice qh hd.args.length ch) ∧ V.cell? ⟨k6, 0, none⟩ = some (.int .i64 a2.kind) ∧ V.cell? ⟨k6, 1, none⟩ = some (.string a2.name) ∧ V.cell? ⟨k6, 2, none⟩ = some (.string a2.num) ∧ V.cell? ⟨k6, 3, none⟩ = some (.int .u64 a2.bits) ∧ V.cell? ⟨k6, 4, none⟩ = some (.int .i64 a2.var) ∧ V.cell? ⟨k6, 5, none⟩ = some (.slice p2 a2.args.length c2) ∧ V.cell? ⟨k7, 0, none⟩ = some (.int .i64 1) ∧ V.cell? ⟨k7, 1, none⟩ = some (.string ⟨#[]⟩) ∧ V.cell? ⟨k7, 2, none⟩ = some (.string ⟨#[]⟩) ∧ V.cell? ⟨k7, 3, none⟩ = some (.int .u64 0) ∧ V.cell? ⟨k7, 4, none⟩ = some (.int .i64 n) ∧ V.cell? ⟨k7, 5, none⟩ = some (.slice none 0 0) ∧ V.cell? ⟨k8, 0, none⟩ = some (.int .i64 1) ∧ V.cell? ⟨k8, 1, none⟩ = some (.string ⟨#[]⟩) ∧ V.cell? ⟨k8, 2, none⟩ = some (.string ⟨#[]⟩) ∧ V.cell? ⟨k8, 3, none⟩ = some (.int .u64 0) ∧ V.cell? ⟨k8, 4, none⟩ = some (.int .i64 (n + 1)) ∧ V.cell? ⟨k8, 5, none⟩ = some (.slice none 0 0) ∧ V.cell? ⟨k9, 0, none⟩ = some (.int .i64 pe.kind) ∧ V.cell? ⟨k9, 1, none⟩ = some (.string pe.name) ∧ V.cell? ⟨k9, 2, none⟩ = some (.string pe.num) ∧ V.cell? ⟨k9, 3, none⟩ = some (.int .u64 pe.bits) ∧ V.cell? ⟨k9, 4, none⟩ = some (.int .i64 pe.var) ∧ V.cell? ⟨k9, 5, none⟩ = some (.slice qp pe.args.length cp) ∧ V.cell? ⟨k10, 0, none⟩ = some (.int .i64 1) ∧ V.cell? ⟨k10, 1, none⟩ = some (.string ⟨#[]⟩) ∧ V.cell? ⟨k10, 2, none⟩ = some (.string ⟨#[]⟩) ∧ V.cell? ⟨k10, 3, none⟩ = some (.int .u64 0) ∧ V.cell? ⟨k10, 4, none⟩ = some (.int .i64 (n + 2)) ∧ V.cell? ⟨k10, 5, none⟩ = some (.slice none 0 0))
    (first
      | (with_reducible exact sr)
      | (with_reducible exact SR.out _ BD.out)
      | (with_reducible exact SR.out _ D4.out)
      | (with_reducible exact SS.out _ D4.out _ _ _ _ _ _)
      | (with_reducible exact SR.out _ D7.out)
      | (with_reducible exact SS.out _ D7.out _ _ _ _ _ _)
      | (with_reducible exact SR.out _ D8.out)
      | (with_reducible exact SS.out _ D8.out _ _ _ _ _ _)
      | (with_reducible exact SR.out _ D9.out)
      | (with_reducible exact SS.out _ D9.out _ _ _ _ _ _)
      | (with_reducible exact SR.out _ D10.out)
      | (with_reducible exact SS.out _ D10.out _ _ _ _ _ _)
      | fail)
    ((first
      | (go_at_call 68; (with_reducible refine (CB.out _ BD.out XD.out).mono ?_); rintro x w4 ⟨q4, c4, rfl, hm4, hx4, hb4⟩; have D4 := hid (BD.out.trans hb4); have X4 := hid hx4; have M4 := hid hm4; clear hm4 hx4 hb4)
      | (go_at_call 113; (with_reducible refine (CE.out _ D4.out).mono ?_); rintro x w7 ⟨q7, rfl, ht, hb7⟩; have D7 := hid (D4.out.trans (But1.of_below X4.out hb7)); have X7 := hid (X4.out.keep hb7); have M5 := hid (M4.out.keep hb7); have M7 := hid ht; clear hb7 ht)
      | (go_at_call 112; (with_reducible refine (CA.out _ _ _ _ M5.out M7.out).mono ?_); rintro x w8 ⟨q8, rfl, ht, hb8⟩; have D8 := hid (D7.out.trans (But1.of_below X7.out hb8)); have X8 := hid (X7.out.keep hb8); have M8 := hid ht; clear hb8 ht; obtain ⟨W9, hW9⟩ : ∃ W9, W9 = w8.alloc (.cells #[.int .i64 hd.kind, .string hd.name, .string hd.num, .int .u64 hd.bits, .int .i64 hd.var, .slice qh hd.args.length ch, .int .i64 y.kind, .string y.name, .string y.num, .int .u64 y.bits, .int .i64 y.var, .slice q8 y.args.length 2] 25) := ⟨_, rfl⟩; have A9 := hid (show Below w8.heap.size w8 W9 by rw [hW9]; exact (Below.refl _ _).alloc (Nat.le_refl _) _); have D9 := hid (show But1 bx W (w8.alloc (.cells #[.int .i64 hd.kind, .string hd.name, .string hd.num, .int .u64 hd.bits, .int .i64 hd.var, .slice qh hd.args.length ch, .int .i64 y.kind, .string y.name, .string y.num, .int .u64 y.bits, .int .i64 y.var, .slice q8 y.args.length 2] 25)) by rw [← hW9]; exact D8.out.trans (But1.of_below X8.out A9.out)); have Z9 := hid (X8.out.keep A9.out); have Y9 := hid (TY.out W9 w8.heap.size qh ch q8 2 (by rw [hW9]; exact heap_alloc_new w8 _) ((HH.out _ D8.out).keep A9.out) (M8.out.keep A9.out)))
      | (go_at_call 109; rw [← hW9]; (with_reducible refine (CO.out _ _).mono ?_); rintro x w10 ⟨rfl, hb10⟩; have D10 := hid ((show But1 bx W W9 by rw [hW9]; exact D9.out).trans (But1.of_below Z9.out hb10)); have X9 := hid (Z9.out.keep hb10); have M9 := hid (Y9.out.keep hb10); have R9 := hid (D10.out.obj R0.out NE.out.e4); clear hb10; obtain ⟨⟨z0, z1, z2, z3, z4, z5⟩, ⟨f0, f1, f2, f3, f4, f5⟩⟩ := six_free R9.out)
      | fail))
  all_goals
    go_wp2_with fail
    have hq := hlo.out
    have hgr := set6_grown w10 k4 (.int .i64 r.kind) (.string r.name) (.string r.num) (.int .u64 r.bits) (.int .i64 r.var) (.slice (some ⟨w8.heap.size, 0, none⟩) r.args.length 2)
    have hm' := TmAt.past (b := k4) (t := r) (p := (some ⟨w8.heap.size, 0, none⟩)) (show Blank w10 k4 from R9.out) (Past.grown hgr) GR.out M9.out
    have hx' : Box1 _ bx m := (hgr.block bx (lt_of_block X9.out) (fun e => by have := Option.some.inj e; omega)).trans X9.out
    exact bodyPost_ret (results_tm rfl _ _ k4 r (some ⟨w8.heap.size, 0, none⟩) 2 (by rfl) (set6 R9.out _ _ _ _ _ _)) rfl (HQ.out _ _ ⟨(some ⟨w8.heap.size, 0, none⟩), 2, rfl, hm', hx', ⟨(N0.out.trans D10.out).chg.grown1 hgr (fun x e => .inl (by have := Option.some.inj e; omega)), N0.out.here, ⟨_, hx'⟩⟩⟩)
end Go.Proofs.YtiaddfedaikaiaaGreatDoor

namespace Go.Proofs.YtiaddfedaikaiaaGreatDoor
open Go.RowKit

/-- What a call of rule comes to. -/
def RuleAt (bx : Nat) (t : Tm) (n : Int) (w : World) (x : Ending) (w' : World) : Prop := match ruleP t n with
  | .ok g m => ∃ q c', x = .returned (g.val q c') ∧ TmAt w' g q ∧ Box1 w' bx m ∧ But1 bx w w'
  | .ball b => ∃ k, x = .panicked [{ v := .iface 105 (.pointer (some ⟨k, 0, none⟩)), recovered := false }] ∧ BallAt w' k b ∧ But1 bx w w'
theorem RuleAt.ok {bx : Nat} {t g : Tm} {n m : Int} {w w' : World} {x : Ending} (h : ruleP t n = .ok g m) (hx : ∃ q c', x = .returned (g.val q c') ∧ TmAt w' g q ∧ Box1 w' bx m ∧ But1 bx w w') : RuleAt bx t n w x w' := by
  unfold RuleAt
  rw [h]
  exact hx
theorem RuleAt.ball {bx : Nat} {t b : Tm} {n : Int} {w w' : World} {x : Ending} (h : ruleP t n = .ball b) (hx : ∃ k, x = .panicked [{ v := .iface 105 (.pointer (some ⟨k, 0, none⟩)), recovered := false }] ∧ BallAt w' k b ∧ But1 bx w w') : RuleAt bx t n w x w' := by
  unfold RuleAt
  rw [h]
  exact hx
/-- A term of two arguments, and where they lie. -/
theorem two_at {w : World} {t : Tm} {p : Option Addr} {s : ByteArray} (hT : TmAt w t p) (hg : Good t) (hi : isOfT t s 2 = true) : ∃ b o a1 a2 q1 c1 q2 c2, p = some ⟨b, o, none⟩ ∧ t.args.length = 2 ∧ argT t 0 = a1 ∧ argT t 1 = a2 ∧ Six w b o a1 q1 c1 ∧ Six w b (o + 6) a2 q2 c2 ∧ TmAt w a1 q1 ∧ TmAt w a2 q2 ∧ Good a1 ∧ Good a2 ∧ nodes t = nodes a1 + nodes a2 + 1 := by
  have hlen := isOfT_len (k := 2) hi
  have hnod := (two_of hg hi).2.2.1
  have h02 : 0 < t.args.length := by omega
  have h05 : 1 < t.args.length := by omega
  obtain ⟨b, o, rfl, q1, c1, hs1, ht1⟩ := hT.get 0 h02
  obtain ⟨b', o', hbo, q2, c2, hs2, ht2⟩ := hT.get 1 h05
  obtain ⟨rfl, rfl⟩ : b = b' ∧ o = o' := by simpa using hbo
  have hga := (hg.arg _ (List.getElem_mem h02)).1
  have hgb := (hg.arg _ (List.getElem_mem h05)).1
  rw [Nat.zero_mul, Nat.add_zero] at hs1
  rw [Nat.one_mul] at hs2
  exact ⟨b, o, argT t 0, argT t 1, q1, c1, q2, c2, rfl, hlen, rfl, rfl, by rw [argT_get h02]; exact hs1, by rw [argT_get h05]; exact hs2, by rw [argT_get h02]; exact ht1, by rw [argT_get h05]; exact ht2, by rw [argT_get h02]; exact hga, by rw [argT_get h05]; exact hgb, hnod⟩
set_option maxRecDepth 100000 in
set_option maxHeartbeats 16000000 in
theorem rule_any (bx : Nat) (t : Tm) (n : Int) (p : Option Addr) (c : Nat) (w : World) (hT : TmAt w t p) (hg : Good t) (hX : ∀ W, But1 bx w W → Utf W) (hn : nodes t ≤ 4000) (hbx : Box1 w bx n) (h0 : 0 ≤ n) (hmx : n + nodes t + 3 ≤ 9223372036854775806) :
    Calls Tryz.prog 52 #[t.val p c, .func (.func 104) #[] #[.pointer (some ⟨bx, 0, none⟩)]] w (RuleAt bx t n w) := by
  cases i0 : isOfT t nRule 2 with
  | false => exact (rule_none t p c _ w hT hg (hX w (But1.refl hbx)) hn i0).mono fun x w' ⟨k, h1, h2, h3⟩ => .ball (by unfold ruleP; rw [if_pos i0]) ⟨k, h1, h2, But1.of_below hbx h3⟩
  | true =>
    obtain ⟨b, o, a1, a2, p1, c1, p2, c2, rfl, hlen, e1, e2, s1, s2, T1, T2, g1, g2, hnod⟩ := two_at hT hg i0
    have hfew := hg.few
    have hr : ruleP t n = (if isOfT a1 nComma 2 = false then
        match callE a1 with
        | some b => .ball b
        | none => match betT a1 (vrT n) (vrT (n + 1)) with
          | none => .ball bArity
          | some hd => match bodyN (nodes a2) a2 (vrT n) (vrT (n + 1)) (n + 2) with
            | .ball b => .ball b
            | .ok g m => .ok (cT nIf [hd, g]) m
      else match callE (argT a1 0) with
        | some b => .ball b
        | none => match endT (argT a1 1) (vrT (n + 2)) with
          | none => .ball (bType nList (argT a1 1))
          | some p => match betT (argT a1 0) (vrT n) (vrT (n + 1)) with
            | none => .ball bArity
            | some hd => match bodyN (nodes a2) a2 (vrT n) (vrT (n + 2)) (n + 3) with
              | .ball b => .ball b
              | .ok g m => .ok (cT nIf [hd, andT g (eqT (vrT (n + 1)) p)]) m) := by
      unfold ruleP
      rw [if_neg (by rw [i0]; simp), e1, e2]
      split <;> rfl
    refine rule_pre bx n t a1 a2 b o p1 p2 c c1 c2 w hlen s1 s2 (by unfold maxLen; omega) i0 hbx h0 (by omega) _ (fun u0 u2 u3 u9 u10 u11 u12 u13 u14 u15 u16 u17 u18 u19 u20 u21 u22 u23 u24 u25 u26 u27 u28 u29 u30 u31 u32 u33 u34 u35 u36 u37 u38 u39 u40 u41 u42 u43 u44 u45 u46 u47 u48 u49 u50 u51 u52 u53 u54 u55 u56 u57 u58 u59 u60 u61 u62 u63 u64 u65 u66 u67 u68 u69 u70 u71 u72 u73 u74 u75 u76 k4 k5 k6 k7 k8 W hst => ?_)
    cases i1 : isOfT a1 nComma 2 with
    | false =>
      rw [if_pos i1] at hr
      cases hc : callE a1 with
      | some bb => exact plain_call bx n a1 a2 p1 p2 c1 c2 k4 k5 k6 k7 k8 w W hst T1 T2 g1 g2 hX (by omega) (by omega) h0 (by omega) i1 bb hc _ (fun x w' h => .ball (by rw [hr, hc]) h)
      | none =>
        cases hbt : betT a1 (vrT n) (vrT (n + 1)) with
        | none => exact plain_arity bx n a1 a2 p1 p2 c1 c2 k4 k5 k6 k7 k8 w W hst T1 T2 g1 g2 hX (by omega) (by omega) h0 (by omega) i1 hc hbt _ (fun x w' h => .ball (by rw [hr, hc]; simp only [hbt]) h)
        | some hd =>
          cases hok : bodyN (nodes a2) a2 (vrT n) (vrT (n + 1)) (n + 2) with
          | ball bb => exact plain_ball bx n a1 a2 p1 p2 c1 c2 k4 k5 k6 k7 k8 w W hst T1 T2 g1 g2 hX (by omega) (by omega) h0 (by omega) i1 hc hd hbt bb hok _ (fun x w' h => .ball (by rw [hr, hc]; simp only [hbt, hok]) h)
          | ok g m => exact plain_ok bx n a1 a2 p1 p2 c1 c2 k4 k5 k6 k7 k8 w W hst T1 T2 g1 g2 hX (by omega) (by omega) h0 (by omega) i1 hc hd hbt g m hok _ (fun x w' h => .ok (by rw [hr, hc]; simp only [hbt, hok]) h)
    | true =>
      rw [if_neg (by rw [i1]; simp)] at hr
      obtain ⟨b', o', a3, a4, p3, c3, p4, c4, rfl, hlen1, e3, e4, s3, s4, T3, T4, g3, g4, hnod1⟩ := two_at T1 g1 i1
      rw [e3, e4] at hr
      refine push_boxes bx n a1 a2 _ p2 c1 c2 k4 k5 k6 k7 k8 w W hst T1 T2 g1 g2 hX (by omega) (by omega) h0 (by omega) a3 a4 p3 p4 c3 c4 b' o' rfl hlen1 s3 s4 i1 _ (fun u0 u2 u3 u10 u11 u12 u13 u14 u15 u16 u17 u18 u19 u20 u21 u22 u23 u24 u25 u26 u27 u28 u29 u30 u31 u32 u33 u34 u35 u36 u37 u38 u39 u40 u41 u42 u43 u44 u45 u46 u47 u48 u49 u50 u51 u52 u53 u54 u55 u56 u57 u58 u59 u60 u61 u62 u63 u64 u65 u66 u67 u68 u69 u70 u71 u72 u73 u74 u75 u76 k9 V hst hmo => ?_)
      cases hc : callE a3 with
      | some bb => exact push_call bx n a3 a2 a4 p3 p2 p4 c3 c2 c4 k4 k5 k6 k7 k8 k9 w V hst hmo T3 g3 hX (by omega) bb hc _ (fun x w' h => .ball (by rw [hr, hc]) h)
      | none =>
        refine push_ten bx n a3 a2 a4 p3 p2 p4 c3 c2 c4 k4 k5 k6 k7 k8 k9 w V hst hmo T3 g3 hX (by omega) h0 (by omega) hc _ (fun u0 u2 u3 u11 u12 u13 u14 u15 u16 u17 u18 u19 u20 u21 u22 u23 u24 u25 u26 u27 u28 u29 u30 u31 u32 u33 u34 u35 u36 u37 u38 u39 u40 u41 u42 u43 u44 u45 u46 u47 u48 u49 u50 u51 u52 u53 u54 u55 u56 u57 u58 u59 u60 u61 u62 u63 u64 u65 u66 u67 u68 u69 u70 u71 u72 u73 u74 u75 u76 k10 V1 hst hm9 hm10 hne => ?_)
        cases he : endT a4 (vrT (n + 2)) with
        | none => exact push_noend bx n a3 a2 a4 p3 p2 p4 c3 c2 c4 k4 k5 k6 k7 k8 k9 k10 w V1 hst hm9 hm10 hne (hst.but.tm T4) g4 hX (by omega) h0 (by omega) he _ (fun x w' h => .ball (by rw [hr, hc]; simp only [he]) h)
        | some pe =>
          refine push_end bx n a3 a2 a4 p3 p2 p4 c3 c2 c4 k4 k5 k6 k7 k8 k9 k10 w V1 hst hm9 hm10 hne (hst.but.tm T4) g4 hX (by omega) h0 (by omega) pe he _ (fun u0 u2 u3 u11 u12 u13 u14 u15 u16 u17 u18 u19 u20 u21 u22 u23 u24 u25 u26 u27 u28 u29 u30 u31 u32 u33 u34 u35 u36 u37 u38 u39 u40 u41 u42 u43 u44 u45 u46 u47 u48 u49 u50 u51 u52 u53 u54 u55 u56 u57 u58 u59 u60 u61 u62 u63 u64 u65 u66 u67 u68 u69 u70 u71 u72 u73 u74 u75 u76 qp cp V2 hst2 hm9 hm10 hp hsz => ?_)
          have hk5 := lt_of_block hst.o5
          cases hbt : betT a3 (vrT n) (vrT (n + 1)) with
          | none => exact push_arity bx n a3 a2 pe p3 p2 qp c3 c2 cp V1.heap.size k4 k5 k6 k7 k8 k9 k10 w V2 hst2 hm9 hm10 (hst2.but.tm T3) hp hk5 g3 h0 (by omega) hbt _ (fun x w' h => .ball (by rw [hr, hc]; simp only [he, hbt]) h)
          | some hd =>
            refine push_bet bx n a3 a2 pe p3 p2 qp c3 c2 cp V1.heap.size k4 k5 k6 k7 k8 k9 k10 w V2 hst2 hm9 hm10 (hst2.but.tm T3) hp hk5 g3 h0 (by omega) hd hbt _ (fun u0 u2 u3 u11 u12 u13 u14 u15 u16 u17 u18 u19 u20 u21 u22 u23 u24 u25 u26 u27 u28 u29 u30 u31 u32 u33 u34 u35 u36 u37 u38 u39 u40 u41 u42 u43 u44 u45 u46 u47 u48 u49 u50 u51 u52 u53 u54 u55 u56 u57 u58 u59 u60 u61 u62 u63 u64 u65 u66 u67 u68 u69 u70 u71 u72 u73 u74 u75 u76 qh ch V3 hst3 hm9 hm10 hh hp3 => ?_)
            have gh := betT_good g3 (vrT_good h0 (by omega)) (vrT_good (show 0 ≤ n + 1 by omega) (by omega)) hbt
            have gp := endT_good g4 (vrT_good (show 0 ≤ n + 2 by omega) (by omega)) he
            cases hok : bodyN (nodes a2) a2 (vrT n) (vrT (n + 2)) (n + 3) with
            | ball bb => exact push_ball bx n hd a2 pe qh p2 qp ch c2 cp k4 k5 k6 k7 k8 k9 k10 w V3 hst3 hm9 hm10 hh hp3 T2 gh gp g2 hX (by omega) h0 (by omega) bb hok _ (fun x w' h => .ball (by rw [hr, hc]; simp only [he, hbt, hok]) h)
            | ok g m => exact push_ok bx n hd a2 pe qh p2 qp ch c2 cp k4 k5 k6 k7 k8 k9 k10 w V3 hst3 hm9 hm10 hh hp3 T2 gh gp g2 hX (by omega) h0 (by omega) g m hok _ (fun x w' h => .ok (by rw [hr, hc]; simp only [he, hbt, hok]) h)
end Go.Proofs.YtiaddfedaikaiaaGreatDoor
