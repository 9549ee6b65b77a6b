/- For every input of bulk at most 1048576 (values and letters together, each counted each time it is reached; beyond what a machine holds the law's own lists could not be) the law TermVars answers true and leaves its arguments alone: no other condition; the package-level tables that its row lists are tied to the program's text by the given tie. -/
import Derived.Test.YtkapejcbmonfkaaGreatDoorT92m
import Derived.Test.YtkapejcbmonfkaaGreatDoorT59bm
import Derived.Test.YtkapejcbmonfkaaGreatDoorT36m
import Derived.IntWalk
import Derived.Test.YtkapejcbmonfkaaGreatDoorT67m
import Derived.Deep.DeepWitnessRowRef
namespace Go.Proofs.YtkapejcbmonfkaaGreatDoor
open Go.RowKit

theorem rowErr_none {l : List Tm} (h : ∀ t ∈ l, treeErr vName numOk bitsOk t = 0) : rowErr vName numOk bitsOk l = 0 := by
  induction l with
  | nil => rfl
  | cons u l ih =>
    unfold rowErr
    rw [if_pos (h u (by simp))]
    exact ih fun t ht => h t (by simp [ht])
theorem wf_nat (i : Nat) (h : i ≤ 1048576) : (Lit.int .i64 (i : Int)).wf = true := by
  have h1 : IntKind.i64.min = -9223372036854775808 := by decide +kernel
  have h2 : IntKind.i64.max = 9223372036854775807 := by decide +kernel
  simp [Lit.wf, h1, h2]
  omega
theorem leaf_good (i : Nat) (h : i ≤ 1048576) : Good (leaf 1 ⟨#[]⟩ ⟨#[]⟩ (i : Int)) := by
  have hs : (⟨#[]⟩ : ByteArray).size = 0 := rfl
  refine ⟨?_, ?_⟩
  · unfold leaf AllT AllR
    exact ⟨⟨by simp [Tm.name, hs], by simp [Tm.num, hs], by simp [Tm.bits], by simp [Tm.bits], wf_nat i h, by show (Lit.int .i64 1).wf = true; decide +kernel⟩, trivial⟩
  · have hv : vName ⟨#[]⟩ = true := by decide +kernel
    have he : (⟨#[]⟩ : ByteArray).toList = [] := by decide +kernel
    rw [treeErr_args]
    unfold leaf
    simp [nodeErr, fieldsOk, Tm.kind, Tm.name, Tm.num, Tm.bits, Tm.var, Tm.args, hv, he, hs, rowErr]
theorem nodeErr_map (k : Int) (n u : ByteArray) (b v : Int) (l : List Tm) (f : Tm → Tm) : nodeErr vName numOk bitsOk (.mk k n u b v (l.map f)) = nodeErr vName numOk bitsOk (.mk k n u b v l) := by
  have h : ∀ (l m : List Tm), l.length = m.length → nodeErr vName numOk bitsOk (.mk k n u b v l) = nodeErr vName numOk bitsOk (.mk k n u b v m) := fun l m h => by
    have hf : ∀ a c : Tm, a.kind = c.kind → a.name = c.name → a.num = c.num → a.bits = c.bits → a.var = c.var → a.args.length = c.args.length → fieldsOk a = fieldsOk c := by
      intro a c h1 h2 h3 h4 h5 h6
      unfold fieldsOk
      rw [h1, h2, h3, h4, h5, h6]
    unfold nodeErr
    rw [hf (.mk k n u b v l) (.mk k n u b v m) rfl rfl rfl rfl rfl h]
    rfl
  exact h _ _ (List.length_map _)
mutual
theorem ren_good (Zf : List Int) (hz : Zf.length ≤ 1048576) : ∀ (t : Tm) (Z : List Int), Good t → varsT t Z <+: Zf → Good (instT (bindsZ Zf) t)
  | .mk k n u b v l, Z, hg, hp => by
    by_cases h : k = 1
    · have hp2 : addN Z v <+: Zf := by
        have h8 := hp
        rw [varsT, if_pos h] at h8
        exact (varsR_prefix l _).trans h8
      rw [instT_var (show (Tm.mk k n u b v l).kind = 1 from h)]
      rw [show (Tm.mk k n u b v l).var = v from rfl, instV_bindsZ Zf Z v hp2]
      have h9 := hp2.length_le
      obtain ⟨ha, hb⟩ := addN_idx Z v
      have := List.idxOf_lt_length_of_mem ha
      exact leaf_good _ (by omega)
    · rw [instT_not (show (Tm.mk k n u b v l).kind ≠ 1 from h)]
      have hp2 : varsR l Z <+: Zf := by
        have h8 := hp
        rwa [varsT, if_neg h] at h8
      have hall := ren_goodR Zf hz l Z (fun t ht => (hg.arg t ht).1) hp2
      refine ⟨?_, ?_⟩
      · unfold AllT
        have hd := hg.1.head
        exact ⟨⟨hd.name, hd.num, hd.lo, hd.hi, hd.var, hd.kind⟩, AllR.mk fun j hj => (hall _ (List.getElem_mem hj)).1⟩
      · rw [treeErr_args]
        have hn := hg.node
        rw [show nodeErr vName numOk bitsOk (Tm.mk (Tm.mk k n u b v l).kind (Tm.mk k n u b v l).name (Tm.mk k n u b v l).num (Tm.mk k n u b v l).bits (Tm.mk k n u b v l).var ((Tm.mk k n u b v l).args.map (instT (bindsZ Zf)))) = 0 from (nodeErr_map k n u b v l _).trans hn, if_pos rfl]
        exact rowErr_none fun t ht => (hall t ht).2
theorem ren_goodR (Zf : List Int) (hz : Zf.length ≤ 1048576) : ∀ (l : List Tm) (Z : List Int), (∀ t ∈ l, Good t) → varsR l Z <+: Zf → ∀ t ∈ l.map (instT (bindsZ Zf)), Good t
  | [], _, _, _, t, ht => by simp at ht
  | u :: l, Z, hg, hp, t, ht => by
    have hp2 : varsR l (varsT u Z) <+: Zf := by rwa [varsR] at hp
    rw [List.map_cons] at ht
    rcases List.mem_cons.1 ht with rfl | ht
    · exact ren_good Zf hz u Z (hg u (by simp)) ((varsR_prefix l _).trans hp2)
    · exact ren_goodR Zf hz l (varsT u Z) (fun t ht => hg t (by simp [ht])) hp2 t ht
end
theorem vars_few {t : Tm} (h : Valid t) : (varsT t []).length ≤ 4000 := by
  have h4 : nodes t ≤ 4000 := by
    have h := h.2
    unfold checkErr at h
    split at h
    · cases h
    · omega
  have := varsT_length t []
  simp only [List.length_nil] at this
  omega
/-- Variant's answer as the document's. -/
theorem ordV_same {t u : Tm} (ht : Valid t) (hu : Valid u) : (ordV t u == 0) = sameT (instT (bindsZ (varsT t [])) t) (instT (bindsZ (varsT u [])) u) := by
  have g1 := ren_good (varsT t []) (by have := vars_few ht; omega) t [] ht.good List.prefix_rfl
  have g2 := ren_good (varsT u []) (by have := vars_few hu; omega) u [] hu.good List.prefix_rfl
  unfold ordV
  have h1 := ordT_zero _ _ g1 g2
  have h2 := sameT_iff (instT (bindsZ (varsT t [])) t) (instT (bindsZ (varsT u [])) u)
  cases h : sameT (instT (bindsZ (varsT t [])) t) (instT (bindsZ (varsT u [])) u) with
  | true => exact beq_iff_eq.2 (h1.2 (h2.1 h))
  | false =>
    refine beq_eq_false_iff_ne.2 fun e => ?_
    have h3 := h2.2 (h1.1 e)
    rw [h] at h3
    cases h3
set_option maxRecDepth 100000 in
set_option maxHeartbeats 4000000 in
theorem plain_bad (l : List Tm) (p : Option Addr) (cap : Nat) (w : World) (hlen : l.length ≤ maxLen) (hR : ListAt w l p) (hX : Utf w) (hD : AllR DomA l) (he : checksErr vName numOk bitsOk l ≠ 0) :
    Calls Tryz.prog 18 #[.slice p l.length cap] w fun e w' => e = .returned (.tuple #[.slice none 0 0, .int .i64 (checksErr vName numOk bitsOk l)]) ∧ Below w.heap.size w w' := by
  have C := hid (checks_any vName numOk bitsOk DomA l p cap w hlen hR (oracleA _ hX) hD)
  generalize checksErr vName numOk bitsOk l = y at *
  have hq : (y == 0) = false := beq_eq_false_iff_ne.2 he
  have hq2 : (y != 0) = true := by simp [he]
  clear he hR hX hD
  go_enter Tryz.func18, Tryz.ntmps18
  go_wp2_with (go_at_call 46; (with_reducible refine C.out.mono ?_); rintro e w1 ⟨rfl, hb1⟩; have B1 := hid hb1; clear hb1 C)
  go_ret2
  exact ⟨rfl, B1.out⟩
theorem WeakL.listAt {w : World} {B : Nat} {q : Option Addr} {n c : Nat} {L : Row} {S : List Nat} (h : WeakL w B q n c L S) : ListAt w (L.map (·.1)) q := by
  rcases h.rowR with ⟨rfl, _⟩ | ⟨b, arr, e, -, -, -, -, -, h6⟩
  · exact .inl rfl
  · refine .inr ⟨b, 0, e, RowT.mk fun k hk => ?_⟩
    obtain ⟨p, cap, S1, h1, h2, -⟩ := h6.get k hk
    exact ⟨p, cap, h1, h2.at_⟩
end Go.Proofs.YtkapejcbmonfkaaGreatDoor

namespace Go.Proofs.YtkapejcbmonfkaaGreatDoor
open Go.RowKit

/-- A term with its variables numbered anew. -/
def renT (t : Tm) : Tm := instT (bindsZ (varsT t [])) t
theorem plainD_one (t : Tm) : plainD [t] = [renT t] := by
  unfold plainD renT
  simp [varsR]
theorem row_one {W : World} {b : Nat} {t : Tm} {p : Option Addr} {cp : Nat} (h : W.heap[b]? = some (tobj t p cp)) (ht : TmAt W t p) : ListAt W [t] (some ⟨b, 0, none⟩) := by
  refine .inr ⟨b, 0, rfl, ?_⟩
  unfold RowT
  exact ⟨⟨p, cp, six_of h, ht⟩, by unfold RowT; trivial⟩
theorem plainOne_any {W : World} {b : Nat} {t : Tm} {p : Option Addr} {cp : Nat} (h : W.heap[b]? = some (tobj t p cp)) (ht : TmAt W t p) (vt : Valid t) :
    Calls Tryz.prog 15 #[.slice (some ⟨b, 0, none⟩) 1 1] W fun e w' => ∃ q c, e = .returned (.slice q 1 c) ∧ ListAt w' [renT t] q ∧ Below W.heap.size W w' := by
  have h4 : nodes t ≤ 4000 := by
    have h := vt.2
    unfold checkErr at h
    split at h
    · cases h
    · omega
  have h5 := plainR_any [t] (some ⟨b, 0, none⟩) 1 W (row_one h ht) (by simp only [nodesL]; omega) (fun k hk => by
    have : k = 0 := by simpa using hk
    subst this
    exact vt.good.cp)
  refine Calls.mono (show Calls Tryz.prog 15 #[.slice (some ⟨b, 0, none⟩) 1 1] W _ from h5) fun e w' ⟨q, c, L, S, e1, e2, e3, e4⟩ => ⟨q, c, e1, ?_, e4⟩
  have h6 := e2.listAt
  rwa [e3, plainD_one] at h6
set_option maxRecDepth 100000 in
set_option maxHeartbeats 8000000 in
theorem variantR_any (t u : Tm) (p q : Option Addr) (cp cq : Nat) (w : World) (hT : TmAt w t p) (hU : TmAt w u q) (vt : Valid t) (vu : Valid u) :
    Calls Tryz.prog 21 #[t.val p cp, u.val q cq] w fun e w' => e = .returned (.bool (sameT (renT t) (renT u))) ∧ Below w.heap.size w w' := by
  obtain ⟨W0, hW0⟩ : ∃ W0, W0 = (w.alloc (tobj t p cp)).alloc (tobj u q cq) := ⟨_, rfl⟩
  have B0 := hid (show Below w.heap.size w W0 by rw [hW0]; exact ((Below.refl w.heap.size w).alloc (Nat.le_refl _) _).alloc (by simp) _)
  have P1 := hid (show W0.heap[w.heap.size]? = some (tobj t p cp) by rw [hW0]; exact (heap_alloc_old (w.alloc (tobj t p cp)) _ (by simp)).trans (heap_alloc_new w _))
  have P2 := hid (show W0.heap[w.heap.size + 1]? = some (tobj u q cq) by rw [hW0]; have h := heap_alloc_new (w.alloc (tobj t p cp)) (tobj u q cq); rwa [World.size_alloc] at h)
  have hs0 : W0.heap.size = w.heap.size + 2 := by rw [hW0]; simp
  obtain ⟨W1, hW1⟩ : ∃ W1, W1 = W0.alloc (tobj t p cp) := ⟨_, rfl⟩
  have B1 := hid (show Below W0.heap.size W0 W1 by rw [hW1]; exact (Below.refl _ _).alloc (Nat.le_refl _) _)
  have PX := hid (show W1.heap[w.heap.size + 1 + 1]? = some (tobj t p cp) by rw [hW1]; have h := heap_alloc_new W0 (tobj t p cp); rwa [hs0] at h)
  have CX := hid (plainOne_any PX.out (hT.keep (B0.out.trans (B1.out.mono B0.out.size))) vt)
  have CY := hid (fun (W : World) (b : Nat) (h : W.heap[b]? = some (tobj u q cq)) (hb : Below w.heap.size w W) => plainOne_any h (hU.keep hb) vu)
  have CS := hid (fun (x y : Tm) (W : World) (p1 p2 : Option Addr) (c1 c2 : Nat) (h1 : TmAt W x p1) (h2 : TmAt W y p2) => same_any (nodes x) x y p1 p2 c1 c2 W (Nat.le_refl _) h1 h2)
  obtain ⟨x0, x1, x2, x3, x4, x5⟩ := six_of P1.out
  have BW1 := hid (B0.out.trans (B1.out.mono B0.out.size))
  have P21 := hid (obj_keep P2.out B1.out)
  unfold tobj at hW0 hW1
  unfold Tm.val at CS ⊢
  clear hT hU vt vu
  generalize renT t = x at *
  generalize renT u = y at *
  go_enter Tryz.func21, Tryz.ntmps21
  go_upto_region 2 with (first
    | (go_at_call 15; rw [← hW0, ← hW1]; (with_reducible refine CX.out.mono ?_); rintro e w2 ⟨qx, cx, rfl, hl2, hb2⟩; have LX := hid hl2; have B2 := hid (BW1.out.trans (hb2.mono BW1.out.size)); have P22 := hid (obj_keep P21.out hb2); clear hl2 hb2 CX x0 x1 x2 x3 x4 x5 hW0 hW1 hs0 P1 P2 P21 PX B1 B0 BW1)
    | fail)
  obtain ⟨y0, y1, y2, y3, y4, y5⟩ := six_of P22.out
  obtain ⟨W3, hW3⟩ : ∃ W3, W3 = w2.alloc (tobj u q cq) := ⟨_, rfl⟩
  have B3 := hid (show Below w2.heap.size w2 W3 by rw [hW3]; exact (Below.refl _ _).alloc (Nat.le_refl _) _)
  have PY := hid (show W3.heap[w2.heap.size]? = some (tobj u q cq) by rw [hW3]; exact heap_alloc_new w2 _)
  have CY2 := hid (CY.out W3 _ PY.out (B2.out.trans (B3.out.mono B2.out.size)))
  unfold tobj at hW3
  go_upto_region 3 with (first
    | (go_at_call 15; rw [← hW3]; (with_reducible refine CY2.out.mono ?_); rintro e w4 ⟨qy, cy, rfl, hl4, hb4⟩; have LY := hid hl4; have B34 := hid (B3.out.trans (hb4.mono B3.out.size)); have LX4 := hid (LX.out.keep B34.out); have B4 := hid (B2.out.trans (B34.out.mono B2.out.size)); clear hl4 hb4 CY2 CY y0 y1 y2 y3 y4 y5 hW3 PY B3 B34 B2 LX P22)
    | fail)
  obtain ⟨b, o, rfl, e1, c1, hs1, ht1⟩ := LX4.out.get 0 (by simp)
  obtain ⟨b2, o2, rfl, e2, c2, hs2, ht2⟩ := LY.out.get 0 (by simp)
  have hs1' : Six w4 b o x e1 c1 := by simpa using hs1
  have hs2' : Six w4 b2 o2 y e2 c2 := by simpa using hs2
  have HCALL := hid (fun (W : World) (h : Below w4.heap.size w4 W) => CS.out x y W e1 e2 c1 c2 ((show TmAt w4 x e1 from ht1).keep h) ((show TmAt w4 y e2 from ht2).keep h))
  have RR := hid (Below.refl w4.heap.size w4)
  have SR := hid (show ∀ W : World, Below w4.heap.size w4 W → (W.cell? ⟨b, o, none⟩ = some (.int .i64 x.kind) ∧ W.cell? ⟨b, o + 1, none⟩ = some (.string x.name) ∧ W.cell? ⟨b, o + 2, none⟩ = some (.string x.num) ∧ W.cell? ⟨b, o + 3, none⟩ = some (.int .u64 x.bits) ∧ W.cell? ⟨b, o + 4, none⟩ = some (.int .i64 x.var) ∧ W.cell? ⟨b, o + 5, none⟩ = some (.slice e1 x.args.length c1) ∧ W.cell? ⟨b2, o2, none⟩ = some (.int .i64 y.kind) ∧ W.cell? ⟨b2, o2 + 1, none⟩ = some (.string y.name) ∧ W.cell? ⟨b2, o2 + 2, none⟩ = some (.string y.num) ∧ W.cell? ⟨b2, o2 + 3, none⟩ = some (.int .u64 y.bits) ∧ W.cell? ⟨b2, o2 + 4, none⟩ = some (.int .i64 y.var) ∧ W.cell? ⟨b2, o2 + 5, none⟩ = some (.slice e2 y.args.length c2)) from fun W h =>
    have m1 := hs1'.keep h
    have m2 := hs2'.keep h
    ⟨m1.c0, m1.c1, m1.c2, m1.c3, m1.c4, m1.c5, m2.c0, m2.c1, m2.c2, m2.c3, m2.c4, m2.c5⟩)
  have sr := SR.out w4 RR.out
  clear hs1 hs2 hs1' hs2' ht1 ht2 LX4 LY CS
  go_wp2_with fail
  go_region_held3 (fun W => W.cell? ⟨b, o, none⟩ = some (.int .i64 x.kind) ∧ W.cell? ⟨b, o + 1, none⟩ = some (.string x.name) ∧ W.cell? ⟨b, o + 2, none⟩ = some (.string x.num) ∧ W.cell? ⟨b, o + 3, none⟩ = some (.int .u64 x.bits) ∧ W.cell? ⟨b, o + 4, none⟩ = some (.int .i64 x.var) ∧ W.cell? ⟨b, o + 5, none⟩ = some (.slice e1 x.args.length c1) ∧ W.cell? ⟨b2, o2, none⟩ = some (.int .i64 y.kind) ∧ W.cell? ⟨b2, o2 + 1, none⟩ = some (.string y.name) ∧ W.cell? ⟨b2, o2 + 2, none⟩ = some (.string y.num) ∧ W.cell? ⟨b2, o2 + 3, none⟩ = some (.int .u64 y.bits) ∧ W.cell? ⟨b2, o2 + 4, none⟩ = some (.int .i64 y.var) ∧ W.cell? ⟨b2, o2 + 5, none⟩ = some (.slice e2 y.args.length c2))
    (first
      | (with_reducible exact sr)
      | (with_reducible exact SR.out _ (bl_drew RR.out))
      | (with_reducible exact SR.out _ C2.out)
      | fail)
    ((first
      | (go_at_call 25; (with_reducible refine (HCALL.out _ (bl_drew RR.out)).mono ?_); rintro e w5 ⟨rfl, hb5⟩; have C2 := hid (bl_call (bl_drew RR.out) hb5); clear hb5)))
  go_wp2
  go_ret
  exact ⟨rfl, B4.out.trans (C2.out.mono B4.out.size)⟩
end Go.Proofs.YtkapejcbmonfkaaGreatDoor

namespace Go.Proofs.YtkapejcbmonfkaaGreatDoor
open Go.RowKit

/-- What is wrong with some terms. -/
abbrev whyL (l : List Tm) : Int := checksErr vName numOk bitsOk l
def varsA (l : List Tm) : List Int := if whyL l = 0 then varsR l [] else []
def plainA (l : List Tm) : List Tm := if whyL l = 0 then plainD l else []
theorem varsA_len (l : List Tm) : (varsA l).length ≤ nodesL l := by
  unfold varsA
  split
  · have := varsR_length l []; simpa using this
  · simp
theorem plainA_len (l : List Tm) : (plainA l).length ≤ l.length := by
  unfold plainA plainD
  split <;> simp
theorem AllR.varOk {l : List Tm} (h : AllR DomA l) : AllR VarOk l := by
  have hT : ∀ (d : Nat) (t : Tm), nodes t ≤ d → AllT DomA t → AllT VarOk t := by
    intro d
    induction d with
    | zero => intro t h0; have := nodes_pos t; omega
    | succ d ih =>
      intro t hd ht
      cases t with
      | mk k n u b v l =>
        unfold AllT
        refine ⟨ht.head.var, AllR.mk fun j hj => ?_⟩
        have h9 : nodes ((Tm.mk k n u b v l).args[j]'hj) < nodes (Tm.mk k n u b v l) := nodes_lt hj
        exact ih _ (by have h8 : (Tm.mk k n u b v l).args[j]'hj = l[j] := rfl
                       rw [h8] at h9; omega) (ht.arg j hj)
  exact AllR.mk fun k hk => hT _ _ (Nat.le_refl _) (h.get k hk)
theorem variablesA (l : List Tm) (p : Option Addr) (cap : Nat) (w : World) (hl : ListAt w l p) (hX : Utf w) (hD : AllR DomA l) (hn : nodesL l ≤ 1048576) :
    Calls Tryz.prog 16 #[.slice p l.length cap] w fun e w' => ∃ q c, e = .returned (.tuple #[.slice q (varsA l).length c, .int .i64 (whyL l)]) ∧ w'.ownsRow w.heap.size 3 1 (.slice q (varsA l).length c) (varsA l).length (ints (varsA l)) ∧ Below w.heap.size w w' := by
  have hln := len_nodesL l
  by_cases h : whyL l = 0
  · have e : varsA l = varsR l [] := if_pos h
    rw [e, h]
    refine (variables_good vName numOk bitsOk DomA l p cap w (by unfold maxLen; omega) hl (oracleA _ hX) hD h hD.varOk (by omega)).mono fun e w' ⟨v, e1, e2, e3⟩ => ?_
    obtain ⟨q, c, rfl⟩ := rowI_form e2
    exact ⟨q, c, e1, e2, e3⟩
  · have e : varsA l = [] := if_neg h
    rw [e]
    exact (variables_bad vName numOk bitsOk DomA l p cap w (by unfold maxLen; omega) hl (oracleA _ hX) hD h).mono fun e w' ⟨e1, e2⟩ => ⟨none, 0, e1, World.ownsRow_nil _ _ _ _, e2⟩
theorem plainAll (l : List Tm) (p : Option Addr) (cap : Nat) (w : World) (hl : ListAt w l p) (hX : Utf w) (hD : AllR DomA l) (hn : nodesL l ≤ 1048576) :
    Calls Tryz.prog 18 #[.slice p l.length cap] w fun e w' => ∃ q c S, e = .returned (.tuple #[.slice q (plainA l).length c, .int .i64 (whyL l)]) ∧ ListM w' q (plainA l).length c (plainA l) S ∧ (∀ x ∈ foot q S, w.heap.size ≤ x) ∧ Below w.heap.size w w' := by
  have hln := len_nodesL l
  by_cases h : whyL l = 0
  · have e : plainA l = plainD l := if_pos h
    have hlen : (plainD l).length = l.length := by unfold plainD; simp
    rw [e, h, hlen]
    exact plain_good l p cap w hl hX hD hn h
  · have e : plainA l = [] := if_neg h
    rw [e]
    exact (plain_bad l p cap w (by unfold maxLen; omega) hl hX hD h).mono fun e w' ⟨e1, e2⟩ => ⟨none, 0, [], e1, nil_listM _, (fun x hx => by cases hx), e2⟩
theorem row_chg {base n : Nat} {w w' : World} {v : Value} {xs : List Value} {F : List Nat} (h : w.ownsRow base 3 1 v n xs) (hc : Chg F w w') (hn : ∀ g, v.ownBlock = some g → g ∉ F) : w'.ownsRow base 3 1 v n xs := by
  refine ⟨h.1, ?_⟩
  rcases h.2 with h1 | ⟨g, cap, cur, e, h1, h2, h3⟩
  · exact .inl h1
  · exact .inr ⟨g, cap, cur, e, h1, (hc.same g (lt_of_block h2) (hn g (by rw [e]; rfl))).trans h2, h3⟩
/-- Two of a list. -/
theorem ListAt.two {w : World} {l : List Tm} {b o : Nat} (h : ListAt w l (some ⟨b, o, none⟩)) (k : Nat) (hk : k + 1 < l.length) : ListAt w [l[k], l[k + 1]] (some ⟨b, o + k * 6, none⟩) := by
  refine .inr ⟨b, o + k * 6, rfl, RowT.mk fun j hj => ?_⟩
  have hj2 : j = 0 ∨ j = 1 := by simp at hj; omega
  rcases hj2 with rfl | rfl
  · obtain ⟨b', o', e, q, c, h1, h2⟩ := h.get k (by omega)
    simp only [Option.some.injEq, Addr.mk.injEq, and_true] at e
    obtain ⟨rfl, rfl⟩ := e
    exact ⟨q, c, by simpa using h1, h2⟩
  · obtain ⟨b', o', e, q, c, h1, h2⟩ := h.get (k + 1) hk
    simp only [Option.some.injEq, Addr.mk.injEq, and_true] at e
    obtain ⟨rfl, rfl⟩ := e
    exact ⟨q, c, by rw [show o + k * 6 + 1 * 6 = o + (k + 1) * 6 by omega]; exact h1, h2⟩
/-- Variant's answer of two terms, and the document's. -/
theorem varAns_same {t u : Tm} (dt : AllT DomA t) (du : AllT DomA u) (h : whyL [t, u] = 0) : varAns t u = sameT (renT t) (renT u) := by
  obtain ⟨vt, vu⟩ := checks_two dt du h
  unfold varAns
  rw [if_pos h]
  exact ordV_same vt vu
theorem varAns_bad {t u : Tm} (h : whyL [t, u] ≠ 0) : varAns t u = false := by
  unfold varAns
  rw [if_neg h]
end Go.Proofs.YtkapejcbmonfkaaGreatDoor

namespace Go.Proofs.YtkapejcbmonfkaaGreatDoor
open Go.RowKit

set_option maxRecDepth 100000 in
set_option maxHeartbeats 64000000 in
theorem vars_yes (l : List Tm) (pl : Option Addr) (cl : Nat) (w : World) (hU : Utf w) (hl : ListAt w l pl) (hD : AllR DomA l) (hn : nodesL l ≤ 1048576) (hlc : l.length ≤ cl) :
    Calls Tryz.prog 4 #[.slice pl l.length cl] w fun x w' => x = .returned (.bool true) ∧ Below w.heap.size w w' := by
  have hln : l.length ≤ 1048576 := by have := len_nodesL l; omega
  have hln' : (l.length : Int) ≤ 1048576 := by omega
  have hlc' : (l.length : Int) ≤ (cl : Int) := by omega
  have AWK := hid (awake_true w hU)
  have CFI := hid (fun (W : World) (h : Below w.heap.size w W) => first_any l pl cl W (by unfold maxLen; omega) (hl.keep h) hD)
  obtain ⟨V, hV⟩ : ∃ V, V = varsA l := ⟨_, rfl⟩
  obtain ⟨P, hP⟩ : ∃ P, P = plainA l := ⟨_, rfl⟩
  have hVl : V.length ≤ 1048576 := by rw [hV]; have := varsA_len l; omega
  have hPl : P.length ≤ 1048576 := by rw [hP]; have := plainA_len l; omega
  have CV := hid (fun (W : World) (h : Below w.heap.size w W) => (show Calls Tryz.prog 16 #[.slice pl l.length cl] W fun e w' => ∃ q c, e = .returned (.tuple #[.slice q V.length c, .int .i64 (whyL l)]) ∧ w'.ownsRow W.heap.size 3 1 (.slice q V.length c) V.length (ints V) ∧ Below W.heap.size W w' from by rw [hV]; exact variablesA l pl cl W (hl.keep h) (hU.keep h) hD hn))
  have CP := hid (fun (W : World) (h : Below w.heap.size w W) => (show Calls Tryz.prog 18 #[.slice pl l.length cl] W fun e w' => ∃ q c S, e = .returned (.tuple #[.slice q P.length c, .int .i64 (whyL l)]) ∧ ListM w' q P.length c P S ∧ (∀ x ∈ foot q S, W.heap.size ≤ x) ∧ Below W.heap.size W w' from by rw [hP]; exact plainAll l pl cl W (hl.keep h) (hU.keep h) hD hn))
  have HL := hid hl
  have HX := hid hU
  have HDA := hid (fun k (hk : k < l.length) => hD.get (l := l) k hk)
  have BW0 := hid (Below.refl w.heap.size w)
  obtain ⟨y, hy⟩ : ∃ y, y = whyL l := ⟨_, rfl⟩
  have CFI2 := hid (show ∀ W, Below w.heap.size w W → Calls Tryz.prog 12 #[.slice pl l.length cl] W fun e w' => e = .returned (.int .i64 y) ∧ Below W.heap.size W w' from fun W h => by rw [hy]; exact CFI.out W h)
  rw [← hy] at CV CP
  clear CFI hl hU
  by_cases h0 : y = 0
  · have hz : whyL l = 0 := hy.symm.trans h0
    have hVe : V = varsR l [] := hV.trans (if_pos hz)
    have hPe : P = plainD l := hP.trans (if_pos hz)
    have hPn : P.length = l.length := by rw [hPe]; unfold plainD; simp
    have CAV := hid (fun (W : World) (h : Below w.heap.size w W) => (show Calls Tryz.prog 14 #[.slice pl l.length cl] W fun e w' => ∃ q c, e = .returned (.slice q V.length c) ∧ w'.ownsRow W.heap.size 3 1 (.slice q V.length c) V.length (ints V) ∧ Below W.heap.size W w' from by rw [hVe]; exact allVars_any l pl cl W (HL.out.keep h) (by omega) (by omega)))
    have CPR := hid (fun (W : World) (h : Below w.heap.size w W) => (show Calls Tryz.prog 15 #[.slice pl l.length cl] W fun e w' => ∃ q c, e = .returned (.slice q P.length c) ∧ ListAt w' P q ∧ Below W.heap.size W w' from by
      rw [hPn]
      refine (plainR_any l pl cl W (HL.out.keep h) hn (fun k hk => (checks_each hz hD k hk).good.cp)).mono fun e w' ⟨q, c, L, S, e1, e2, e3, e4⟩ => ⟨q, c, e1, ?_, e4⟩
      have h6 := e2.listAt
      rwa [e3, ← hPe] at h6))
    have hy0 : (y == 0) = true := beq_iff_eq.2 h0
    clear hV hP hVe hPe hPn hz hy h0 hD
    go_enter Tryz.func4, Tryz.ntmps4
    go_upto_region 7 with (first
      | (go_at_call 10; (with_reducible refine AWK.out.mono ?_); rintro x w1 ⟨rfl, hb1⟩; have BW1 := hid hb1; clear hb1 AWK)
      | (go_at_call 12; (with_reducible refine (CFI2.out _ BW1.out).mono ?_); rintro x w2 ⟨rfl, hb2⟩; have BW2 := hid (BW1.out.trans (hb2.mono BW1.out.size)); clear hb2 CFI2)
      | (go_at_call 14; (with_reducible refine (CAV.out _ BW2.out).mono ?_); rintro x w3 ⟨qa, ca, rfl, ho3, hb3⟩; have DV3 := hid ho3; have BW3 := hid (BW2.out.trans (hb3.mono BW2.out.size)); clear ho3 hb3 CAV)
      | fail)
    go_upto_region 8 with (first
      | (go_at_call 15; (with_reducible refine (CPR.out _ BW3.out).mono ?_); rintro x w7 ⟨qd, cd, rfl, hl4, hb4⟩; have DP := hid hl4; have DV := hid (row_keep DV3.out hb4); have BW := hid (BW3.out.trans (hb4.mono BW3.out.size)); clear hl4 hb4 CPR DV3)
      | fail)
    have CVA := hid (fun (W : World) (h : Below w7.heap.size w7 W) => CV.out W (BW.out.trans (h.mono BW.out.size)))
    have CPA := hid (fun (W : World) (h : Below w7.heap.size w7 W) => CP.out W (BW.out.trans (h.mono BW.out.size)))
    have B7 := hid (Below.refl w7.heap.size w7)
    clear CV CP BW0 BW1 BW2 BW3 hy0
    go_upto_region 9 with (first
    | (go_at_call 16; (with_reducible refine (CVA.out _ B7.out).mono ?_); rintro x w8 ⟨qv, cv, rfl, ho8, hb8⟩; have RV := hid ho8; replace B7 := hid (B7.out.trans (Below.mono hb8 B7.out.size)); clear ho8 hb8)
    | fail)
    go_upto_region 10 with (first
    | (go_at_call 16; (with_reducible refine (CVA.out _ B7.out).mono ?_); rintro x w9 ⟨qw, cw, rfl, ho9, hb9⟩; have RW9 := hid ho9; have RV9 := hid (row_keep RV.out hb9); replace B7 := hid (B7.out.trans (Below.mono hb9 B7.out.size)); clear ho9 hb9 CVA)
    | fail)
    have NEW := hid (show (∀ g, (Value.slice qv V.length cv).ownBlock = some g → w7.heap.size ≤ g ∧ g < w8.heap.size) ∧ (∀ g, (Value.slice qw V.length cw).ownBlock = some g → w8.heap.size ≤ g) from ⟨fun g e => ⟨ownBlock_le RV.out e, ownBlock_lt RV.out e⟩, fun g e => ownBlock_le RW9.out e⟩)
    have CS1 := hid (sameInts_yes V _ _ _ _ w9 RV9.out (row_keep DV.out B7.out) (by omega))
    go_upto_region 11 with (first
    | (go_at_call 17; (with_reducible refine CS1.out.mono ?_); rintro x w10 ⟨rfl, hb10⟩; have RV10 := hid (row_keep RV9.out hb10); have RW10 := hid (row_keep RW9.out hb10); replace B7 := hid (B7.out.trans (Below.mono hb10 B7.out.size)); clear hb10 CS1 RV RV9 RW9)
    | fail)
    obtain ⟨FV, hFV⟩ : ∃ FV, FV = (Value.slice qv V.length cv).ownBlock.toList := ⟨_, rfl⟩
    have HFV := hid hFV
    clear hFV
    have hVl' : (V.length : Int) ≤ 1048576 := by omega
    go_wp2_with fail
    go_loopw [12] (fun i wr => ∃ (k : Nat), k ≤ V.length ∧ i = .int .i64 (k : Int) ∧ Hid (∀ g, (Value.slice qv V.length cv).ownBlock = some g → ∃ cur, wr.heap[g]? = some (.cells cur 3 (0, 0)) ∧ V.length ≤ cur.size) ∧ Hid (Chg FV w10 wr)) (fun i _ => V.length - (intOf i).toNat)
    case atStart =>
      refine ⟨0, by omega, rfl, hid (fun g e => ?_), hid (Chg.refl _ _)⟩
      rcases RV10.out.2 with ⟨h1, _⟩ | ⟨g', cap', cur, h1, h2, h3, h4, h5, h6, _⟩
      · rw [h1] at e; cases e
      · rw [h1] at e
        have e : g' = g := by simpa [Value.ownBlock] using e
        subst e
        exact ⟨cur, h3, by omega⟩
    case round =>
      obtain ⟨k, hk, rfl, HB, HC⟩ := hrel
      by_cases hlt : k < V.length
      · have hk0 : (0 : Int) ≤ (k : Int) := by omega
        have hk1 : (k : Int) < (V.length : Int) := by omega
        obtain ⟨g, rfl, -⟩ := rowI_get RV10.out rfl k hlt
        obtain ⟨cur, hg, hgs⟩ := HB.out g rfl
        obtain ⟨v0, y0⟩ : ∃ v0, wr.cell? ⟨g, k, none⟩ = some v0 := ⟨cur[k], by rw [cells_of hg]; exact Array.getElem?_eq_getElem (by omega)⟩
        have f0 : wr.frozen? ⟨g, k, none⟩ = false := by simp [World.frozen?, hg]
        have HG := hid hg
        have HGS := hid hgs
        clear hg hgs
        go_wp2_with fail
        go_roundw
        case rel =>
          have h6 := heap_setCell_same wr g k _ _ (.int .i64 (-9)) HG.out
          refine ⟨k + 1, by omega, by go_num, hid (fun g' e => ?_), hid (HC.out.set _ _ (.inr (by rw [HFV.out]; simp [Value.ownBlock])))⟩
          have e : g = g' := by simpa [Value.ownBlock] using e
          subst e
          exact ⟨_, h6, by have := HGS.out; simpa using this⟩
        case measure => simp [intOf]; omega
      · obtain rfl : k = V.length := by omega
        clear hlt HB
        obtain ⟨w11, rfl⟩ : ∃ w11, w11 = wr := ⟨_, rfl⟩
        have HFM := hid (show ∀ x ∈ FV, w7.heap.size ≤ x ∧ x < w8.heap.size from fun x hx => by rw [HFV.out] at hx; exact NEW.out.1 x (by simpa using hx))
        have B11 := hid (show Below w7.heap.size w7 w11 from Chg.low B7.out HC.out (fun x hx => (HFM.out x hx).1))
        have RW11 := hid (row_chg RW10.out HC.out (fun g e h => by have := (HFM.out g h).2; have := NEW.out.2 g e; omega))
        clear B7 RW10 RV10 HC
        have B7 := B11
        clear B11
        have CS2 := hid (sameInts_yes V _ _ _ _ w11 RW11.out (row_keep DV.out B7.out) (by omega))
        go_upto_region 16 with (first
        | (go_at_call 17; (with_reducible refine CS2.out.mono ?_); rintro x w12 ⟨rfl, hb12⟩; replace B7 := hid (B7.out.trans (Below.mono hb12 B7.out.size)); clear hb12 CS2 RW11 DV NEW HFM HFV)
        | fail)
        go_upto_region 17 with (first
        | (go_at_call 18; (with_reducible refine (CPA.out _ B7.out).mono ?_); rintro x w13 ⟨qp, cp, SP, rfl, hm13, hS13, hb13⟩; have LP := hid hm13; have IP := hid (show ∀ x ∈ foot qp SP, w7.heap.size ≤ x ∧ x < w13.heap.size from fun x hx => ⟨by have := hS13 x hx; have := B7.out.size; omega, hm13.lt x hx⟩); replace B7 := hid (B7.out.trans (Below.mono hb13 B7.out.size)); clear hm13 hS13 hb13)
        | fail)
        go_upto_region 18 with (first
        | (go_at_call 18; (with_reducible refine (CPA.out _ B7.out).mono ?_); rintro x w14 ⟨qz, cz, SZ, rfl, hm14, hS14, hb14⟩; replace LP := hid (LP.out.chg (Chg.of_below (S := []) hb14) (fun x hx => (by simp))); have LZ := hid hm14; have IZ := hid (show ∀ x ∈ foot qz SZ, w13.heap.size ≤ x from hS14); replace B7 := hid (B7.out.trans (Below.mono hb14 B7.out.size)); clear hm14 hS14 hb14 CPA)
        | fail)
        have CA := hid (show Calls Tryz.prog 19 #[.slice qp P.length cp, .slice qz P.length cz, .slice qd P.length cd] w14 fun e w' => e = .returned (.bool true) ∧ Chg (foot qp SP) w14 w' from by
          have h := againW_any P P P qp qz qd P.length cp cz cd SP w14 LP.out (by omega) (by unfold maxLen; omega) (by unfold maxLen; omega) (fun W hc => (LZ.out.chg hc (fun x hx h => by have := (IP.out x h).2; have := IZ.out x hx; omega)).at_) (fun W hc => DP.out.keep (Chg.low B7.out hc (fun x hx => (IP.out x hx).1))) LP.out.at_
          rwa [eqL_same] at h)
        clear LP LZ IZ DP
        go_upto_region 19 with (first
        | (go_at_call 19; (with_reducible refine CA.out.mono ?_); rintro x w15 ⟨rfl, hc15⟩; have B15 := hid (show Below w7.heap.size w7 w15 from Chg.low B7.out hc15 (fun x hx => (IP.out x hx).1)); clear hc15 CA IP B7)
        | fail)
        have hq : (y == y) = true := beq_self_eq_true y
        have hq2 : (y != y) = false := by simp
        go_wp2_with fail
        go_loopw [19] (fun i wr => ∃ (k : Nat), k ≤ l.length ∧ i = .int .i64 (k : Int) ∧ Hid (Below w7.heap.size w7 wr)) (fun i _ => l.length - (intOf i).toNat)
        case atStart => exact ⟨0, by omega, rfl, B15⟩
        case round =>
          clear B15
          obtain ⟨k, hk, rfl, BR⟩ := hrel
          have hkb : (k : Int) ≤ 1048576 := by omega
          by_cases hlt : k + 1 < l.length
          · obtain ⟨b, o, hp, e1, c1, hs1, ht1⟩ := HL.out.get k (by omega)
            subst hp
            obtain ⟨b', o', hp, e2, c2, hs2, ht2⟩ := HL.out.get (k + 1) hlt
            simp only [Option.some.injEq, Addr.mk.injEq, and_true] at hp
            obtain ⟨rfl, rfl⟩ := hp
            have BWR := hid (show Below w.heap.size w wr from BW.out.trans (BR.out.mono BW.out.size))
            have dt := HDA.out k (by omega)
            have du := HDA.out (k + 1) hlt
            have LT := hid (HL.out.two k hlt)
            have HCALL := hid (fun (W : World) (h : Below wr.heap.size wr W) => variantAll_any l[k] l[k + 1] e1 e2 c1 c2 W ((ht1.keep BWR.out).keep h) ((ht2.keep BWR.out).keep h) dt du (HX.out.keep (BWR.out.trans (h.mono BWR.out.size))))
            have HFI := hid (fun (W : World) (c : Nat) (h : Below w.heap.size w W) => first_any [l[k], l[k + 1]] (some ⟨b, o + k * 6, none⟩) c W (by unfold maxLen; simp) (LT.out.keep h) (by unfold AllR AllR AllR; exact ⟨dt, du, trivial⟩))
            have HVD := hid (fun (h0 : whyL [l[k], l[k + 1]] = 0) (W : World) (h : Below w.heap.size w W) => variantR_any l[k] l[k + 1] e1 e2 c1 c2 W (ht1.keep h) (ht2.keep h) (checks_two dt du h0).1 (checks_two dt du h0).2)
            have HVS := hid (fun (h0 : whyL [l[k], l[k + 1]] = 0) => varAns_same dt du h0)
            have HVB := hid (fun (h0 : whyL [l[k], l[k + 1]] ≠ 0) => varAns_bad (t := l[k]) (u := l[k + 1]) h0)
            have S1 := hid hs1
            have S2 := hid hs2
            clear hs1 hs2 ht1 ht2 dt du LT
            unfold Tm.val at HCALL HVD
            generalize l[k] = t1 at *
            generalize l[k + 1] = u1 at *
            generalize varAns t1 u1 = z at *
            generalize sameT (renT t1) (renT u1) = s at *
            have RR := hid (Below.refl wr.heap.size wr)
            have SY := hid (show ∀ W : World, Below w.heap.size w W → (W.cell? ⟨b, o + k * 6, none⟩ = some (.int .i64 t1.kind) ∧ W.cell? ⟨b, o + k * 6 + 1, none⟩ = some (.string t1.name) ∧ W.cell? ⟨b, o + k * 6 + 2, none⟩ = some (.string t1.num) ∧ W.cell? ⟨b, o + k * 6 + 3, none⟩ = some (.int .u64 t1.bits) ∧ W.cell? ⟨b, o + k * 6 + 4, none⟩ = some (.int .i64 t1.var) ∧ W.cell? ⟨b, o + k * 6 + 5, none⟩ = some (.slice e1 t1.args.length c1) ∧ W.cell? ⟨b, o + (k + 1) * 6, none⟩ = some (.int .i64 u1.kind) ∧ W.cell? ⟨b, o + (k + 1) * 6 + 1, none⟩ = some (.string u1.name) ∧ W.cell? ⟨b, o + (k + 1) * 6 + 2, none⟩ = some (.string u1.num) ∧ W.cell? ⟨b, o + (k + 1) * 6 + 3, none⟩ = some (.int .u64 u1.bits) ∧ W.cell? ⟨b, o + (k + 1) * 6 + 4, none⟩ = some (.int .i64 u1.var) ∧ W.cell? ⟨b, o + (k + 1) * 6 + 5, none⟩ = some (.slice e2 u1.args.length c2)) from fun W h =>
              have m1 := S1.out.keep h
              have m2 := S2.out.keep h
              ⟨m1.c0, m1.c1, m1.c2, m1.c3, m1.c4, m1.c5, m2.c0, m2.c1, m2.c2, m2.c3, m2.c4, m2.c5⟩)
            have SR := hid (fun (W : World) (h : Below wr.heap.size wr W) => SY.out W (BWR.out.trans (h.mono BWR.out.size)))
            have sr := SR.out wr RR.out
            have hk0 : (0 : Int) ≤ (k : Int) := by omega
            have hk1 : (k : Int) + 1 < (l.length : Int) := by omega
            have hk2 : (k : Int) < (l.length : Int) := by omega
            go_wp2_with fail
            have hwr : IntKind.i64.wrap ((k : Int) + 1) = (k : Int) + 1 := IntWalk.i64_in _ (by omega)
            have hwn : (0 : Int) ≤ (k : Int) + 1 := by omega
            have hwt : ((k : Int) + 1).toNat = k + 1 := by omega
            have hsr : k + 1 < l.length := hlt
            go_region_held3 (fun W => W.cell? ⟨b, o + k * 6, none⟩ = some (.int .i64 t1.kind) ∧ W.cell? ⟨b, o + k * 6 + 1, none⟩ = some (.string t1.name) ∧ W.cell? ⟨b, o + k * 6 + 2, none⟩ = some (.string t1.num) ∧ W.cell? ⟨b, o + k * 6 + 3, none⟩ = some (.int .u64 t1.bits) ∧ W.cell? ⟨b, o + k * 6 + 4, none⟩ = some (.int .i64 t1.var) ∧ W.cell? ⟨b, o + k * 6 + 5, none⟩ = some (.slice e1 t1.args.length c1) ∧ W.cell? ⟨b, o + (k + 1) * 6, none⟩ = some (.int .i64 u1.kind) ∧ W.cell? ⟨b, o + (k + 1) * 6 + 1, none⟩ = some (.string u1.name) ∧ W.cell? ⟨b, o + (k + 1) * 6 + 2, none⟩ = some (.string u1.num) ∧ W.cell? ⟨b, o + (k + 1) * 6 + 3, none⟩ = some (.int .u64 u1.bits) ∧ W.cell? ⟨b, o + (k + 1) * 6 + 4, none⟩ = some (.int .i64 u1.var) ∧ W.cell? ⟨b, o + (k + 1) * 6 + 5, none⟩ = some (.slice e2 u1.args.length c2))
            (first
              | (with_reducible exact sr)
              | (with_reducible exact SR.out _ (bl_drew RR.out))
              | (with_reducible exact SR.out _ C2.out)
              | fail)
            ((first
              | (go_at_call 20; (with_reducible refine (HCALL.out _ (bl_drew RR.out)).mono ?_); rintro x w20 ⟨rfl, hb20⟩; have C2 := hid (bl_call (bl_drew RR.out) hb20); clear hb20)))
            have C2w := hid (show Below w.heap.size w w20 from BWR.out.trans (C2.out.mono BWR.out.size))
            have hk3 : (k : Int) + 2 ≤ (cl : Int) := by omega
            have hk4 : (k : Int) ≤ (k : Int) + 2 := by omega
            clear hwr hwn hwt sr SR HCALL
            have HF := hid (show Calls Tryz.prog 12 #[.slice (some ⟨b, o + k * 6, none⟩) 2 (cl - k)] w20 fun e w' => e = .returned (.int .i64 (checksErr vName numOk bitsOk [t1, u1])) ∧ Below w20.heap.size w20 w' from HFI.out w20 (cl - k) C2w.out)
            unfold whyL at HVD HVS HVB
            clear HFI
            generalize checksErr vName numOk bitsOk [t1, u1] = v at *
            go_upto_region 26 with (first
            | (go_at_call 12; (with_reducible refine HF.out.mono ?_); rintro x w21 ⟨rfl, hb21⟩; have B21 := hid (show Below w.heap.size w w21 from C2w.out.trans (hb21.mono C2w.out.size)); have B721 := hid (show Below w7.heap.size w7 w21 from BR.out.trans ((C2.out.trans (hb21.mono C2.out.size)).mono BR.out.size)); clear hb21 HF C2 C2w)
            | fail)
            by_cases hv0 : v = 0
            · subst hv0
              obtain rfl : z = s := HVS.out rfl
              have hqz : (z != z) = false := by simp
              have hqz2 : (z == z) = true := by simp
              have RR2 := hid (Below.refl w21.heap.size w21)
              have SR2 := hid (fun (W : World) (h : Below w21.heap.size w21 W) => SY.out W (B21.out.trans (h.mono B21.out.size)))
              have sr2 := SR2.out w21 RR2.out
              have HC2 := hid (fun (W : World) (h : Below w21.heap.size w21 W) => HVD.out rfl W (B21.out.trans (h.mono B21.out.size)))
              clear SY HVD HVS HVB S1 S2
              go_wp2_with fail
              have hwr : IntKind.i64.wrap ((k : Int) + 1) = (k : Int) + 1 := IntWalk.i64_in _ (by omega)
              have hwn : (0 : Int) ≤ (k : Int) + 1 := by omega
              have hwt : ((k : Int) + 1).toNat = k + 1 := by omega
              go_region_held3 (fun W => W.cell? ⟨b, o + k * 6, none⟩ = some (.int .i64 t1.kind) ∧ W.cell? ⟨b, o + k * 6 + 1, none⟩ = some (.string t1.name) ∧ W.cell? ⟨b, o + k * 6 + 2, none⟩ = some (.string t1.num) ∧ W.cell? ⟨b, o + k * 6 + 3, none⟩ = some (.int .u64 t1.bits) ∧ W.cell? ⟨b, o + k * 6 + 4, none⟩ = some (.int .i64 t1.var) ∧ W.cell? ⟨b, o + k * 6 + 5, none⟩ = some (.slice e1 t1.args.length c1) ∧ W.cell? ⟨b, o + (k + 1) * 6, none⟩ = some (.int .i64 u1.kind) ∧ W.cell? ⟨b, o + (k + 1) * 6 + 1, none⟩ = some (.string u1.name) ∧ W.cell? ⟨b, o + (k + 1) * 6 + 2, none⟩ = some (.string u1.num) ∧ W.cell? ⟨b, o + (k + 1) * 6 + 3, none⟩ = some (.int .u64 u1.bits) ∧ W.cell? ⟨b, o + (k + 1) * 6 + 4, none⟩ = some (.int .i64 u1.var) ∧ W.cell? ⟨b, o + (k + 1) * 6 + 5, none⟩ = some (.slice e2 u1.args.length c2))
              (first
                | (with_reducible exact sr2)
                | (with_reducible exact SR2.out _ (bl_drew RR2.out))
                | (with_reducible exact SR2.out _ C3.out)
                | fail)
              ((first
                | (go_at_call 21; (with_reducible refine (HC2.out _ (bl_drew RR2.out)).mono ?_); rintro x w22 ⟨rfl, hb22⟩; have C3 := hid (bl_call (bl_drew RR2.out) hb22); clear hb22)))
              clear hwr hwn hwt sr2 SR2 HC2
              have B722 := hid (show Below w7.heap.size w7 w22 from B721.out.trans (C3.out.mono B721.out.size))
              clear C3 RR2 B21 B721
              go_wp2_with fail
              go_roundw
              case rel => exact ⟨k + 1, by omega, by go_num, B722⟩
              case measure => simp [intOf]; omega
            · obtain rfl : z = false := HVB.out hv0
              have hqv : (v == 0) = false := beq_eq_false_iff_ne.2 hv0
              have hqv2 : (v != v) = false := by simp
              have hqv3 : (v == v) = true := by simp
              clear SY HVD HVS HVB S1 S2 hv0
              go_wp2_with fail
              go_roundw
              case rel => exact ⟨k + 1, by omega, by go_num, B721⟩
              case measure => simp [intOf]; omega
          · clear hk
            have hk1 : ¬ ((k : Int) + 1 < (l.length : Int)) := by omega
            go_wp2_with fail
            go_ret
            exact ⟨rfl, BW.out.trans (BR.out.mono BW.out.size)⟩
  · have hz : whyL l ≠ 0 := fun e => h0 (hy.trans e)
    obtain rfl : V = [] := hV.trans (if_neg hz)
    obtain rfl : P = [] := hP.trans (if_neg hz)
    have CV2 := hid (show ∀ (W : World), Below w.heap.size w W → Calls Tryz.prog 16 #[.slice pl l.length cl] W fun e w' => ∃ q c, e = .returned (.tuple #[.slice q 0 c, .int .i64 y]) ∧ w'.ownsRow W.heap.size 3 1 (.slice q 0 c) 0 (ints []) ∧ Below W.heap.size W w' from CV.out)
    have CP2 := hid (show ∀ (W : World), Below w.heap.size w W → Calls Tryz.prog 18 #[.slice pl l.length cl] W fun e w' => ∃ q c S, e = .returned (.tuple #[.slice q 0 c, .int .i64 y]) ∧ ListM w' q 0 c [] S ∧ (∀ x ∈ foot q S, W.heap.size ≤ x) ∧ Below W.heap.size W w' from CP.out)
    have hy0 : (y == 0) = false := beq_eq_false_iff_ne.2 h0
    clear hV hP hz hy h0 hD CV CP hVl hPl
    go_enter Tryz.func4, Tryz.ntmps4
    go_upto_region 8 with (first
      | (go_at_call 10; (with_reducible refine AWK.out.mono ?_); rintro x w1 ⟨rfl, hb1⟩; have BW1 := hid hb1; clear hb1 AWK)
      | (go_at_call 12; (with_reducible refine (CFI2.out _ BW1.out).mono ?_); rintro x w2 ⟨rfl, hb2⟩; have BW2 := hid (BW1.out.trans (hb2.mono BW1.out.size)); clear hb2 CFI2)
      | fail)
    obtain ⟨w7, rfl⟩ : ∃ w7, w7 = w2 := ⟨_, rfl⟩
    have BW := BW2
    have DV := hid (show w7.ownsRow w.heap.size 3 1 (.slice none 0 0) 0 (ints []) from World.ownsRow_nil _ _ _ _)
    have DP := hid (show ListAt w7 [] none from .inl rfl)
    have CVA := hid (fun (W : World) (h : Below w7.heap.size w7 W) => CV2.out W (BW.out.trans (h.mono BW.out.size)))
    have CPA := hid (fun (W : World) (h : Below w7.heap.size w7 W) => CP2.out W (BW.out.trans (h.mono BW.out.size)))
    have B7 := hid (Below.refl w7.heap.size w7)
    clear CV2 CP2 BW0 BW1 BW2 hy0
    go_upto_region 9 with (first
    | (go_at_call 16; (with_reducible refine (CVA.out _ B7.out).mono ?_); rintro x w8 ⟨qv, cv, rfl, ho8, hb8⟩; have RV := hid ho8; replace B7 := hid (B7.out.trans (Below.mono hb8 B7.out.size)); clear ho8 hb8)
    | fail)
    go_upto_region 10 with (first
    | (go_at_call 16; (with_reducible refine (CVA.out _ B7.out).mono ?_); rintro x w9 ⟨qw, cw, rfl, ho9, hb9⟩; have RW9 := hid ho9; have RV9 := hid (row_keep RV.out hb9); replace B7 := hid (B7.out.trans (Below.mono hb9 B7.out.size)); clear ho9 hb9 CVA)
    | fail)
    have NEW := hid (show (∀ g, (Value.slice qv 0 cv).ownBlock = some g → w7.heap.size ≤ g ∧ g < w8.heap.size) ∧ (∀ g, (Value.slice qw 0 cw).ownBlock = some g → w8.heap.size ≤ g) from ⟨fun g e => ⟨ownBlock_le RV.out e, ownBlock_lt RV.out e⟩, fun g e => ownBlock_le RW9.out e⟩)
    have CS1 := hid (sameInts_yes ([] : List Int) _ _ _ _ w9 RV9.out (row_keep DV.out B7.out) (by simp))
    go_upto_region 11 with (first
    | (go_at_call 17; (with_reducible refine CS1.out.mono ?_); rintro x w10 ⟨rfl, hb10⟩; have RV10 := hid (row_keep RV9.out hb10); have RW10 := hid (row_keep RW9.out hb10); replace B7 := hid (B7.out.trans (Below.mono hb10 B7.out.size)); clear hb10 CS1 RV RV9 RW9)
    | fail)
    obtain ⟨FV, hFV⟩ : ∃ FV, FV = (Value.slice qv 0 cv).ownBlock.toList := ⟨_, rfl⟩
    have HFV := hid hFV
    clear hFV
    have hVl' : (0 : Int) ≤ 1048576 := by omega
    go_wp2_with fail
    go_loopw [12] (fun i wr => ∃ (k : Nat), k ≤ 0 ∧ i = .int .i64 (k : Int) ∧ Hid (∀ g, (Value.slice qv 0 cv).ownBlock = some g → ∃ cur, wr.heap[g]? = some (.cells cur 3 (0, 0)) ∧ 0 ≤ cur.size) ∧ Hid (Chg FV w10 wr)) (fun i _ => 0 - (intOf i).toNat)
    case atStart =>
      refine ⟨0, by omega, rfl, hid (fun g e => ?_), hid (Chg.refl _ _)⟩
      rcases RV10.out.2 with ⟨h1, _⟩ | ⟨g', cap', cur, h1, h2, h3, h4, h5, h6, _⟩
      · rw [h1] at e; cases e
      · rw [h1] at e
        have e : g' = g := by simpa [Value.ownBlock] using e
        subst e
        exact ⟨cur, h3, by omega⟩
    case round =>
      obtain ⟨k, hk, rfl, HB, HC⟩ := hrel
      by_cases hlt : k < 0
      · have hk0 : (0 : Int) ≤ (k : Int) := by omega
        have hk1 : (k : Int) < (0 : Int) := by omega
        exact absurd hlt (by omega)
      · obtain rfl : k = 0 := by omega
        clear hlt HB
        obtain ⟨w11, rfl⟩ : ∃ w11, w11 = wr := ⟨_, rfl⟩
        have HFM := hid (show ∀ x ∈ FV, w7.heap.size ≤ x ∧ x < w8.heap.size from fun x hx => by rw [HFV.out] at hx; exact NEW.out.1 x (by simpa using hx))
        have B11 := hid (show Below w7.heap.size w7 w11 from Chg.low B7.out HC.out (fun x hx => (HFM.out x hx).1))
        have RW11 := hid (row_chg RW10.out HC.out (fun g e h => by have := (HFM.out g h).2; have := NEW.out.2 g e; omega))
        clear B7 RW10 RV10 HC
        have B7 := B11
        clear B11
        have CS2 := hid (sameInts_yes ([] : List Int) _ _ _ _ w11 RW11.out (row_keep DV.out B7.out) (by simp))
        go_upto_region 16 with (first
        | (go_at_call 17; (with_reducible refine CS2.out.mono ?_); rintro x w12 ⟨rfl, hb12⟩; replace B7 := hid (B7.out.trans (Below.mono hb12 B7.out.size)); clear hb12 CS2 RW11 DV NEW HFM HFV)
        | fail)
        go_upto_region 17 with (first
        | (go_at_call 18; (with_reducible refine (CPA.out _ B7.out).mono ?_); rintro x w13 ⟨qp, cp, SP, rfl, hm13, hS13, hb13⟩; have LP := hid hm13; have IP := hid (show ∀ x ∈ foot qp SP, w7.heap.size ≤ x ∧ x < w13.heap.size from fun x hx => ⟨by have := hS13 x hx; have := B7.out.size; omega, hm13.lt x hx⟩); replace B7 := hid (B7.out.trans (Below.mono hb13 B7.out.size)); clear hm13 hS13 hb13)
        | fail)
        go_upto_region 18 with (first
        | (go_at_call 18; (with_reducible refine (CPA.out _ B7.out).mono ?_); rintro x w14 ⟨qz, cz, SZ, rfl, hm14, hS14, hb14⟩; replace LP := hid (LP.out.chg (Chg.of_below (S := []) hb14) (fun x hx => (by simp))); have LZ := hid hm14; have IZ := hid (show ∀ x ∈ foot qz SZ, w13.heap.size ≤ x from hS14); replace B7 := hid (B7.out.trans (Below.mono hb14 B7.out.size)); clear hm14 hS14 hb14 CPA)
        | fail)
        have CA := hid (show Calls Tryz.prog 19 #[.slice qp 0 cp, .slice qz 0 cz, .slice none 0 0] w14 fun e w' => e = .returned (.bool true) ∧ Chg (foot qp SP) w14 w' from by
          have h := againW_any ([] : List Tm) ([] : List Tm) ([] : List Tm) qp qz none 0 cp cz 0 SP w14 LP.out (by omega) (by simp) (by simp) (fun W hc => (LZ.out.chg hc (fun x hx h => by have := (IP.out x h).2; have := IZ.out x hx; omega)).at_) (fun W hc => DP.out.keep (Chg.low B7.out hc (fun x hx => (IP.out x hx).1))) LP.out.at_
          rwa [eqL_same] at h)
        clear LP LZ IZ DP
        go_upto_region 19 with (first
        | (go_at_call 19; (with_reducible refine CA.out.mono ?_); rintro x w15 ⟨rfl, hc15⟩; have B15 := hid (show Below w7.heap.size w7 w15 from Chg.low B7.out hc15 (fun x hx => (IP.out x hx).1)); clear hc15 CA IP B7)
        | fail)
        have hq : (y == y) = true := beq_self_eq_true y
        have hq2 : (y != y) = false := by simp
        go_wp2_with fail
        go_loopw [19] (fun i wr => ∃ (k : Nat), k ≤ l.length ∧ i = .int .i64 (k : Int) ∧ Hid (Below w7.heap.size w7 wr)) (fun i _ => l.length - (intOf i).toNat)
        case atStart => exact ⟨0, by omega, rfl, B15⟩
        case round =>
          clear B15
          obtain ⟨k, hk, rfl, BR⟩ := hrel
          have hkb : (k : Int) ≤ 1048576 := by omega
          by_cases hlt : k + 1 < l.length
          · obtain ⟨b, o, hp, e1, c1, hs1, ht1⟩ := HL.out.get k (by omega)
            subst hp
            obtain ⟨b', o', hp, e2, c2, hs2, ht2⟩ := HL.out.get (k + 1) hlt
            simp only [Option.some.injEq, Addr.mk.injEq, and_true] at hp
            obtain ⟨rfl, rfl⟩ := hp
            have BWR := hid (show Below w.heap.size w wr from BW.out.trans (BR.out.mono BW.out.size))
            have dt := HDA.out k (by omega)
            have du := HDA.out (k + 1) hlt
            have LT := hid (HL.out.two k hlt)
            have HCALL := hid (fun (W : World) (h : Below wr.heap.size wr W) => variantAll_any l[k] l[k + 1] e1 e2 c1 c2 W ((ht1.keep BWR.out).keep h) ((ht2.keep BWR.out).keep h) dt du (HX.out.keep (BWR.out.trans (h.mono BWR.out.size))))
            have HFI := hid (fun (W : World) (c : Nat) (h : Below w.heap.size w W) => first_any [l[k], l[k + 1]] (some ⟨b, o + k * 6, none⟩) c W (by unfold maxLen; simp) (LT.out.keep h) (by unfold AllR AllR AllR; exact ⟨dt, du, trivial⟩))
            have HVD := hid (fun (h0 : whyL [l[k], l[k + 1]] = 0) (W : World) (h : Below w.heap.size w W) => variantR_any l[k] l[k + 1] e1 e2 c1 c2 W (ht1.keep h) (ht2.keep h) (checks_two dt du h0).1 (checks_two dt du h0).2)
            have HVS := hid (fun (h0 : whyL [l[k], l[k + 1]] = 0) => varAns_same dt du h0)
            have HVB := hid (fun (h0 : whyL [l[k], l[k + 1]] ≠ 0) => varAns_bad (t := l[k]) (u := l[k + 1]) h0)
            have S1 := hid hs1
            have S2 := hid hs2
            clear hs1 hs2 ht1 ht2 dt du LT
            unfold Tm.val at HCALL HVD
            generalize l[k] = t1 at *
            generalize l[k + 1] = u1 at *
            generalize varAns t1 u1 = z at *
            generalize sameT (renT t1) (renT u1) = s at *
            have RR := hid (Below.refl wr.heap.size wr)
            have SY := hid (show ∀ W : World, Below w.heap.size w W → (W.cell? ⟨b, o + k * 6, none⟩ = some (.int .i64 t1.kind) ∧ W.cell? ⟨b, o + k * 6 + 1, none⟩ = some (.string t1.name) ∧ W.cell? ⟨b, o + k * 6 + 2, none⟩ = some (.string t1.num) ∧ W.cell? ⟨b, o + k * 6 + 3, none⟩ = some (.int .u64 t1.bits) ∧ W.cell? ⟨b, o + k * 6 + 4, none⟩ = some (.int .i64 t1.var) ∧ W.cell? ⟨b, o + k * 6 + 5, none⟩ = some (.slice e1 t1.args.length c1) ∧ W.cell? ⟨b, o + (k + 1) * 6, none⟩ = some (.int .i64 u1.kind) ∧ W.cell? ⟨b, o + (k + 1) * 6 + 1, none⟩ = some (.string u1.name) ∧ W.cell? ⟨b, o + (k + 1) * 6 + 2, none⟩ = some (.string u1.num) ∧ W.cell? ⟨b, o + (k + 1) * 6 + 3, none⟩ = some (.int .u64 u1.bits) ∧ W.cell? ⟨b, o + (k + 1) * 6 + 4, none⟩ = some (.int .i64 u1.var) ∧ W.cell? ⟨b, o + (k + 1) * 6 + 5, none⟩ = some (.slice e2 u1.args.length c2)) from fun W h =>
              have m1 := S1.out.keep h
              have m2 := S2.out.keep h
              ⟨m1.c0, m1.c1, m1.c2, m1.c3, m1.c4, m1.c5, m2.c0, m2.c1, m2.c2, m2.c3, m2.c4, m2.c5⟩)
            have SR := hid (fun (W : World) (h : Below wr.heap.size wr W) => SY.out W (BWR.out.trans (h.mono BWR.out.size)))
            have sr := SR.out wr RR.out
            have hk0 : (0 : Int) ≤ (k : Int) := by omega
            have hk1 : (k : Int) + 1 < (l.length : Int) := by omega
            have hk2 : (k : Int) < (l.length : Int) := by omega
            go_wp2_with fail
            have hwr : IntKind.i64.wrap ((k : Int) + 1) = (k : Int) + 1 := IntWalk.i64_in _ (by omega)
            have hwn : (0 : Int) ≤ (k : Int) + 1 := by omega
            have hwt : ((k : Int) + 1).toNat = k + 1 := by omega
            have hsr : k + 1 < l.length := hlt
            go_region_held3 (fun W => W.cell? ⟨b, o + k * 6, none⟩ = some (.int .i64 t1.kind) ∧ W.cell? ⟨b, o + k * 6 + 1, none⟩ = some (.string t1.name) ∧ W.cell? ⟨b, o + k * 6 + 2, none⟩ = some (.string t1.num) ∧ W.cell? ⟨b, o + k * 6 + 3, none⟩ = some (.int .u64 t1.bits) ∧ W.cell? ⟨b, o + k * 6 + 4, none⟩ = some (.int .i64 t1.var) ∧ W.cell? ⟨b, o + k * 6 + 5, none⟩ = some (.slice e1 t1.args.length c1) ∧ W.cell? ⟨b, o + (k + 1) * 6, none⟩ = some (.int .i64 u1.kind) ∧ W.cell? ⟨b, o + (k + 1) * 6 + 1, none⟩ = some (.string u1.name) ∧ W.cell? ⟨b, o + (k + 1) * 6 + 2, none⟩ = some (.string u1.num) ∧ W.cell? ⟨b, o + (k + 1) * 6 + 3, none⟩ = some (.int .u64 u1.bits) ∧ W.cell? ⟨b, o + (k + 1) * 6 + 4, none⟩ = some (.int .i64 u1.var) ∧ W.cell? ⟨b, o + (k + 1) * 6 + 5, none⟩ = some (.slice e2 u1.args.length c2))
            (first
              | (with_reducible exact sr)
              | (with_reducible exact SR.out _ (bl_drew RR.out))
              | (with_reducible exact SR.out _ C2.out)
              | fail)
            ((first
              | (go_at_call 20; (with_reducible refine (HCALL.out _ (bl_drew RR.out)).mono ?_); rintro x w20 ⟨rfl, hb20⟩; have C2 := hid (bl_call (bl_drew RR.out) hb20); clear hb20)))
            have C2w := hid (show Below w.heap.size w w20 from BWR.out.trans (C2.out.mono BWR.out.size))
            have hk3 : (k : Int) + 2 ≤ (cl : Int) := by omega
            have hk4 : (k : Int) ≤ (k : Int) + 2 := by omega
            clear hwr hwn hwt sr SR HCALL
            have HF := hid (show Calls Tryz.prog 12 #[.slice (some ⟨b, o + k * 6, none⟩) 2 (cl - k)] w20 fun e w' => e = .returned (.int .i64 (checksErr vName numOk bitsOk [t1, u1])) ∧ Below w20.heap.size w20 w' from HFI.out w20 (cl - k) C2w.out)
            unfold whyL at HVD HVS HVB
            clear HFI
            generalize checksErr vName numOk bitsOk [t1, u1] = v at *
            go_upto_region 26 with (first
            | (go_at_call 12; (with_reducible refine HF.out.mono ?_); rintro x w21 ⟨rfl, hb21⟩; have B21 := hid (show Below w.heap.size w w21 from C2w.out.trans (hb21.mono C2w.out.size)); have B721 := hid (show Below w7.heap.size w7 w21 from BR.out.trans ((C2.out.trans (hb21.mono C2.out.size)).mono BR.out.size)); clear hb21 HF C2 C2w)
            | fail)
            by_cases hv0 : v = 0
            · subst hv0
              obtain rfl : z = s := HVS.out rfl
              have hqz : (z != z) = false := by simp
              have hqz2 : (z == z) = true := by simp
              have RR2 := hid (Below.refl w21.heap.size w21)
              have SR2 := hid (fun (W : World) (h : Below w21.heap.size w21 W) => SY.out W (B21.out.trans (h.mono B21.out.size)))
              have sr2 := SR2.out w21 RR2.out
              have HC2 := hid (fun (W : World) (h : Below w21.heap.size w21 W) => HVD.out rfl W (B21.out.trans (h.mono B21.out.size)))
              clear SY HVD HVS HVB S1 S2
              go_wp2_with fail
              have hwr : IntKind.i64.wrap ((k : Int) + 1) = (k : Int) + 1 := IntWalk.i64_in _ (by omega)
              have hwn : (0 : Int) ≤ (k : Int) + 1 := by omega
              have hwt : ((k : Int) + 1).toNat = k + 1 := by omega
              go_region_held3 (fun W => W.cell? ⟨b, o + k * 6, none⟩ = some (.int .i64 t1.kind) ∧ W.cell? ⟨b, o + k * 6 + 1, none⟩ = some (.string t1.name) ∧ W.cell? ⟨b, o + k * 6 + 2, none⟩ = some (.string t1.num) ∧ W.cell? ⟨b, o + k * 6 + 3, none⟩ = some (.int .u64 t1.bits) ∧ W.cell? ⟨b, o + k * 6 + 4, none⟩ = some (.int .i64 t1.var) ∧ W.cell? ⟨b, o + k * 6 + 5, none⟩ = some (.slice e1 t1.args.length c1) ∧ W.cell? ⟨b, o + (k + 1) * 6, none⟩ = some (.int .i64 u1.kind) ∧ W.cell? ⟨b, o + (k + 1) * 6 + 1, none⟩ = some (.string u1.name) ∧ W.cell? ⟨b, o + (k + 1) * 6 + 2, none⟩ = some (.string u1.num) ∧ W.cell? ⟨b, o + (k + 1) * 6 + 3, none⟩ = some (.int .u64 u1.bits) ∧ W.cell? ⟨b, o + (k + 1) * 6 + 4, none⟩ = some (.int .i64 u1.var) ∧ W.cell? ⟨b, o + (k + 1) * 6 + 5, none⟩ = some (.slice e2 u1.args.length c2))
              (first
                | (with_reducible exact sr2)
                | (with_reducible exact SR2.out _ (bl_drew RR2.out))
                | (with_reducible exact SR2.out _ C3.out)
                | fail)
              ((first
                | (go_at_call 21; (with_reducible refine (HC2.out _ (bl_drew RR2.out)).mono ?_); rintro x w22 ⟨rfl, hb22⟩; have C3 := hid (bl_call (bl_drew RR2.out) hb22); clear hb22)))
              clear hwr hwn hwt sr2 SR2 HC2
              have B722 := hid (show Below w7.heap.size w7 w22 from B721.out.trans (C3.out.mono B721.out.size))
              clear C3 RR2 B21 B721
              go_wp2_with fail
              go_roundw
              case rel => exact ⟨k + 1, by omega, by go_num, B722⟩
              case measure => simp [intOf]; omega
            · obtain rfl : z = false := HVB.out hv0
              have hqv : (v == 0) = false := beq_eq_false_iff_ne.2 hv0
              have hqv2 : (v != v) = false := by simp
              have hqv3 : (v == v) = true := by simp
              clear SY HVD HVS HVB S1 S2 hv0
              go_wp2_with fail
              go_roundw
              case rel => exact ⟨k + 1, by omega, by go_num, B721⟩
              case measure => simp [intOf]; omega
          · clear hk
            have hk1 : ¬ ((k : Int) + 1 < (l.length : Int)) := by omega
            go_wp2_with fail
            go_ret
            exact ⟨rfl, BW.out.trans (BR.out.mono BW.out.size)⟩
end Go.Proofs.YtkapejcbmonfkaaGreatDoor

namespace Go.Proofs.YtkapejcbmonfkaaGreatDoor
open Go.ChangeShapes Go.WideShapes Go.ChangeAt Go.RowKit Go.Joins Go.Deep

theorem bulk_pos {H : Type} (d : DataW H) : 1 ≤ Rows.uptoBulk d := by
  cases d with
  | lit l => cases l <;> simp [Rows.uptoBulk]
  | nil => simp [Rows.uptoBulk]
  | ptr d => simp [Rows.uptoBulk]
  | slice elems spare => simp [Rows.uptoBulk]
  | agg parts => simp [Rows.uptoBulk]
  | iface t d => simp [Rows.uptoBulk]
  | map entries => simp [Rows.uptoBulk]
  | held h => simp [Rows.uptoBulk]
theorem nodesL_bulk {H : Type} : ∀ (l : List Tm) (es : List (DataW H)), l.length = es.length → (∀ k (h : k < l.length) (h' : k < es.length), nodes l[k] ≤ Rows.uptoBulk es[k]) → nodesL l ≤ Rows.uptoBulkAll es
  | [], [], _, _ => by simp [nodesL]
  | [], _ :: _, h, _ => by simp at h
  | _ :: _, [], h, _ => by simp at h
  | t :: l, e :: es, h, hk => by
    have h1 := hk 0 (by simp) (by simp)
    have h2 := nodesL_bulk l es (by simpa using h) fun k h3 h4 => by
      have h5 := hk (k + 1) (Nat.succ_lt_succ h3) (Nat.succ_lt_succ h4)
      exact h5
    simp only [nodesL, Rows.uptoBulkAll]
    simp only [List.getElem_cons_zero] at h1
    omega
section
variable {H : Type} {enc : TypeId × Value → H} {W : World}

theorem trod_struct6B {P : Program} {base : Nat} {spare : Nat → Bool} {held : Bool} {t : TypeId} {f0 f1 f2 f3 f4 f5 : Field} {fuel : Nat} {cs : List Value} {x : DataW H × List MemPlace} (ht : P.underlying t = some (.struct #[f0, f1, f2, f3, f4, f5])) (h : DataW.trod enc P W base spare held fuel t cs = some x) :
    ∃ y0 y1 y2 y3 y4 y5 n, fuel = n + 1 ∧ cs.length = P.cellsOf t ∧ DataW.trod enc P W base spare held n f0.type ((cs.drop f0.offset).take (P.cellsOf f0.type)) = some y0 ∧
      DataW.trod enc P W base spare held n f1.type ((cs.drop f1.offset).take (P.cellsOf f1.type)) = some y1 ∧ DataW.trod enc P W base spare held n f2.type ((cs.drop f2.offset).take (P.cellsOf f2.type)) = some y2 ∧
      DataW.trod enc P W base spare held n f3.type ((cs.drop f3.offset).take (P.cellsOf f3.type)) = some y3 ∧ DataW.trod enc P W base spare held n f4.type ((cs.drop f4.offset).take (P.cellsOf f4.type)) = some y4 ∧
      DataW.trod enc P W base spare held n f5.type ((cs.drop f5.offset).take (P.cellsOf f5.type)) = some y5 ∧ (Rows.uptoBulk y5.1 + 1 ≤ Rows.uptoBulk x.1) := by
  obtain ⟨xs, n, hn, rfl, hl, hlen, hf⟩ := DataW.trod_struct ht h
  match xs, hlen with
  | [y0, y1, y2, y3, y4, y5], _ =>
    refine ⟨y0, y1, y2, y3, y4, y5, n, hn, hl, by simpa using hf 0 f0 rfl, by simpa using hf 1 f1 rfl, by simpa using hf 2 f2 rfl, by simpa using hf 3 f3 rfl, by simpa using hf 4 f4 rfl, by simpa using hf 5 f5 rfl, ?_⟩
    simp only [List.map_cons, List.map_nil, Rows.uptoBulk, Rows.uptoBulkAll]
    omega
set_option maxRecDepth 100000 in
theorem open_treeB {base : Nat} {sp : Nat → Bool} {held : Bool} : ∀ (fuel : Nat) (cs : List Value) (x : DataW H × List MemPlace), DataW.trod enc Tryz.prog W base sp held fuel 25 cs = some x →
    ∃ (t : Tm) (p : Option Addr) (cap : Nat), cs = [.int .i64 t.kind, .string t.name, .string t.num, .int .u64 t.bits, .int .i64 t.var, .slice p t.args.length cap] ∧ TmAt W t p ∧ AllT DomA t ∧ nodes t ≤ Rows.uptoBulk x.1 := by
  intro fuel
  induction fuel using Nat.strongRecOn with
  | _ fuel ih =>
    intro cs x h
    obtain ⟨y0, y1, y2, y3, y4, y5, n, hn, hl, u0, u1, u2, u3, u4, u5, hw5⟩ := trod_struct6B Tryz.underlying25 h
    rw [show Tryz.prog.cellsOf 25 = 6 by kernel_rfl] at hl
    match cs, hl with
    | [v0, v1, v2, v3, v4, v5], _ =>
      simp only [show Tryz.prog.cellsOf 9 = 1 by kernel_rfl, show Tryz.prog.cellsOf 3 = 1 by kernel_rfl, show Tryz.prog.cellsOf 22 = 1 by kernel_rfl, show Tryz.prog.cellsOf 23 = 1 by kernel_rfl, List.drop, List.take] at u0 u1 u2 u3 u4 u5
      obtain ⟨kd, e0, -, g0⟩ := DataW.trod_int Tryz.underlying3 u0
      obtain ⟨nm, e1, -, z1⟩ := DataW.trod_string Tryz.underlying9 u1
      obtain ⟨nu, e2, -, z2⟩ := DataW.trod_string Tryz.underlying9 u2
      obtain ⟨bi, e3, -, g3⟩ := DataW.trod_int Tryz.underlying22 u3
      obtain ⟨va, e4, -, g4⟩ := DataW.trod_int Tryz.underlying3 u4
      simp only [List.cons.injEq, and_true] at e0 e1 e2 e3 e4
      subst e0; subst e1; subst e2; subst e3; subst e4
      obtain ⟨hb0, hb1⟩ := wf_u64 g3
      have hdom : ∀ l, DomA (.mk kd nm nu bi va l) := fun l => ⟨by unfold maxLen at z1; exact z1, by unfold maxLen at z2; exact z2, hb0, hb1, g4, g0⟩
      rcases DataW.trod_slice Tryz.underlying23 u5 with ⟨hcs, hx⟩ | ⟨a, len, cap, elems, rest, m, hm, hcs, hx, -, hlc, hcm, hel, hE, -, -⟩
      · simp only [List.cons.injEq, and_true] at hcs
        subst hcs
        refine ⟨.mk kd nm nu bi va [], none, 0, rfl, ?_, ?_, ?_⟩
        · unfold TmAt
          exact ⟨by unfold maxLen; simp, .inl rfl⟩
        · unfold AllT AllR
          exact ⟨hdom _, trivial⟩
        · have := bulk_pos y5.1
          simp only [nodes, nodesL]
          omega
      · simp only [List.cons.injEq, and_true] at hcs
        subst hcs
        have hx5 : y5.1 = .slice (elems.map (·.1)) (rest.map (·.1)) := by rw [hx]
        have each : ∀ i, i < len → ∃ q : Tm × Option Addr × Nat, (∀ j, W.cell? ((a.add (i * 6)).add j) = ([Value.int .i64 q.1.kind, .string q.1.name, .string q.1.num, .int .u64 q.1.bits, .int .i64 q.1.var, .slice q.2.1 q.1.args.length q.2.2] : List Value)[j]? ∨ 6 ≤ j) ∧ TmAt W q.1 q.2.1 ∧ AllT DomA q.1 ∧ nodes q.1 ≤ (elems.map (fun x => Rows.uptoBulk x.1)).getD i 0 := by
          intro i hi
          have h1 := hE i hi
          rw [show Tryz.prog.cellsOf 25 = 6 by kernel_rfl] at h1
          rw [List.getElem?_eq_getElem (by omega)] at h1
          obtain ⟨cs', h2, h3⟩ := Option.bind_eq_some_iff.1 h1
          obtain ⟨t, p, c, rfl, h5, h6, h7⟩ := ih m (by omega) cs' _ h3
          obtain ⟨_, hl2, hcell⟩ := World.cells?_some h2
          refine ⟨(t, p, c), fun j => ?_, h5, h6, by simpa [hel, hi] using h7⟩
          by_cases hj : j < 6
          · left
            have := hcell j hj
            simpa using this
          · right; omega
        obtain ⟨q, hq⟩ := choose_lt each
        refine ⟨.mk kd nm nu bi va ((List.range len).map fun i => (q i).1), some a, cap, by simp [Tm.kind, Tm.name, Tm.num, Tm.bits, Tm.var, Tm.args], ?_, ?_, ?_⟩
        · unfold TmAt
          refine ⟨by simp; omega, ?_⟩
          by_cases h0 : len = 0
          · left; subst h0; rfl
          · right
            obtain ⟨xb, xo, spot⟩ := a
            have hc0 := (hq 0 (by omega)).1 0
            have hspot : spot = none := by
              rcases hc0 with hc | hc
              · simpa [Addr.add] using World.cell?_spot hc
              · omega
            subst hspot
            refine ⟨xb, xo, rfl, RowT.mk fun k hk => ?_⟩
            have hk' : k < len := by simpa using hk
            obtain ⟨hc, ht, -⟩ := hq k hk'
            refine ⟨(q k).2.1, (q k).2.2, ?_, by simpa using ht⟩
            have c : ∀ j, j < 6 → W.cell? ⟨xb, xo + k * 6 + j, none⟩ = ([Value.int .i64 (q k).1.kind, .string (q k).1.name, .string (q k).1.num, .int .u64 (q k).1.bits, .int .i64 (q k).1.var, .slice (q k).2.1 (q k).1.args.length (q k).2.2] : List Value)[j]? := fun j hj => by
              rcases hc j with h | h
              · rw [← h, Addr.add_lit, Addr.add_lit]
              · omega
            have e : ((List.range len).map fun i => (q i).1)[k] = (q k).1 := by simp
            rw [e]
            exact ⟨(c 0 (by omega)).trans rfl, (c 1 (by omega)).trans rfl, (c 2 (by omega)).trans rfl, (c 3 (by omega)).trans rfl, (c 4 (by omega)).trans rfl, (c 5 (by omega)).trans rfl⟩
        · unfold AllT
          refine ⟨hdom _, AllR.mk fun k hk => ?_⟩
          have hk' : k < len := by simpa using hk
          simpa using (hq k hk').2.2.1
        · have h8 : nodesL ((List.range len).map fun i => (q i).1) ≤ Rows.uptoBulkAll (elems.map (·.1)) := by
            refine nodesL_bulk _ _ (by simp [hel]) fun k hk hk2 => ?_
            have hk' : k < len := by simpa using hk
            have h9 := (hq k hk').2.2.2
            have hke : k < elems.length := by omega
            simpa [hke] using h9
          have h10 : Rows.uptoBulkAll (elems.map (·.1)) + 1 ≤ Rows.uptoBulk y5.1 := by
            rw [hx5]
            simp only [Rows.uptoBulk]
            omega
          simp only [nodes]
          omega
set_option maxRecDepth 100000 in
theorem open_listB {v : Value} {d : DataW H} {p : List MemPlace} {sp : Nat → Bool} {held : Bool} {r : Reach} {b0 : Nat} (hval : Value.okWide Tryz.prog W r b0 23 v) (h : DataW.Trod enc Tryz.prog W 0 sp held 23 v d p) :
    ∃ (l : List Tm) (q : Option Addr) (cap : Nat), v = .slice q l.length cap ∧ l.length ≤ cap ∧ ListAt W l q ∧ AllR DomA l ∧ nodesL l ≤ Rows.uptoBulk d := by
  obtain ⟨a1, len1, cap1, rfl⟩ := okWide_slice Tryz.underlying23 hval
  obtain ⟨fuel, hf⟩ := h
  rcases DataW.trod_slice Tryz.underlying23 hf with ⟨hcs, hx⟩ | ⟨a, len, cap, elems, rest, m, hm, hcs, hx, -, hlc, hcm, hel, hE, -, -⟩
  · simp [Value.cells] at hcs
    obtain ⟨rfl, rfl, rfl⟩ := hcs
    refine ⟨[], none, 0, rfl, by simp, .inl rfl, ?_, by simp [nodesL]⟩
    unfold AllR
    trivial
  · simp [Value.cells] at hcs
    obtain ⟨rfl, rfl, rfl⟩ := hcs
    obtain rfl : d = .slice (elems.map (·.1)) (rest.map (·.1)) := (Prod.mk.inj hx).1
    have each : ∀ i, i < len1 → ∃ q : Tm × Option Addr × Nat, (∀ j, W.cell? ((a.add (i * 6)).add j) = ([Value.int .i64 q.1.kind, .string q.1.name, .string q.1.num, .int .u64 q.1.bits, .int .i64 q.1.var, .slice q.2.1 q.1.args.length q.2.2] : List Value)[j]? ∨ 6 ≤ j) ∧ TmAt W q.1 q.2.1 ∧ AllT DomA q.1 ∧ nodes q.1 ≤ (elems.map (fun x => Rows.uptoBulk x.1)).getD i 0 := by
      intro i hi
      have h1 := hE i hi
      rw [show Tryz.prog.cellsOf 25 = 6 by kernel_rfl] at h1
      rw [List.getElem?_eq_getElem (by omega)] at h1
      obtain ⟨cs', h2, h3⟩ := Option.bind_eq_some_iff.1 h1
      obtain ⟨t, p, c, rfl, h5, h6, h7⟩ := open_treeB m cs' _ h3
      obtain ⟨_, hl2, hcell⟩ := World.cells?_some h2
      refine ⟨(t, p, c), fun j => ?_, h5, h6, by simpa [hel, hi] using h7⟩
      by_cases hj : j < 6
      · left
        have := hcell j hj
        simpa using this
      · right; omega
    obtain ⟨q, hq⟩ := choose_lt each
    refine ⟨(List.range len1).map fun i => (q i).1, some a, cap1, by simp, by simpa using hlc, ?_, ?_, ?_⟩
    · by_cases h0 : len1 = 0
      · left; subst h0; rfl
      · right
        obtain ⟨xb, xo, spot⟩ := a
        have hc0 := (hq 0 (by omega)).1 0
        have hspot : spot = none := by
          rcases hc0 with hc | hc
          · simpa [Addr.add] using World.cell?_spot hc
          · omega
        subst hspot
        refine ⟨xb, xo, rfl, RowT.mk fun k hk => ?_⟩
        have hk' : k < len1 := by simpa using hk
        obtain ⟨hc, ht, -⟩ := hq k hk'
        refine ⟨(q k).2.1, (q k).2.2, ?_, by simpa using ht⟩
        have c : ∀ j, j < 6 → W.cell? ⟨xb, xo + k * 6 + j, none⟩ = ([Value.int .i64 (q k).1.kind, .string (q k).1.name, .string (q k).1.num, .int .u64 (q k).1.bits, .int .i64 (q k).1.var, .slice (q k).2.1 (q k).1.args.length (q k).2.2] : List Value)[j]? := fun j hj => by
          rcases hc j with h | h
          · rw [← h, Addr.add_lit, Addr.add_lit]
          · omega
        have e : ((List.range len1).map fun i => (q i).1)[k] = (q k).1 := by simp
        rw [e]
        exact ⟨(c 0 (by omega)).trans rfl, (c 1 (by omega)).trans rfl, (c 2 (by omega)).trans rfl, (c 3 (by omega)).trans rfl, (c 4 (by omega)).trans rfl, (c 5 (by omega)).trans rfl⟩
    · refine AllR.mk fun k hk => ?_
      have hk' : k < len1 := by simpa using hk
      simpa using (hq k hk').2.2.1
    · have h8 : nodesL ((List.range len1).map fun i => (q i).1) ≤ Rows.uptoBulkAll (elems.map (·.1)) := by
        refine nodesL_bulk _ _ (by simp [hel]) fun k hk hk2 => ?_
        have hk' : k < len1 := by simpa using hk
        have h9 := (hq k hk').2.2.2
        have hke : k < elems.length := by omega
        simpa [hke] using h9
      simp only [Rows.uptoBulk]
      omega
theorem bulk_first {d : DataW H} {l : List (DataW H)} : Rows.uptoBulk d ≤ Rows.uptoBulkAll (d :: l) := by
  simp only [Rows.uptoBulkAll]
  omega
end
end Go.Proofs.YtkapejcbmonfkaaGreatDoor

namespace Go.Proofs.YtkapejcbmonfkaaGreatDoor
open Go.ChangeShapes Go.WideShapes Go.ChangeAt Go.RowKit Go.Joins Go.ChangeMaps

theorem vars_params : ∀ t ∈ Tryz.f4.params.toList, Tryz.prog.readableRec t = true ∧ t < Tryz.prog.types.size := by
  intro t ht
  rw [Tryz.params4] at ht
  simp at ht
  subst ht; exact readsL

set_option maxRecDepth 100000 in
theorem vars_contract (H : Type) (enc : TypeId × Value → H) (W : World) (base : Nat) (args : Array Value) (ds gs : List (DataW H)) (before : List MemPlace)
    (hval : ∀ (j : Nat) t v, Tryz.f4.params[j]? = some t → args[j]? = some v → Value.okWide Tryz.prog W .any base t v)
    (hW : DataW.Whole enc Tryz.prog Tryz.f4.params.toList Rows.termVarsSpec.vars false W args.toList ds gs before) (hL : laidMet Tryz.prog theLaid W) (hk : Rows.uptoBulkAll (ds ++ gs) ≤ 1048576) :
    Calls Tryz.prog 4 args W fun e W' => ∃ v, e = .returned v ∧ Rows.termVarsSpec.post enc Tryz.prog Tryz.f4 false true false false W args v W' := by
  have hU := laid_facts hL
  have hW' := hW
  obtain ⟨p, q, hA0, hV, rfl, hfz, hnd⟩ := hW
  have hA : DataW.TrodAll enc Tryz.prog W 0 (fun _ => true) true Tryz.f4.params.toList args.toList ds p := hA0
  rw [Tryz.params4] at hA hval
  obtain ⟨v0, vs0, d0, ds0, p0, q0', hargs, rfl, rfl, h0, r0⟩ := trodAll_cons hA
  obtain ⟨rfl, rfl, rfl⟩ := trodAll_nil r0
  obtain rfl : args = #[v0] := by cases args; simp_all
  obtain ⟨t0, q0, c0, rfl, lc0, hT0, hD0, k0⟩ := open_listB (hval 0 23 v0 rfl rfl) h0
  have l0 : nodesL t0 ≤ 1048576 := Nat.le_trans k0 (Nat.le_trans (bulk_first (l := gs)) (show Rows.uptoBulkAll (d0 :: gs) ≤ 1048576 from hk))
  refine (vars_yes t0 q0 c0 W hU hT0 hD0 l0 lc0).mono fun e W' ⟨he, hb⟩ => ⟨_, he, ?_⟩
  exact law_post vars_params rfl rfl rfl rfl rfl hW' hb

/-- The world of the witness. -/
noncomputable def varsWorld (os : Os) : World := World.laidAll Tryz.prog os Rows.termVarsUptoRow.laid
noncomputable def varsArgs : Array Value := #[.slice none 0 0]
set_option maxRecDepth 100000 in
theorem vars_laid (os : Os) : laidMet Tryz.prog Rows.termVarsUptoRow.laid ((varsWorld os).forCall (fun _ _ => 0) ⟨#[], varsArgs, []⟩).memory :=
  laidMet_laidAll _ (by kernel_rfl) (by kernel_rfl)
set_option maxRecDepth 100000 in
theorem vars_reads (os : Os) {H : Type} (enc : TypeId × Value → H) : ∃ places, DataW.whole enc Tryz.prog ((varsWorld os).forCall (fun _ _ => 0) ⟨#[], varsArgs, []⟩).memory Tryz.f4.params.toList Rows.termVarsSpec.vars false varsArgs.toList 8 =
    some ([.nil], [], places) :=
  ⟨[], by kernel_rfl⟩

set_option maxRecDepth 100000 in
theorem vars_lifted (os : Os) (started : os.Started) (H : Type) (enc : TypeId × Value → H) (F : Stop.Interp) :
    ReturnsInHanded {} Tryz.checked os 4 .any ((Rows.OpenSpec.upto Rows.termVarsSpec).preRow enc Tryz.prog Tryz.f4 Rows.termVarsUptoRow.domain false Rows.termVarsUptoRow.laid) (((Rows.OpenSpec.upto Rows.termVarsSpec).at F).post enc Tryz.prog Tryz.f4 false true false false) := by
  obtain ⟨places, hx⟩ := vars_reads os enc
  refine returnsInHanded_of_row (C := Tryz.checked) (s := Rows.OpenSpec.upto Rows.termVarsSpec) own started (by kernel_rfl) Tryz.func4
    (witness_row_atRef (enc := enc) (C := Tryz.checked) false (varsWorld os) varsArgs (World.laidAll_os _ _ _) (by kernel_rfl) (by kernel_rfl) (by kernel_rfl)
      (OpenSpec.preRow_of_cond 8 hx (by kernel_rfl) (fun k hk => by cases hk; kernel_rfl) (by kernel_rfl) (vars_laid os))) ?_
  intro W base args ds gs before hval hW _ hcond _ hL _ _
  exact vars_contract H enc W base args ds gs before hval hW hL (of_decide_eq_true (hcond _ rfl))

set_option maxRecDepth 100000 in
theorem vars_said : Rows.TermVarsUptoSaid :=
  OpenClaim.holds_of_cond 4 Tryz.f4 rfl rfl rfl rfl rfl rfl rfl ⟨rfl, rfl, rfl, rfl, rfl⟩ rfl rfl rfl rfl rfl (by kernel_rfl) Tryz.func4 (by kernel_rfl)
    (of_decide_eq_true (by kernel_rfl)) (by unfold Func.isWrapper; first | (rw [if_pos (by decide +kernel)]; kernel_rfl) | (rw [if_neg (by decide +kernel)]; exact ⟨rfl, rfl⟩))
    (fun os started H enc _ F => by rw [OpenClaim.pre_eq_preRow]; exact vars_lifted os started H enc F)

set_option maxRecDepth 100000 in
theorem vars_plain (f : FuncId) (fn : Func) (hf : Tryz.pinned.checked.prog.funcNamed "hornbeam/hornbeamlaw02.TermVars" = some f) (hfn : Tryz.pinned.checked.prog.funcs[f]? = some fn) :
    false = Tryz.pinned.checked.prog.looks [] ∧ ∀ (j : Nat) t, fn.params[j]? = some t → Tryz.pinned.checked.prog.wantsStandIn t = false := by
  obtain rfl : f = 4 := Option.some.inj ((show Tryz.prog.funcNamed "hornbeam/hornbeamlaw02.TermVars" = some 4 by kernel_rfl).symm.trans hf) |>.symm
  obtain rfl : fn = Tryz.f4 := (Option.some.inj (Tryz.func4.symm.trans hfn)).symm
  refine ⟨by kernel_rfl, fun j t ht => ?_⟩
  rw [Tryz.params4] at ht
  have hm := Array.mem_of_getElem? ht
  simp at hm
  subst hm
  exact (show Tryz.prog.wantsStandIn 23 = false by kernel_rfl)

set_option maxRecDepth 100000 in
theorem vars_card : Rows.TermVarsUptoCardSaid :=
  Claim7.holds_tied_plain_at .later [] _ _ _ _ vars_said (fun _ h => by cases h) (by kernel_rfl) (fun _ h => by cases h) termVarsUpto_row_tie rfl ⟨rfl, rfl⟩ (by kernel_rfl) rfl vars_plain (by kernel_rfl)
end Go.Proofs.YtkapejcbmonfkaaGreatDoor
