/- What Match tells, in the order of its variables: plain; a look into a map of terms. No condition but those that each theorem names. Lists of binds whose terms their owner may write over: plain. No condition but those that each theorem names. Walk: Match of two terms that may be. No condition but those that each theorem names. Walk: Match where a term may not be; in one form. No condition but those that each theorem names. -/
import Derived.Test.YtkapejcbmonfkaaGreatDoorT110m
import Derived.Test.YtkapejcbmonfkaaGreatDoorT105m
import Derived.Test.YtkapejcbmonfkaaGreatDoorT87m
import Derived.Test.YtkapejcbmonfkaaGreatDoorT101pm
namespace Go.Proofs.YtkapejcbmonfkaaGreatDoor
open Go.RowKit Go.Maps

theorem rising_ext : ∀ {a b : List Int}, (a.Pairwise fun x y => x < y) → (b.Pairwise fun x y => x < y) → (∀ x, x ∈ a ↔ x ∈ b) → a = b
  | [], [], _, _, _ => rfl
  | [], y :: b, _, _, h => by have := (h y).2 (by simp); simp at this
  | x :: a, [], _, _, h => by have := (h x).1 (by simp); simp at this
  | x :: a, y :: b, ha, hb, h => by
    rw [List.pairwise_cons] at ha hb
    have hxy : x = y := by
      rcases List.mem_cons.1 ((h x).1 (by simp)) with e | e
      · exact e
      · rcases List.mem_cons.1 ((h y).2 (by simp)) with e2 | e2
        · exact e2.symm
        · have h1 := hb.1 x e; have h2 := ha.1 y e2; omega
    subst hxy
    congr 1
    refine rising_ext ha.2 hb.2 fun z => ?_
    constructor
    · intro hz
      rcases List.mem_cons.1 ((h z).1 (List.mem_cons_of_mem _ hz)) with e | e
      · have := ha.1 z hz; omega
      · exact e
    · intro hz
      rcases List.mem_cons.1 ((h z).2 (List.mem_cons_of_mem _ hz)) with e | e
      · have := hb.1 z hz; omega
      · exact e
theorem Rises.keys {l : List Bnd} (h : Rises l) : (l.map (·.1)).Pairwise fun x y => x < y := by
  rw [List.pairwise_map]
  exact h
theorem Rises.look {l : List Bnd} (h : Rises l) (k : Nat) (hk : k < l.length) : lookB l l[k].1 = some l[k].2 := by
  induction l generalizing k with
  | nil => simp at hk
  | cons y l ih =>
    unfold Rises at h
    rw [List.pairwise_cons] at h
    cases k with
    | zero => simp [lookB]
    | succ k =>
      have hk' : k < l.length := by simpa using hk
      have h1 := h.1 l[k] (List.getElem_mem hk')
      simp only [List.getElem_cons_succ]
      unfold lookB
      rw [if_neg (by omega)]
      exact ih h.2 k hk'
theorem lookB_mem {l : List Bnd} {v : Int} : (lookB l v).isSome = true ↔ v ∈ l.map (·.1) := by
  induction l with
  | nil => simp [lookB]
  | cons y l ih =>
    unfold lookB
    by_cases h : y.1 = v
    · rw [if_pos h]; simp [h]
    · rw [if_neg h, ih]
      simp only [List.map_cons, List.mem_cons]
      constructor
      · exact .inr
      · rintro (e | e)
        · exact absurd e.symm h
        · exact e
def WfB (l : List Bnd) : Prop := ∀ x ∈ l, (Lit.int .i64 x.1).wf = true
mutual
theorem matT_wf : ∀ (t u : Tm) (S S' : List Bnd), AllT VarOk t → WfB S → matT t u S = some S' → WfB S'
  | .mk k n u b v l, t, S, S', ht, h, e => by
    rw [matT] at e
    split at e
    · split at e
      · split at e
        · obtain rfl := Option.some.inj e; exact h
        · cases e
      · obtain rfl := Option.some.inj e
        intro x hx
        rcases insB_mem S _ x hx with rfl | hx
        · exact ht.head
        · exact h x hx
    · split at e
      · exact matL_wf l t.args S S' (by unfold AllT at ht; exact ht.2) h e
      · cases e
theorem matL_wf : ∀ (l m : List Tm) (S S' : List Bnd), AllR VarOk l → WfB S → matL l m S = some S' → WfB S'
  | [], _, S, S', _, h, e => by rw [matL] at e; obtain rfl := Option.some.inj e; exact h
  | _ :: _, [], S, S', _, h, e => by rw [matL] at e; cases e
  | t :: l, u :: m, S, S', hl, h, e => by
    unfold AllR at hl
    rw [matL] at e
    split at e
    · cases e
    · rename_i S2 h2
      exact matL_wf l m S2 S' hl.2 (matT_wf t u S S2 hl.1 h h2) e
end
/-- A map that tells what some rising binds say has their variables as its keys, in their order. -/
theorem keys_eq {w : World} {l : List Bnd} {F : Ft} {xs : List Int} (hF : FitM w l F) (hr : Rises l) (hw : WfB l) (hA : AllKeys F xs) (hx : xs.Pairwise fun x y => x < y) : xs = l.map (·.1) := by
  have hs : ∀ v, (F v).isSome = (lookB l v).isSome := fun v => by
    have h := hF v
    cases e : lookB l v with
    | none => rw [e] at h; rw [show F v = none from h]; rfl
    | some u => rw [e] at h; obtain ⟨_, p, c, h2, _⟩ := h; rw [h2]; rfl
  refine rising_ext hx hr.keys fun x => ?_
  constructor
  · intro h
    have h1 := (hA.mem x (hA.wf x h)).1 h
    rw [hs] at h1
    exact lookB_mem.1 h1
  · intro h
    have h1 := lookB_mem.2 h
    obtain ⟨y, hy, rfl⟩ := List.mem_map.1 h
    rw [← hs] at h1
    exact (hA.mem _ (hw y hy)).2 h1
theorem TrmM.look1_run {w : World} {b n : Nat} {F : Ft} (h : TrmM w b n F) {m : Int} (hm : (Lit.int .i64 m).wf = true) {x : RawT} (hx : F m = some x) :
    (Instr.lookup 106 (.map (some b)) (.int .i64 m) false).run Tryz.prog w = .ok x.val w := by
  obtain ⟨D, ⟨es, clock, hb, hF, _, rfl⟩, _, h3⟩ := h
  have hk : keyOf Tryz.prog 3 (.int .i64 m) = some (.int .i64 m) := keyOf_int_mk Tryz.underlying3 hm
  have hat := h3 m hm
  rcases Maps.fit_look false intKey Tryz.underlying106 (zeroTrm w) hb hF hk with ⟨hrun, _, hz⟩ | ⟨e0, y, _, _, hrun, hR, hy, _⟩
  · have h4 := hat (.lit (.bool true))
    rw [hz, hx] at h4
    cases h4
  · obtain ⟨z, hz, rfl⟩ := RrawT_inv hR
    have h4 := hat (.lit (.bool true))
    rw [hy, hx] at h4
    obtain rfl := rawT_inj h4
    rw [hz] at hrun
    exact hrun
theorem wpList_trm1 (w : World) {ops : Array Oper} {rest : List Oper} {o : Oper} {a : Act} {Q : Exit → Act → World → Prop}
    (hg : o.guard = .none) (m x : Operand) (hop : o.op = Op.lookup 106 m x false)
    (h : ∃ (b n : Nat) (F : Ft) (k : Int) (y : RawT), a.eval m = .map (some b) ∧ TrmM w b n F ∧ (Lit.int .i64 k).wf = true ∧ a.eval x = .int .i64 k ∧ F k = some y ∧
      wpList Tryz.prog ops Q rest (a.put o.dst y.val) w) : wpList Tryz.prog ops Q (o :: rest) a w := by
  obtain ⟨b, n, F, k, y, hm, hT, hk, hx, hy, hK⟩ := h
  refine wpList_plain hg fun K' hK' => ?_
  unfold Oper.wp
  simp [execOp, hop, hm, hx, hT.look1_run hk hy, Result.andThen]
  exact hK' _ _ hK
end Go.Proofs.YtkapejcbmonfkaaGreatDoor

namespace Go.Proofs.YtkapejcbmonfkaaGreatDoor
open Go.RowKit

/-- A list of binds, its terms in memory of their own, from a block on. -/
structure BindM (w : World) (B : Nat) (q : Option Addr) (n c : Nat) (L : RowB) (S : List Nat) : Prop where
  row : w.ownsRow B 47 7 (.slice q n c) n (flatB L)
  own : MineS w (L.map (·.2)) S
  far : ∀ k, (Value.slice q n c).ownBlock = some k → k ∉ S
  low : ∀ k ∈ S, B ≤ k
theorem BindM.length {w : World} {B : Nat} {q : Option Addr} {n c : Nat} {L : RowB} {S : List Nat} (h : BindM w B q n c L S) : L.length = n := by
  have h1 := h.row.1
  rw [flatB_length] at h1
  omega
theorem BindM.nil (w : World) (B : Nat) : BindM w B none 0 0 [] [] :=
  ⟨World.ownsRow_nil _ _ _ _, rfl, fun k h => by simp [Value.ownBlock] at h, fun k hk => by cases hk⟩
theorem BindM.same {w w' : World} {B : Nat} {q : Option Addr} {n c : Nat} {L : RowB} {S : List Nat} (h : BindM w B q n c L S) (hb : ∀ k, B ≤ k → k < w.heap.size → w'.heap[k]? = w.heap[k]?) : BindM w' B q n c L S := by
  refine ⟨⟨h.row.1, ?_⟩, h.own.same fun k hk => hb k (h.low k hk) (h.own.lt k hk), h.far, h.low⟩
  rcases h.row.2 with h1 | ⟨g, cap, cur, e, h1, h2, h3⟩
  · exact .inl h1
  · exact .inr ⟨g, cap, cur, e, h1, (hb g h1 (lt_of_block h2)).trans h2, h3⟩
/-- Behind an append of one. -/
theorem BindM.snoc {w w' : World} {B : Nat} {q : Option Addr} {n c g c' : Nat} {L : RowB} {S S1 : List Nat} {x : Int × Tm × Option Addr × Nat} (h : BindM w B q n c L S) (hx : MineT w x.2.1 x.2.2.1 x.2.2.2 S1)
    (hd : ∀ k ∈ S, k ∉ S1) (hv : ∀ k, (Value.slice q n c).ownBlock = some k → k ∉ S1) (hl : ∀ k ∈ S1, B ≤ k)
    (hr : w'.ownsRow B 47 7 (.slice (some ⟨g, 0, none⟩) (n + 1) c') (n + 1) (flatB L ++ cellsB x)) (hg : w.grownBy w' (Value.slice q n c).ownBlock) (hat : (Value.slice q n c).ownBlock = some g ∨ w.heap.size ≤ g) :
    BindM w' B (some ⟨g, 0, none⟩) (n + 1) c' (L ++ [x]) (S ++ S1) := by
  have hf : flatB (L ++ [x]) = flatB L ++ cellsB x := by unfold flatB; rw [List.flatMap_append]; simp
  have e : ∀ k, k ∈ S ∨ k ∈ S1 → w'.heap[k]? = w.heap[k]? := fun k hk => by
    refine hg.block k ?_ fun e => ?_
    · rcases hk with hk | hk
      · exact h.own.lt k hk
      · exact hx.lt k hk
    · rcases hk with hk | hk
      · exact h.far k e.symm hk
      · exact hv k e.symm hk
  refine ⟨by rw [hf]; exact hr, by rw [List.map_append]; exact (h.own.same fun k hk => e k (.inl hk)).snoc (x := x.2) (hx.same fun k hk => e k (.inr hk)) hd, fun k hk hk2 => ?_, fun k hk => ?_⟩
  · have hk : g = k := by simpa [Value.ownBlock] using hk
    subst hk
    rcases List.mem_append.1 hk2 with h2 | h2
    · rcases hat with h1 | h1
      · exact h.far _ h1 h2
      · have := h.own.lt _ h2; omega
    · rcases hat with h1 | h1
      · exact hv _ h1 h2
      · have := hx.lt _ h2; omega
  · rcases List.mem_append.1 hk with h2 | h2
    · exact h.low k h2
    · exact hl k h2
/-- As binds that lie somewhere. -/
theorem BindM.at_ {w : World} {B : Nat} {q : Option Addr} {n c : Nat} {L : RowB} {S : List Nat} (h : BindM w B q n c L S) : BindAt w (L.map fun x => (x.1, x.2.1)) q := fun k hk => by
  have hk' : k < L.length := by simpa using hk
  rcases h.row.2 with ⟨h1, h2⟩ | ⟨g, cap, cur, e, h1, h2, h3, h4, h5, h6⟩
  · have := h.length
    simp only [Value.slice.injEq] at h1
    omega
  · simp only [Value.slice.injEq] at e
    obtain ⟨rfl, -, rfl⟩ := e
    have hn := h.length
    have c0 : ∀ j, j < 7 → w.cell? ⟨g, 0 + k * 7 + j, none⟩ = (cellsB L[k])[j]? := fun j hj => by
      rw [cells_of h2, Nat.zero_add, ← flatB_get L k hk' j hj, ← h6, List.getElem?_take, if_pos (by omega)]
      simp
    obtain ⟨S1, hw, _⟩ := h.own.get k (by simpa using hk')
    rw [List.getElem_map] at hw
    rw [List.getElem_map]
    exact ⟨g, 0, rfl, L[k].2.2.1, L[k].2.2.2, (c0 0 (by omega)).trans rfl, ⟨(c0 1 (by omega)).trans rfl, (c0 2 (by omega)).trans rfl, (c0 3 (by omega)).trans rfl, (c0 4 (by omega)).trans rfl, (c0 5 (by omega)).trans rfl, (c0 6 (by omega)).trans rfl⟩, hw.at_⟩
end Go.Proofs.YtkapejcbmonfkaaGreatDoor

namespace Go.Proofs.YtkapejcbmonfkaaGreatDoor
open Go.RowKit

theorem BindM.base {w : World} {B B' : Nat} {q : Option Addr} {n c : Nat} {L : RowB} {S : List Nat} (h : BindM w B q n c L S) (hb : B' ≤ B) : BindM w B' q n c L S := by
  refine ⟨⟨h.row.1, ?_⟩, h.own, h.far, fun k hk => Nat.le_trans hb (h.low k hk)⟩
  rcases h.row.2 with h1 | ⟨g, cap, cur, e, h1, h2⟩
  · exact .inl h1
  · exact .inr ⟨g, cap, cur, e, Nat.le_trans hb h1, h2⟩
set_option maxRecDepth 100000 in
set_option maxHeartbeats 16000000 in
theorem matchM_good (t u : Tm) (p q : Option Addr) (cp cq : Nat) (w : World) (hT : TmAt w t p) (hU : TmAt w u q) (vt : Valid t) (vu : Valid u) (hX : Utf w) :
    Calls Tryz.prog 37 #[t.val p cp, u.val q cq] w fun e w' => ∃ q2 n2 c2 L S, e = .returned (.tuple #[.slice q2 n2 c2, .bool (matT t u []).isSome, .int .i64 0]) ∧ BindM w' w.heap.size q2 n2 c2 L S ∧ L.map (fun x => (x.1, x.2.1)) = (matT t u []).getD [] ∧ Below w.heap.size w w' := by
  obtain ⟨W0, hW0⟩ : ∃ W0, W0 = ((w.alloc (tobj t p cp)).alloc (tobj u q cq)).alloc (pobj t u p q cp cq) := ⟨_, rfl⟩
  have hB := hid (show Below w.heap.size w W0 by rw [hW0]; exact (((Below.refl w.heap.size w).alloc (Nat.le_refl _) _).alloc (by simp) _).alloc (by simp; omega) _)
  have HS3 := hid (show W0.heap[w.heap.size + 1 + 1]? = some (pobj t u p q cp cq) by rw [hW0]; have h := heap_alloc_new ((w.alloc (tobj t p cp)).alloc (tobj u q cq)) (pobj t u p q cp cq); rw [World.size_alloc, World.size_alloc] at h; exact h)
  have HS2 := hid (show W0.heap[w.heap.size + 1]? = some (tobj u q cq) by rw [hW0]; have h := heap_alloc_new (w.alloc (tobj t p cp)) (tobj u q cq); rw [World.size_alloc] at h; exact (heap_alloc_old _ _ (by simp)).trans h)
  have HS1 := hid (show W0.heap[w.heap.size]? = some (tobj t p cp) by rw [hW0]; exact (heap_alloc_old _ _ (by simp; omega)).trans ((heap_alloc_old (w.alloc (tobj t p cp)) _ (by simp)).trans (heap_alloc_new w _)))
  have CK := checks_any vName numOk bitsOk DomA [t, u] (some ⟨w.heap.size + 1 + 1, 0, none⟩) 2 W0 (by unfold maxLen; simp) (.inr ⟨_, _, rfl, row_two HS3.out (hT.keep hB.out) (hU.keep hB.out)⟩) (oracleA _ (hX.keep hB.out)) (by unfold AllR AllR AllR; exact ⟨vt.1, vu.1, trivial⟩)
  rw [show checksErr vName numOk bitsOk [t, u] = 0 by unfold checksErr checksErr checksErr; rw [vt.2, vu.2]; rfl] at CK
  have HC := hid (show Calls Tryz.prog 46 #[.slice (some ⟨w.heap.size + 1 + 1, 0, none⟩) 2 2] W0 fun e w' => e = .returned (.int .i64 0) ∧ Below W0.heap.size W0 w' from CK)
  have h4t : nodes t ≤ 4000 := by
    have h := vt.2
    unfold checkErr at h
    split at h
    · cases h
    · omega
  have CM := hid (fun (W : World) (bf bm : Nat) (hw : Below w.heap.size w W) (h1 : w.heap.size ≤ bm) (h2 : w.heap.size ≤ bf) (hm : MatSt W bf bm 0 (fun _ => none)) => matchP_any w bf bm h1 h2 (nodes t) t u p q cp cq [] (fun _ => none) 0 W (Nat.le_refl _) hT hU vt.good vu.good hw hm (fun v => rfl) (by unfold maxLen; omega))
  have hmm := @run_makeMap Tryz.prog
  have HVO := hid (show ∀ l', matT t u [] = some l' → Rises l' ∧ WfB l' from fun l' h => ⟨matT_rises t u [] l' List.Pairwise.nil h, matT_wf t u [] l' (AllR.get (AllR.varOk (l := [t]) (by unfold AllR AllR; exact ⟨vt.1, trivial⟩)) 0 (by simp)) (fun x hx => by cases hx) h⟩)
  obtain ⟨x0, x1, x2, x3, x4, x5⟩ := six_of HS1.out
  obtain ⟨y0, y1, y2, y3, y4, y5⟩ := six_of HS2.out
  unfold tobj pobj at hW0
  unfold Tm.val at CM ⊢
  clear CK HS3 hT hU vt vu hX
  go_enter Tryz.func37, Tryz.ntmps37
  go_upto_region 5 with (first
    | (go_at_call 46; rw [← hW0]; (with_reducible refine HC.out.mono ?_); rintro e w1 ⟨rfl, hb1⟩; have P1 := hid (obj_keep HS1.out hb1); have P2 := hid (obj_keep HS2.out hb1); have B1 := hid (hB.out.trans (hb1.mono hB.out.size)); clear hb1 HC hW0 x0 x1 x2 x3 x4 x5 y0 y1 y2 y3 y4 y5 HS1 HS2)
    | fail)
  obtain ⟨W4, hW4⟩ : ∃ W4, W4 = (w1.alloc (.map #[] 0)).alloc (.cells #[.map (some w1.heap.size)] 106) := ⟨_, rfl⟩
  rw [← hW4]
  have b14 : Below w1.heap.size w1 W4 := by rw [hW4]; exact ((Below.refl _ _).alloc (Nat.le_refl _) _).alloc (by simp) _
  have g4 : W4.heap[w1.heap.size + 1]? = some (.cells #[.map (some w1.heap.size)] 106 (0, 0)) := by
    rw [hW4]
    have h := World.alloc_heap_new (w1.alloc (.map #[] 0)) (.cells #[.map (some w1.heap.size)] 106)
    rwa [World.size_alloc] at h
  have m4 : TrmM W4 w1.heap.size 0 (fun _ => none) := by
    rw [hW4]
    exact (TrmM.made w1).keep ((Below.refl _ _).alloc (Nat.le_refl _) _)
  have M4 := hid (⟨(cells_of g4 0).trans rfl, m4⟩ : MatSt W4 (w1.heap.size + 1) w1.heap.size 0 (fun _ => none))
  have B4 := hid (show Below w.heap.size w W4 from B1.out.trans (b14.mono B1.out.size))
  have P14 := hid (obj_keep P1.out b14)
  have P24 := hid (obj_keep P2.out b14)
  have hlo := B1.out.size
  have HO := hid (CM.out W4 (w1.heap.size + 1) w1.heap.size B4.out (by omega) (by omega) M4.out)
  obtain ⟨bm, hbm⟩ : ∃ bm, bm = w1.heap.size := ⟨_, rfl⟩
  obtain ⟨bf, hbf⟩ : ∃ bf, bf = w1.heap.size + 1 := ⟨_, rfl⟩
  have hmw : w.heap.size ≤ bm := by omega
  rw [← hbf] at HO ⊢
  rw [← hbm] at HO
  clear g4 m4 M4 b14 hW4 P1 P2 CM B1 hlo hbm hbf hmm
  obtain ⟨x0, x1, x2, x3, x4, x5⟩ := six_of P14.out
  obtain ⟨y0, y1, y2, y3, y4, y5⟩ := six_of P24.out
  cases hM : matT t u [] with
  | none =>
    have HMM := hid hM
    rw [hM] at HO
    simp only [Option.isSome] at HO
    clear hM HVO
    go_wp2_with (first
      | (go_at_call 82; (with_reducible refine HO.out.mono ?_); rintro e w5 ⟨rfl, -, hc5⟩; have B5 := hid (show Below w.heap.size w w5 from Chg.low B4.out hc5 (fun x hx => by simp at hx; omega)); clear hc5 HO)
      | fail)
    go_ret3
    exact ⟨none, 0, 0, [], [], by rw [HMM.out]; rfl, BindM.nil _ _, by rw [HMM.out]; rfl, B5.out⟩
  | some l =>
    have HMM := hid hM
    rw [hM] at HO
    simp only [Option.isSome] at HO
    obtain ⟨hri, hwf⟩ := HVO.out l hM
    have HRI := hid hri
    have HWF := hid hwf
    clear hM HVO hri hwf
    go_upto_region 9 with (first
      | (go_at_call 82; (with_reducible refine HO.out.mono ?_); rintro e w5 ⟨rfl, hs5, hc5⟩; have S5 := hid hs5; have B5 := hid (show Below w.heap.size w w5 from Chg.low B4.out hc5 (fun x hx => by simp at hx; omega)); clear hs5 hc5 HO)
      | fail)
    clear x0 x1 x2 x3 x4 x5 y0 y1 y2 y3 y4 y5 P14 P24
    obtain ⟨F, n, hms, hfm, hnn⟩ := S5.out l rfl
    have MS := hid hms
    have FM := hid hfm
    have d0 := hms.box
    obtain ⟨W6, hW6⟩ : ∃ W6, W6 = w5.alloc (.cells #[.map (some bm)] 106) := ⟨_, rfl⟩
    have b56 : Below w5.heap.size w5 W6 := by rw [hW6]; exact (Below.refl _ _).alloc (Nat.le_refl _) _
    have g6 : W6.heap[w5.heap.size]? = some (.cells #[.map (some bm)] 106 (0, 0)) := by rw [hW6]; exact World.alloc_heap_new w5 _
    have CSO := hid (sortedI_any bm n (by omega) F w5.heap.size W6 (lt_of_block g6) ((cells_of g6 0).trans rfl) (hms.map.keep b56))
    have MS6 := hid (⟨heap_cell_keep b56 hms.box, hms.map.keep b56⟩ : MatSt W6 bf bm n F)
    have B6 := hid (show Below w.heap.size w W6 from B5.out.trans (b56.mono B5.out.size))
    have HKF := hid (keysFn_any (some bm) w5)
    rw [← hW6] at HKF
    clear hms hfm b56 g6 S5 hW6 MS
    go_upto_region 10 with (first
      | (go_at_call 85; (with_reducible refine HKF.out.mono ?_); rintro e wk ⟨rfl, rfl⟩; clear HKF)
      | (go_at_call 84; (with_reducible refine CSO.out.mono ?_); rintro e w7 ⟨qk, ck, xs, rfl, hA, hxs, hxn, ho, hb7⟩; have HA := hid (keys_eq FM.out HRI.out HWF.out hA hxs); have HO7 := hid ho; have MS7 := hid (⟨heap_cell_keep hb7 MS6.out.box, MS6.out.map.keep hb7⟩ : MatSt w7 bf bm n F); have B7 := hid (show Below w.heap.size w w7 from B6.out.trans (hb7.mono B6.out.size)); clear hA hxs ho hb7 CSO)
      | fail)
    have hxl : xs.length ≤ 4000 := by omega
    have HXL := hid (show l.length = xs.length by rw [HA.out, List.length_map])
    have hxl' : (xs.length : Int) ≤ 4000 := by omega
    go_loopw [10, 31] (fun s i wr => ∃ (k : Nat) (L : RowB) (S : List Nat) (q : Option Addr) (c : Nat), k ≤ xs.length ∧ s = .slice q k c ∧ i = .int .i64 (k : Int) ∧ Hid (BindM wr w7.heap.size q k c L S) ∧ Hid (L.map (fun x => (x.1, x.2.1)) = l.take k) ∧ Hid (Below w7.heap.size w7 wr)) (fun _ i _ => xs.length - (intOf i).toNat)
    case atStart => exact ⟨0, [], [], none, 0, by omega, rfl, rfl, hid (BindM.nil _ _), hid (by simp), hid (Below.refl _ _)⟩
    case round =>
      obtain ⟨k, L, S, q, c, hk, rfl, rfl, BL, HLM, hBr⟩ := hrel
      by_cases hlk : k < xs.length
      · have hk0 : (0 : Int) ≤ (k : Int) := by omega
        have hk1 : (k : Int) < (xs.length : Int) := by omega
        have hll : k < l.length := by rw [HXL.out]; exact hlk
        have hxk : xs[k] = l[k].1 := by simp only [HA.out, List.getElem_map]
        obtain ⟨g0, rfl, hv1⟩ := rowI_get HO7.out rfl k hlk
        rw [hxk] at hv1
        have y0 := heap_cell_keep hBr.out hv1
        have hwk := HWF.out l[k] (List.getElem_mem hll)
        have hfk := FM.out l[k].1
        rw [HRI.out.look k hll] at hfk
        obtain ⟨gk, pk, ck2, hFk, htk⟩ := hfk
        have HTK := hid (show l.take (k + 1) = l.take k ++ [(l[k].1, l[k].2)] from (List.take_append_getElem hll).symm)
        have BWR := hid (show Below w.heap.size w wr from B7.out.trans (hBr.out.mono B7.out.size))
        have MR := hid (MS7.out.map.keep hBr.out)
        have d0 := heap_cell_keep hBr.out MS7.out.box
        have HCP := hid (copyOf_any l[k].2 pk ck2 wr (htk.keep BWR.out) gk.cp)
        have HF := hid hFk
        have hwk2 := hwk
        unfold rawT at HF
        clear hv1 hxk hFk htk gk
        generalize l[k].1 = bv at *
        generalize l[k].2 = t1 at *
        unfold Tm.val at HCP
        obtain ⟨i0, hi, hz0, hz1, hz2⟩ := info_parts infoBnd
        have HI := hid (And.intro hi (And.intro hz0 (And.intro hz1 hz2)))
        have HSZ := hid (And.intro hBr.out.size B7.out.size)
        clear hi hz0 hz1 hz2
        go_wp2_with (first
          | (at_lookup; refine wpList_trm1 _ rfl _ _ rfl ?_; refine ⟨bm, n, F, bv, _, rfl, MR.out, hwk2, rfl, HF.out, ?_⟩; unfold RawT.val; simp only [])
          | (go_at_call 68; (with_reducible refine HCP.out.mono ?_); rintro e w8 ⟨q2, c2, S1, rfl, hm8, hS8, hb8⟩; have HM1 := hid hm8; have HS1 := hid hS8; have BR8 := hid hb8; clear hm8 hS8 hb8 HCP)
          | (at_builtin; refine wpList_append_lies _ rfl _ _ 45 rfl w7.heap.size 47 i0 (.agg #[.int .i64 0, .int .i64 0, .string ⟨#[]⟩, .string ⟨#[]⟩, .int .u64 0, .int .i64 0, .slice none 0 0]) 7 88 Tryz.underlying45 HI.out.1 HI.out.2.1 HI.out.2.2.1 HI.out.2.2.2 rfl (by decide) (.slice q k c) k (flatB L) rfl ((BL.out.same (w' := w8) fun x _ hx => BR8.out.block x hx).same (w' := w8.alloc (.cells #[.int .i64 bv, .int .i64 t1.kind, .string t1.name, .string t1.num, .int .u64 t1.bits, .int .i64 t1.var, .slice q2 t1.args.length c2] 47)) fun x _ hx => ((Below.refl w8.heap.size w8).alloc (Nat.le_refl _) _).block x hx).row ⟨w8.heap.size, 0, none⟩ 1 1 (cellsB (bv, t1, q2, c2)) rfl rfl (World.news_of_block (World.alloc_heap_new w8 _)) (cellsBnd_one _) (by decide) (by unfold maxLen; omega) (by omega) (by have := BR8.out.size; have := HSZ.out; simp; omega) _ rfl ?_; intro g c5 w9 hown hgrow hat hlt9; have HOWN := hid hown; have HGR := hid hgrow; have HAT := hid hat; clear hown hgrow hat hlt9)
          | fail)
        have bA := hid (show Below w8.heap.size w8 (w8.alloc (.cells #[.int .i64 bv, .int .i64 t1.kind, .string t1.name, .string t1.num, .int .u64 t1.bits, .int .i64 t1.var, .slice q2 t1.args.length c2] 47)) from (Below.refl w8.heap.size w8).alloc (Nat.le_refl _) _)
        have hsa : (w8.alloc (.cells #[.int .i64 bv, .int .i64 t1.kind, .string t1.name, .string t1.num, .int .u64 t1.bits, .int .i64 t1.var, .slice q2 t1.args.length c2] 47)).heap.size = w8.heap.size + 1 := by simp
        have BLW := hid ((BL.out.same (w' := w8) fun x _ hx => BR8.out.block x hx).same (w' := w8.alloc (.cells #[.int .i64 bv, .int .i64 t1.kind, .string t1.name, .string t1.num, .int .u64 t1.bits, .int .i64 t1.var, .slice q2 t1.args.length c2] 47)) fun x _ hx => bA.out.block x hx)
        have HMW := hid (HM1.out.same (w' := w8.alloc (.cells #[.int .i64 bv, .int .i64 t1.kind, .string t1.name, .string t1.num, .int .u64 t1.bits, .int .i64 t1.var, .slice q2 t1.args.length c2] 47)) fun x hx => bA.out.block x (HM1.out.lt x hx))
        have BL5 := hid (BindM.snoc (x := (bv, t1, q2, c2)) BLW.out HMW.out (fun x hx h1 => by have := HS1.out x h1; have := BL.out.own.lt x hx; omega) (fun x hx h1 => by have := HS1.out x h1; have := ownBlock_lt BL.out.row hx; omega) (fun x hx => by have := HS1.out x hx; have := HSZ.out; omega) HOWN.out HGR.out (HAT.out.imp id (fun h => by omega)))
        have B9 := hid (show Below w7.heap.size w7 w9 from (hBr.out.trans ((BR8.out.trans (bA.out.mono BR8.out.size)).mono hBr.out.size)).grown HGR.out (by have := BR8.out.size; have := HSZ.out; omega) (fun x e => ownBlock_le BLW.out.row e))
        have HM5 := hid (show (L ++ [((bv, t1, q2, c2) : Int × Tm × Option Addr × Nat)]).map (fun x => (x.1, x.2.1)) = l.take (k + 1) by rw [List.map_append, HLM.out, HTK.out]; rfl)
        go_roundw
        case rel => exact ⟨k + 1, L ++ [(bv, t1, q2, c2)], S ++ S1, some ⟨g, 0, none⟩, c5, by omega, rfl, by go_num, BL5, HM5, B9⟩
        case measure => simp [intOf]; omega
      · obtain rfl : k = xs.length := by omega
        have HLE := hid (show L.map (fun x => (x.1, x.2.1)) = l by rw [HLM.out, ← HXL.out, List.take_length])
        clear HLM hlk
        go_wp2_with fail
        go_ret3
        exact ⟨q, xs.length, c, L, S, by rw [HMM.out]; rfl, BL.out.base B7.out.size, by rw [HMM.out]; exact HLE.out, B7.out.trans (hBr.out.mono B7.out.size)⟩
end Go.Proofs.YtkapejcbmonfkaaGreatDoor

namespace Go.Proofs.YtkapejcbmonfkaaGreatDoor
open Go.RowKit

set_option maxRecDepth 100000 in
set_option maxHeartbeats 4000000 in
theorem matchBad_any (t u : Tm) (p q : Option Addr) (cp cq : Nat) (w : World) (hT : TmAt w t p) (hU : TmAt w u q) (dt : AllT DomA t) (du : AllT DomA u) (hX : Utf w) (hE : checksErr vName numOk bitsOk [t, u] ≠ 0) :
    Calls Tryz.prog 37 #[t.val p cp, u.val q cq] w fun e w' => e = .returned (.tuple #[.slice none 0 0, .bool false, .int .i64 (checksErr vName numOk bitsOk [t, u])]) ∧ Below w.heap.size w w' := by
  obtain ⟨W0, hW0⟩ : ∃ W0, W0 = ((w.alloc (tobj t p cp)).alloc (tobj u q cq)).alloc (pobj t u p q cp cq) := ⟨_, rfl⟩
  have hB := hid (show Below w.heap.size w W0 by rw [hW0]; exact (((Below.refl w.heap.size w).alloc (Nat.le_refl _) _).alloc (by simp) _).alloc (by simp; omega) _)
  have HS3 := hid (show W0.heap[w.heap.size + 1 + 1]? = some (pobj t u p q cp cq) by rw [hW0]; have h := heap_alloc_new ((w.alloc (tobj t p cp)).alloc (tobj u q cq)) (pobj t u p q cp cq); rw [World.size_alloc, World.size_alloc] at h; exact h)
  have CK := checks_any vName numOk bitsOk DomA [t, u] (some ⟨w.heap.size + 1 + 1, 0, none⟩) 2 W0 (by unfold maxLen; simp) (.inr ⟨_, _, rfl, row_two HS3.out (hT.keep hB.out) (hU.keep hB.out)⟩) (oracleA _ (hX.keep hB.out)) (by unfold AllR AllR AllR; exact ⟨dt, du, trivial⟩)
  generalize checksErr vName numOk bitsOk [t, u] = z at *
  have HC := hid (show Calls Tryz.prog 46 #[.slice (some ⟨w.heap.size + 1 + 1, 0, none⟩) 2 2] W0 fun e w' => e = .returned (.int .i64 z) ∧ Below W0.heap.size W0 w' from CK)
  have hq : (z == 0) = false := beq_eq_false_iff_ne.2 hE
  have hq2 : (z != 0) = true := by simp [hE]
  unfold tobj pobj at hW0
  unfold Tm.val
  clear CK HS3 hT hU dt du hX hE
  go_enter Tryz.func37, Tryz.ntmps37
  go_wp2_with (go_at_call 46; rw [← hW0]; (with_reducible refine HC.out.mono ?_); rintro e w1 ⟨rfl, hb1⟩; have B1 := hid (hB.out.trans (hb1.mono hB.out.size)); clear hb1 HC)
  go_ret3
  exact ⟨rfl, B1.out⟩
/-- What Match answers of any two terms. -/
def matchA (t u : Tm) : Option (List Bnd) := if checksErr vName numOk bitsOk [t, u] = 0 then matT t u [] else none
theorem matchAll_any (t u : Tm) (p q : Option Addr) (cp cq : Nat) (w : World) (hT : TmAt w t p) (hU : TmAt w u q) (dt : AllT DomA t) (du : AllT DomA u) (hX : Utf w) :
    Calls Tryz.prog 37 #[t.val p cp, u.val q cq] w fun e w' => ∃ q2 n2 c2 L S, e = .returned (.tuple #[.slice q2 n2 c2, .bool (matchA t u).isSome, .int .i64 (checksErr vName numOk bitsOk [t, u])]) ∧ BindM w' w.heap.size q2 n2 c2 L S ∧ L.map (fun x => (x.1, x.2.1)) = (matchA t u).getD [] ∧ Below w.heap.size w w' := by
  unfold matchA
  by_cases h : checksErr vName numOk bitsOk [t, u] = 0
  · obtain ⟨vt, vu⟩ := checks_two dt du h
    rw [if_pos h, h]
    exact matchM_good t u p q cp cq w hT hU vt vu hX
  · rw [if_neg h]
    exact (matchBad_any t u p q cp cq w hT hU dt du hX h).mono fun e w' ⟨e1, e2⟩ => ⟨none, 0, 0, [], [], e1, BindM.nil _ _, rfl, e2⟩
end Go.Proofs.YtkapejcbmonfkaaGreatDoor
