/- Walks: the document's makers of terms A, V, N. No condition. Walks: the document's maker of compounds F; SameInts. No condition but those that each theorem names. Walks: SameInts of two lists that are the same. No condition but those that the theorem names. -/
import Derived.Laws.ResultCell
import Derived.Test.YtkapejcbmonfkaaGreatDoorT2m
import Derived.Maps.AppendAt
import Derived.Lib.SmallJoins
import Derived.Test.YtkapejcbmonfkaaGreatDoorT10m
namespace Go.Proofs.YtkapejcbmonfkaaGreatDoor
open Go.RowKit

theorem results_tm {fn : Func} {p : Tmp} (h : fn.results = #[.cell p 25]) (tmps : Array Value) (W : World) (b : Nat) (t : Tm) (q : Option Addr) (cap : Nat) (hp : tmps.getD p undef = .pointer (some ⟨b, 0, none⟩)) (hg : W.heap[b]? = some (tobj t q cap)) :
    (results fn tmps).run Tryz.prog W = .ok (t.val q cap) W := by
  have hp' : tmps[p]?.getD undef = .pointer (some ⟨b, 0, none⟩) := by simpa using hp
  have hl := run_loadVar_row (P := Tryz.prog) W b 25 25 _ _ _ hg Tryz.underlying25 rfl (by kernel_rfl)
  simp [results, h, hp', asAddr, hl, Tm.val]
theorem six_free {W : World} {b : Nat} {c0 c1 c2 c3 c4 c5 : Value} {t : TypeId} (h : W.heap[b]? = some (.cells #[c0, c1, c2, c3, c4, c5] t (0, 0))) :
    (W.cell? ⟨b, 0, none⟩ = some c0 ∧ W.cell? ⟨b, 1, none⟩ = some c1 ∧ W.cell? ⟨b, 2, none⟩ = some c2 ∧ W.cell? ⟨b, 3, none⟩ = some c3 ∧ W.cell? ⟨b, 4, none⟩ = some c4 ∧ W.cell? ⟨b, 5, none⟩ = some c5) ∧
    (W.frozen? ⟨b, 0, none⟩ = false ∧ W.frozen? ⟨b, 1, none⟩ = false ∧ W.frozen? ⟨b, 2, none⟩ = false ∧ W.frozen? ⟨b, 3, none⟩ = false ∧ W.frozen? ⟨b, 4, none⟩ = false ∧ W.frozen? ⟨b, 5, none⟩ = false) :=
  ⟨⟨(cells_of h 0).trans rfl, (cells_of h 1).trans rfl, (cells_of h 2).trans rfl, (cells_of h 3).trans rfl, (cells_of h 4).trans rfl, (cells_of h 5).trans rfl⟩,
   ⟨by simp [World.frozen?, h], by simp [World.frozen?, h], by simp [World.frozen?, h], by simp [World.frozen?, h], by simp [World.frozen?, h], by simp [World.frozen?, h]⟩⟩
/-- A term stored whole. -/
theorem set6 {W : World} {b : Nat} {c0 c1 c2 c3 c4 c5 : Value} {t : TypeId} (h : W.heap[b]? = some (.cells #[c0, c1, c2, c3, c4, c5] t (0, 0))) (d0 d1 d2 d3 d4 d5 : Value) :
    ((((((W.setCell ⟨b, 0, none⟩ d0).setCell ⟨b, 1, none⟩ d1).setCell ⟨b, 2, none⟩ d2).setCell ⟨b, 3, none⟩ d3).setCell ⟨b, 4, none⟩ d4).setCell ⟨b, 5, none⟩ d5).heap[b]? = some (.cells #[d0, d1, d2, d3, d4, d5] t (0, 0)) := by
  have h0 := heap_setCell_same W b 0 _ _ d0 h
  have h1 := heap_setCell_same _ b 1 _ _ d1 h0
  have h2 := heap_setCell_same _ b 2 _ _ d2 h1
  have h3 := heap_setCell_same _ b 3 _ _ d3 h2
  have h4 := heap_setCell_same _ b 4 _ _ d4 h3
  exact heap_setCell_same _ b 5 _ _ d5 h4
theorem set6_below {B : Nat} {a W : World} {b : Nat} (h : Below B a W) (hb : B ≤ b) (d0 d1 d2 d3 d4 d5 : Value) :
    Below B a ((((((W.setCell ⟨b, 0, none⟩ d0).setCell ⟨b, 1, none⟩ d1).setCell ⟨b, 2, none⟩ d2).setCell ⟨b, 3, none⟩ d3).setCell ⟨b, 4, none⟩ d4).setCell ⟨b, 5, none⟩ d5) :=
  (((((h.setCell hb _).setCell hb _).setCell hb _).setCell hb _).setCell hb _).setCell hb _
/-- A term without arguments. -/
def leaf (k : Int) (s u : ByteArray) (v : Int) : Tm := .mk k s u 0 v []
theorem leaf_at (w : World) (k : Int) (s u : ByteArray) (v : Int) (p : Option Addr) : TmAt w (leaf k s u v) p := by
  unfold leaf TmAt
  exact ⟨by unfold maxLen; simp, .inl rfl⟩
theorem makeA (s : ByteArray) (w : World) : Calls Tryz.prog 40 #[.string s] w fun e w' => e = .returned ((leaf 2 s ⟨#[]⟩ 0).val none 0) ∧ Below w.heap.size w w' := by
  go_enter Tryz.func40, Tryz.ntmps40
  go_wp2
  exact bodyPost_ret (results_tm rfl _ _ w.heap.size (leaf 2 s ⟨#[]⟩ 0) none 0 (by rfl) (heap_alloc_new w _)) rfl ⟨rfl, (Below.refl _ _).alloc (Nat.le_refl _) _⟩
theorem makeV (n : Int) (w : World) : Calls Tryz.prog 42 #[.int .i64 n] w fun e w' => e = .returned ((leaf 1 ⟨#[]⟩ ⟨#[]⟩ n).val none 0) ∧ Below w.heap.size w w' := by
  go_enter Tryz.func42, Tryz.ntmps42
  go_wp2
  exact bodyPost_ret (results_tm rfl _ _ w.heap.size (leaf 1 ⟨#[]⟩ ⟨#[]⟩ n) none 0 (by rfl) (heap_alloc_new w _)) rfl ⟨rfl, (Below.refl _ _).alloc (Nat.le_refl _) _⟩
theorem makeN (s : ByteArray) (w : World) : Calls Tryz.prog 43 #[.string s] w fun e w' => e = .returned ((leaf 3 ⟨#[]⟩ s 0).val none 0) ∧ Below w.heap.size w w' := by
  go_enter Tryz.func43, Tryz.ntmps43
  go_wp2
  exact bodyPost_ret (results_tm rfl _ _ w.heap.size (leaf 3 ⟨#[]⟩ s 0) none 0 (by rfl) (heap_alloc_new w _)) rfl ⟨rfl, (Below.refl _ _).alloc (Nat.le_refl _) _⟩
set_option maxRecDepth 100000 in
set_option maxHeartbeats 4000000 in
/-- copyOf of a term without arguments that is no variable. -/
theorem copy_leaf (k : Int) (s u : ByteArray) (v : Int) (p : Option Addr) (cap : Nat) (w : World) (hk : k ≠ 1) : Calls Tryz.prog 68 #[(leaf k s u v).val p cap] w fun e w' => e = .returned ((leaf k s u v).val none 0) ∧ Below w.heap.size w w' := by
  have hd : (k == 1) = false := beq_eq_false_iff_ne.2 hk
  have F : ∀ W, Calls Tryz.prog 59 #[.agg #[.int .i64 k, .string s, .string u, .int .u64 0, .int .i64 v, .slice p 0 cap], .func (.func 61) #[] #[]] W fun e w' => e = .returned ((leaf k s u v).val none 0) ∧ Below W.heap.size W w' := fun W => by
    clear hk
    go_enter Tryz.func59, Tryz.ntmps59
    go_wp2_with fail
    refine wp_loop_rounds 1 ?_
    rw [rounds_succ]
    go_wp2
    have hg := heap_alloc_new (W.alloc (tobj (leaf k s u v) none 0)) (tobj (leaf k s u v) none 0)
    rw [World.size_alloc] at hg
    exact bodyPost_ret (results_tm rfl _ _ (W.heap.size + 1) (leaf k s u v) none 0 (by rfl) hg) rfl ⟨rfl, ((Below.refl _ _).alloc (Nat.le_refl _) _).alloc (by simp) _⟩
  have HF := hid F
  clear F hk hd
  show Calls Tryz.prog 68 #[.agg #[.int .i64 k, .string s, .string u, .int .u64 0, .int .i64 v, .slice p 0 cap]] w _
  have HV : (leaf k s u v).val none 0 = .agg #[.int .i64 k, .string s, .string u, .int .u64 0, .int .i64 v, .slice none 0 0] := rfl
  rw [HV] at HF ⊢
  clear HV
  go_enter Tryz.func68, Tryz.ntmps68
  go_wp2_with (go_at_call 59; (with_reducible refine (HF.out _).mono ?_); rintro e w2 ⟨rfl, hb2⟩; have hg := heap_alloc_new (w.alloc (tobj (leaf k s u v) p cap)) (tobj (leaf 0 ⟨#[]⟩ ⟨#[]⟩ 0) none 0); rw [World.size_alloc] at hg; have HG := hid (show w2.heap[w.heap.size + 1]? = some (.cells #[.int .i64 0, .string ⟨#[]⟩, .string ⟨#[]⟩, .int .u64 0, .int .i64 0, .slice none 0 0] 25 (0, 0)) from (hb2.block _ (by simp)).trans hg); have B2 := hid ((((Below.refl w.heap.size w).alloc (Nat.le_refl _) _).alloc (by simp) _).trans (hb2.mono (by simp; omega))); obtain ⟨⟨z0, z1, z2, z3, z4, z5⟩, ⟨f0, f1, f2, f3, f4, f5⟩⟩ := six_free HG.out; clear hb2 hg)
  exact bodyPost_ret (results_tm rfl _ _ (w.heap.size + 1) (leaf k s u v) none 0 (by rfl) (set6 HG.out _ _ _ _ _ _)) rfl ⟨rfl, set6_below B2.out (by omega) _ _ _ _ _ _⟩
end Go.Proofs.YtkapejcbmonfkaaGreatDoor

namespace Go.Proofs.YtkapejcbmonfkaaGreatDoor
open Go.RowKit Go.Joins

/-- Terms, and where their arguments lie. -/
abbrev Row := List (Tm × Option Addr × Nat)
def cellsT (x : Tm × Option Addr × Nat) : List Value := [.int .i64 x.1.kind, .string x.1.name, .string x.1.num, .int .u64 x.1.bits, .int .i64 x.1.var, .slice x.2.1 x.1.args.length x.2.2]
def flat (L : Row) : List Value := L.flatMap cellsT
theorem flat_length (L : Row) : (flat L).length = L.length * 6 := by
  induction L with
  | nil => rfl
  | cons x L ih =>
    have h : flat (x :: L) = cellsT x ++ flat L := rfl
    rw [h, List.length_append, ih]
    simp [cellsT]
    omega
theorem flat_one (L : Row) : ∀ u ∈ flat L, u.oneCell' = true := by
  intro u hu
  obtain ⟨x, _, hx⟩ := List.mem_flatMap.1 hu
  simp [cellsT] at hx
  rcases hx with rfl | rfl | rfl | rfl | rfl | rfl <;> rfl
theorem row_of_flat {w : World} {b : Nat} : ∀ (L : Row) (o : Nat), (∀ j u, (flat L)[j]? = some u → w.cell? ⟨b, o + j, none⟩ = some u) → (∀ x ∈ L, TmAt w x.1 x.2.1) → RowT w (L.map (·.1)) b o
  | [], o, _, _ => by unfold RowT; trivial
  | x :: L, o, h, hT => by
    have hf : flat (x :: L) = cellsT x ++ flat L := rfl
    rw [hf] at h
    unfold RowT
    refine ⟨⟨x.2.1, x.2.2, ⟨h 0 _ rfl, h 1 _ rfl, h 2 _ rfl, h 3 _ rfl, h 4 _ rfl, h 5 _ rfl⟩, hT x List.mem_cons_self⟩, ?_⟩
    refine row_of_flat L (o + 6) (fun j u hj => ?_) (fun y hy => hT y (List.mem_cons_of_mem _ hy))
    have h2 := h (6 + j) u (by rw [List.getElem?_append_right (by simp [cellsT])]; simpa [cellsT] using hj)
    rwa [← Nat.add_assoc] at h2
theorem infoTerm : (Tryz.prog.info? 25).map (fun i => (i.zero, i.size, i.bytes)) = some (some (.agg #[.int .i64 0, .string ⟨#[]⟩, .string ⟨#[]⟩, .int .u64 0, .int .i64 0, .slice none 0 0]), 6, 80) := by kernel_rfl
/-- 'append([]api.Term{}, args...)': a row of one's own. -/
theorem run_copy_row (w : World) (ty : TypeId) (g : Nat) (hg : w.heap[g]? = some (.cells #[] 25 (0, 0))) (v : Value) (base : Nat) (L : Row) (hl : 0 < L.length) (hv : w.ownsRow base 25 6 v L.length (flat L)) (hmax : L.length ≤ maxLen) (hby : L.length * 80 ≤ 140737488355328) :
    ∃ g' cap' w', (Builtin.append_ #[23, 23] ty #[.slice (some ⟨g, 0, none⟩) 0 0, v]).run Tryz.prog w = .ok (.slice (some ⟨g', 0, none⟩) L.length cap') w' ∧ w'.ownsRow g 25 6 (.slice (some ⟨g', 0, none⟩) L.length cap') L.length (flat L) ∧ w.grownBy w' (some g) := by
  obtain ⟨i0, hi, hz0, hz1, hz2⟩ := info_parts infoTerm
  have hown : w.ownsRow g 25 6 (.slice (some ⟨g, 0, none⟩) 0 0) 0 [] := ⟨by simp, .inr ⟨g, 0, #[], rfl, Nat.le_refl _, hg, Nat.le_refl _, Nat.zero_le _, by simp, by simp⟩⟩
  have hlt := lt_of_block hg
  rcases hv.2 with ⟨rfl, h0⟩ | ⟨h, cap, cur, rfl, _⟩
  · omega
  · obtain ⟨v', w', hr, h2, h3, h4, _⟩ := run_append_own_at (P := Tryz.prog) w g 23 ty 25 i0 (.agg #[.int .i64 0, .string ⟨#[]⟩, .string ⟨#[]⟩, .int .u64 0, .int .i64 0, .slice none 0 0]) 6 80 Tryz.underlying23 hi hz0 hz1 hz2 rfl (by decide) _ 0 [] hown ⟨h, 0, none⟩ L.length cap (flat L) (flat_length L) (hv.cells (g := h) rfl) (flat_one L) (by omega) (by omega) (by omega)
    rw [Nat.zero_add, List.nil_append] at h2
    rcases h2.2 with ⟨rfl, _⟩ | ⟨g', cap', cur', rfl, _⟩
    · exact absurd (h4.1 rfl).1 (by simp)
    · exact ⟨g', cap', w', hr, h2, h3⟩
theorem wpList_copy_row (w : World) {ops : Array Oper} {rest : List Oper} {o : Oper} {a : Act} {Q : Exit → Act → World → Prop} (hgd : o.guard = none) (s x : Operand)
    (ho : o.op = .call { callee := .builtin .append, args := #[s, x], argTypes := #[23, 23] }) (g : Nat) (hs : a.eval s = .slice (some ⟨g, 0, none⟩) 0 0) (hg : w.heap[g]? = some (.cells #[] 25 (0, 0)))
    (v : Value) (base : Nat) (L : Row) (hl : 0 < L.length) (hx : a.eval x = v) (hv : w.ownsRow base 25 6 v L.length (flat L)) (hmax : L.length ≤ maxLen) (hby : L.length * 80 ≤ 140737488355328)
    (h : ∀ g' cap' w', w'.ownsRow g 25 6 (.slice (some ⟨g', 0, none⟩) L.length cap') L.length (flat L) → w.grownBy w' (some g) → wpList Tryz.prog ops Q rest (a.put o.dst (.slice (some ⟨g', 0, none⟩) L.length cap')) w') : wpList Tryz.prog ops Q (o :: rest) a w := by
  refine wpList_plain hgd fun K hK => ?_
  obtain ⟨g', cap', w', hr, h2, h3⟩ := run_copy_row w o.type g hg v base L hl hv hmax hby
  unfold Oper.wp execOp
  simp only [ho, resolve, invoke, builtin, Sem.run_bind, Sem.run_pure, Result.andThen_ok, List.map_toArray, List.map_cons, List.map_nil, hs, hx, hr]
  exact hK _ _ (h g' cap' w' h2 h3)
theorem row6_keep {w w' : World} {base : Nat} {v : Value} {n : Nat} {xs : List Value} (h : w.ownsRow base 25 6 v n xs) (hb : Below w.heap.size w w') : w'.ownsRow base 25 6 v n xs :=
  h.kept (row := none) ⟨hb.os, hb.tape, hb.output, hb.size, fun k hk _ => hb.block k hk⟩ (by cases v.ownBlock <;> simp)
theorem set6_grown (W : World) (b : Nat) (d0 d1 d2 d3 d4 d5 : Value) :
    W.grownBy ((((((W.setCell ⟨b, 0, none⟩ d0).setCell ⟨b, 1, none⟩ d1).setCell ⟨b, 2, none⟩ d2).setCell ⟨b, 3, none⟩ d3).setCell ⟨b, 4, none⟩ d4).setCell ⟨b, 5, none⟩ d5) (some b) := by
  have st : ∀ (A B : World) (i : Nat) (d : Value), A.grownBy B (some b) → A.grownBy (B.setCell ⟨b, i, none⟩ d) (some b) := fun A B i d h =>
    ⟨h.os, h.tape, h.output, by simpa using h.size, fun k hk hne => (Below.heap_setCell B ⟨b, i, none⟩ d k (fun e => hne (by rw [e]))).trans (h.block k hk hne)⟩
  exact st _ _ 5 _ (st _ _ 4 _ (st _ _ 3 _ (st _ _ 2 _ (st _ _ 1 _ (st _ _ 0 _ ⟨rfl, rfl, rfl, Nat.le_refl _, fun _ _ _ => rfl⟩)))))
set_option maxRecDepth 100000 in
set_option maxHeartbeats 4000000 in
theorem makeF (s : ByteArray) (v : Value) (base : Nat) (L : Row) (w : World) (hl : 0 < L.length) (hv : w.ownsRow base 25 6 v L.length (flat L)) (hT : ∀ x ∈ L, TmAt w x.1 x.2.1) (hmax : L.length ≤ maxLen) (hby : L.length * 80 ≤ 140737488355328) :
    Calls Tryz.prog 41 #[.string s, v] w fun e w' => ∃ p cap, e = .returned ((Tm.mk 5 s ⟨#[]⟩ 0 0 (L.map (·.1))).val p cap) ∧ TmAt w' (Tm.mk 5 s ⟨#[]⟩ 0 0 (L.map (·.1))) p ∧ Below w.heap.size w w' := by
  obtain ⟨W0, hW0⟩ : ∃ W0, W0 = (w.alloc (tobj (leaf 0 ⟨#[]⟩ ⟨#[]⟩ 0) none 0)).alloc (.cells #[] 25) := ⟨_, rfl⟩
  have hB := hid (show Below w.heap.size w W0 by rw [hW0]; exact ((Below.refl _ _).alloc (Nat.le_refl _) _).alloc (by simp) _)
  have HG := hid (show W0.heap[w.heap.size + 1]? = some (.cells #[] 25 (0, 0)) by rw [hW0]; have h := heap_alloc_new (w.alloc (tobj (leaf 0 ⟨#[]⟩ ⟨#[]⟩ 0) none 0)) (.cells #[] 25); rwa [World.size_alloc] at h)
  have HR := hid (show W0.heap[w.heap.size]? = some (.cells #[.int .i64 0, .string ⟨#[]⟩, .string ⟨#[]⟩, .int .u64 0, .int .i64 0, .slice none 0 0] 25 (0, 0)) by rw [hW0]; exact (heap_alloc_old (w.alloc (tobj (leaf 0 ⟨#[]⟩ ⟨#[]⟩ 0) none 0)) _ (by simp)).trans (heap_alloc_new w _))
  have HV := hid (row6_keep hv hB.out)
  have HT := hid hT
  unfold tobj leaf at hW0
  simp only [Tm.kind, Tm.name, Tm.num, Tm.bits, Tm.var, Tm.args, List.length_nil] at hW0
  clear hv hT
  go_enter Tryz.func41, Tryz.ntmps41
  go_wp2_with (at_builtin; rw [← hW0]; refine wpList_copy_row _ rfl _ _ rfl (w.heap.size + 1) rfl HG.out _ _ L hl rfl HV.out hmax hby ?_; intro g' cap' w1 hown hg; have HO := hid hown; have G1 := hid hg; have R1 := hid (show w1.heap[w.heap.size]? = _ from (hg.block _ (lt_of_block HR.out) (by simp)).trans HR.out); obtain ⟨⟨z0, z1, z2, z3, z4, z5⟩, ⟨f0, f1, f2, f3, f4, f5⟩⟩ := six_free R1.out; clear hown hg)
  have hb1 : Below w.heap.size w w1 := hB.out.grown G1.out (by have := hB.out.size; omega) (fun q e => by cases e; omega)
  have e1 : (L.map (·.1)).length = L.length := List.length_map _
  refine bodyPost_ret (results_tm rfl _ _ w.heap.size (Tm.mk 5 s ⟨#[]⟩ 0 0 (L.map (·.1))) (some ⟨g', 0, none⟩) cap' (by rfl) (by unfold tobj; simp only [Tm.kind, Tm.name, Tm.num, Tm.bits, Tm.var, Tm.args]; rw [e1]; exact set6 R1.out _ _ _ _ _ _)) rfl ⟨_, _, rfl, ?_, set6_below hb1 (Nat.le_refl _) _ _ _ _ _ _⟩
  have hg := set6_grown w1 w.heap.size (.int .i64 5) (.string s) (.string ⟨#[]⟩) (.int .u64 0) (.int .i64 0) (.slice (some ⟨g', 0, none⟩) L.length cap')
  have hg' : w.heap.size + 1 ≤ g' := (HO.out.lt g' rfl).1
  have ho := HO.out.kept hg (.inr (fun e => by have e2 : g' = w.heap.size := Option.some.inj e; omega))
  unfold TmAt
  refine ⟨by rw [e1]; exact hmax, .inr ⟨g', 0, rfl, row_of_flat L 0 (fun j u hj => ?_) (fun x hx => (HT.out x hx).keep (set6_below hb1 (Nat.le_refl _) _ _ _ _ _ _))⟩⟩
  have h := ho.cells (g := g') rfl j u hj
  rwa [Addr.add_lit] at h
end Go.Proofs.YtkapejcbmonfkaaGreatDoor

namespace Go.Proofs.YtkapejcbmonfkaaGreatDoor
open Go.RowKit

theorem rowI_get {w : World} {base : Nat} {v : Value} {S : List Int} (h : w.ownsRow base 3 1 v S.length (ints S)) {p : Option Addr} {cap : Nat} (hv : v = .slice p S.length cap) (k : Nat) (hk : k < S.length) : ∃ g, p = some ⟨g, 0, none⟩ ∧ w.cell? ⟨g, k, none⟩ = some (.int .i64 S[k]) := by
  rcases h.2 with ⟨h1, h2⟩ | ⟨g, cap', cur, h1, h2⟩
  · omega
  · rw [hv] at h1
    cases h1
    have hc := h.cells (g := g) (by rw [hv]; rfl) k (.int .i64 S[k]) (by simp [ints, hk])
    rw [Addr.add_lit, Nat.zero_add] at hc
    exact ⟨g, rfl, hc⟩
set_option maxRecDepth 100000 in
set_option maxHeartbeats 4000000 in
theorem sameInts_yes (S : List Int) (v1 v2 : Value) (b1 b2 : Nat) (w : World) (h1 : w.ownsRow b1 3 1 v1 S.length (ints S)) (h2 : w.ownsRow b2 3 1 v2 S.length (ints S)) (hl : S.length ≤ 4611686018427387904) :
    Calls Tryz.prog 17 #[v1, v2] w fun e w' => e = .returned (.bool true) ∧ Below w.heap.size w w' := by
  obtain ⟨p1, c1, rfl⟩ := rowI_form h1
  obtain ⟨p2, c2, rfl⟩ := rowI_form h2
  have H1 := hid (fun k hk => rowI_get h1 rfl k hk)
  have H2 := hid (fun k hk => rowI_get h2 rfl k hk)
  have HB := hid (Below.refl w.heap.size w)
  clear h1 h2
  go_enter Tryz.func17, Tryz.ntmps17
  go_wp2
  go_loopw [5] (fun i wr => ∃ k : Nat, k ≤ S.length ∧ i = .int .i64 (k : Int) ∧ Hid (Below w.heap.size w wr)) (fun i _ => S.length - (intOf i).toNat)
  case atStart => exact ⟨0, by omega, rfl, HB⟩
  case round =>
    clear HB
    obtain ⟨k, hk, rfl, hB⟩ := hrel
    by_cases hlt : k < S.length
    · obtain ⟨g1, hg1, x1⟩ := H1.out k hlt
      obtain ⟨g2, hg2, x2⟩ := H2.out k hlt
      subst hg1 hg2
      have y1 := heap_cell_keep hB.out x1
      have y2 := heap_cell_keep hB.out x2
      clear x1 x2
      generalize S[k] = z at *
      go_wp2
      go_quiet (fail)
      go_wp2
      go_roundw
      case rel => exact ⟨k + 1, by omega, by go_num, hid ⟨hB.out.os, hB.out.tape, hB.out.output, hB.out.size, hB.out.block⟩⟩
      case measure => simp [intOf]; omega
    · obtain rfl : k = S.length := by omega
      clear hlt
      go_wp2
      go_ret
      exact ⟨rfl, hB.out⟩
end Go.Proofs.YtkapejcbmonfkaaGreatDoor
