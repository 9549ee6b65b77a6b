/- Walks: slices.AppendSeq and slices.Collect of operators over whatever iterator gives all of a table. No condition but those that each theorem names. -/
import Derived.RangeFuncBox
import Derived.Maps.AppendAt
import Derived.Test.YtnbhmgonijlplaaDoorT18
namespace Go.Proofs.YtnbhmgonijlplaaDoor
open Go.RowKit Go.Shelf Go.Maps

def Opn.cells (x : Opn) : List Value := [.string x.name, .int .i64 x.typ, .int .i64 x.pri]
def rowOf (L : List Opn) : List Value := L.flatMap Opn.cells
theorem rowOf_snoc (L : List Opn) (x : Opn) : rowOf (L ++ [x]) = rowOf L ++ x.cells := by simp [rowOf]
theorem rowOf_length (L : List Opn) : (rowOf L).length = L.length * 3 := by
  induction L with
  | nil => rfl
  | cons x L ih => simp only [rowOf, List.flatMap_cons, List.length_append] at *; rw [ih]; simp [Opn.cells]; omega
theorem info39 : (Tryd.prog.info? 39).map (fun i => (i.zero, i.size, i.bytes)) = some (some (.agg #[.string ⟨#[]⟩, .int .i64 0, .int .i64 0]), 3, 32) := by kernel_rfl
theorem cells_new3 (w : World) (a b c : Value) (t : TypeId) : ∀ j u, [a, b, c][j]? = some u → (w.alloc (.cells #[a, b, c] t)).cell? ((⟨w.heap.size, 0, none⟩ : Addr).add j) = some u := by
  intro j u hj
  match j, hj with
  | 0, hj => simp at hj; subst hj; simp [Addr.add]
  | 1, hj => simp at hj; subst hj; simp [Addr.add]
  | 2, hj => simp at hj; subst hj; simp [Addr.add]
/-- A block of cells, known whole, abides what an iterator does. -/
theorem block_own {β : Type} (B : Nat) (o : Obj) (ho : o.isCells = true) : Own (fun (_ : β) W => W.heap[B]? = some o) := fun s X Y row hs hg hrow => by
  refine (hg.block B (lt_of_block hs) (fun e => ?_)).trans hs
  obtain ⟨o', ho', hc⟩ := hrow B e.symm
  rw [show X.heap[B]? = _ from hs] at ho'
  cases ho'
  rw [ho] at hc
  cases hc

/-- What maps.Values's value gives. -/
theorem vals_stops (F : Fence) (n : Nat) (h62 : F.fn 62) (hro : F.round = none) (hn : 1 ≤ n) (Bm b nn : Nat) (G : Fn) (g : Good G) (w : World) (hBm : Bm < w.heap.size) (hm : w.cell? ⟨Bm, 0, none⟩ = some (.map (some b))) (hT : Tab w b nn G) :
    SeqStopsK F n Tryd.prog 62 #[.pointer (some ⟨Bm, 0, none⟩)] (fun x : Opn => #[x.val]) KeepsWalks (fun xs => AllOf G xs ∧ xs.length ≤ nn) (fun _ => True) nn w := fun l J Jx W hW hJ _ hY h0 =>
  vals_in F n h62 hro hn l Bm b nn G g J Jx hY W hJ ((hW.cell (p := ⟨Bm, 0, none⟩) hBm).trans hm) (hT.keep hW) h0

section
variable (F : Fence) (n : Nat) (h62 : F.fn 62) (h71 : F.fn 71) (hro : F.round = none)
include h62 h71 hro
set_option maxRecDepth 100000 in
set_option maxHeartbeats 2000000 in
theorem append_in (hn : 3 ≤ n) (Bm nn : Nat) (hnn : nn ≤ maxLen) (hby : nn * 32 ≤ 140737488355328) (S : List Opn → Prop) (w : World)
    (hseq : SeqStopsK F (n - 1) Tryd.prog 62 #[.pointer (some ⟨Bm, 0, none⟩)] (fun x : Opn => #[x.val]) KeepsWalks S (fun _ => True) nn w) :
    CallsIn F n Tryd.prog 71 #[.slice none 0 0, .func (.func 62) #[] #[.pointer (some ⟨Bm, 0, none⟩)]] w fun e w' => ∃ v xs, e = .returned v ∧ S xs ∧ w'.ownsRow w.heap.size 39 3 v xs.length (rowOf xs) ∧ Below w.heap.size w w' := by
  have h1 : 1 ≤ n := by omega
  obtain ⟨i0, hi, hz0, hz1, hz2⟩ := info_parts info39
  refine callsIn_of_wp_marks Tryd.func71 rfl h71 ?_ hro
  simp only [Tryd.ntmps71, List.size_toArray, List.length_cons, List.length_nil, Nat.reduceAdd, Nat.reduceSub, Array.replicate_succ, Array.replicate_zero, List.push_toArray, List.append_toArray, List.nil_append, List.cons_append]
  gi_wp2
  have bO := Boxed.new w 45 (.slice none 0 0)
  have hB0 : Below w.heap.size w (w.alloc (.cells #[.slice none 0 0] 45)) := (Below.refl _ w).alloc (Nat.le_refl _) _
  have hs0 : (w.alloc (.cells #[.slice none 0 0] 45)).heap.size = w.heap.size + 1 := by simp
  refine wpIn_rangeFunc_ownH hro h1 (gf := 62) (lb := #[.pointer (some ⟨Bm, 0, none⟩)]) rfl h62 (enters_of Tryd.func62 (by kernel_rfl) rfl)
    hseq walksK_t walksK_b hB0 (fun _ => rfl)
    (fun pre W => (∃ v, Boxed W w.heap.size 45 v ∧ W.ownsRow w.heap.size 39 3 v pre.length (rowOf pre) ∧ True) ∧ Below w.heap.size w W)
    (fun _ _ _ => False)
    (OwnFrom.and (Own.from (holdsRow_own w.heap.size w.heap.size 45 39 3 (fun pre => pre.length) (fun pre => rowOf pre) (fun _ _ => True)) _) (ownFrom_below (Nat.le_refl _) (by simp)))
    (fun _ _ _ _ _ hs _ _ => hs)
    ⟨⟨_, bO, World.ownsRow_nil _ _ _ _, trivial⟩, hB0⟩
    (fun x a' W => ∃ Bx, w.heap.size < Bx ∧ W.heap[Bx]? = some (.cells #[.string x.name, .int .i64 x.typ, .int .i64 x.pri] 39 (0, 0)) ∧ a' = { tmps := #[.slice none 0 0, .func (.func 62) #[] #[.pointer (some ⟨Bm, 0, none⟩)], .pointer (some ⟨w.heap.size, 0, none⟩), undef, .slice none 0 0, .pointer (some ⟨Bx, 0, none⟩), .func (.func 62) #[] #[.pointer (some ⟨Bm, 0, none⟩)], x.val, undef, undef, undef, undef, undef], defers := [] })
    (fun x a' _ X Y row hs hg hr => by obtain ⟨Bx, h1, h2, h3⟩ := hs; exact ⟨Bx, h1, block_own (β := Unit) Bx _ rfl () X Y row h2 hg (fun r e => (hr r e).2), h3⟩)
    ?assign ?body ?done ?stop
  case assign =>
    rintro l pre x W K ⟨⟨v, hv, hrow, _⟩, hB⟩ hK
    unfold Opn.val at hK ⊢
    gi_wp2_with (rw [Oper.semAt_eq _ _ _ (fun c h => by cases h)]; go_simp; try go_bits)
    exact hK _ _ ((KeepsOthers.alloc _ _).from _) (KeepsWalks.alloc _ _) ⟨⟨v, hv.alloc _, hrow.alloc _, trivial⟩, hB.alloc hB.size _⟩ ⟨W.heap.size, hv.lt, World.alloc_heap_new W _, rfl⟩
  case body =>
    rintro l pre x a' W hl ⟨r, hr⟩ ⟨⟨v, hv, hrow, _⟩, hB⟩ ⟨Bx, hBx, bX, rfl⟩ hlt
    have hc := hv.cell
    obtain ⟨c0, c1, c2, _, _, _⟩ := three_cells bX
    unfold Opn.val
    gi_wp2_with (first | (gi_at_builtin; refine wpListIn_append_own _ rfl _ _ 45 rfl w.heap.size 39 i0 (.agg #[.string ⟨#[]⟩, .int .i64 0, .int .i64 0]) 3 32 Tryd.underlying45 hi hz0 hz1 hz2 rfl (by decide) _ _ _ rfl (hrow.alloc _) ⟨W.heap.size, 0, none⟩ 1 1 x.cells rfl rfl (cells_new3 _ _ _ _ _) (by simp [Opn.cells, Value.oneCell']) (by omega) (by omega) (by have := hB.size; simp; omega) ?_; intro v' w1 hown' hgrow _; obtain ⟨g', cap', rfl⟩ := ownsRow_succ hown'; obtain ⟨hv1, hv2, hr2, hk2, hb2⟩ := hv.appended (by decide) hrow hB.size (Nat.le_refl _) hown' hgrow; have hc1 := hv1.cell; have hf1 := hv1.frozen) | (rw [Oper.semAt_eq _ _ _ (fun c h => by cases h)]; go_simp; try go_bits))
    exact ⟨hk2.from _, ⟨hk2.size, fun k o hk hw => hk2.same k o hk (Obj.not_cells_of_walk hw)⟩, ⟨_, hv2, by rw [rowOf_snoc]; simpa using hr2, trivial⟩, hB.trans hb2⟩
  case done =>
    rintro D ys W hD hS ⟨⟨v, hv, hrow, _⟩, hB⟩ hK
    have hc := hv.cell
    gi_wp2
    refine ⟨by simp, .inl ⟨_, _, rfl, run_takeDeferred hK, ?_⟩⟩
    exact ⟨_, results_tmp rfl _ _ _, v, ys, rfl, hS, ownsRow_putObj hrow _ hK rfl, hB.trans (belowK_b (w := w) (Nat.le_refl _) W D _ _ (by simp at hD; omega) hK rfl rfl)⟩
  case stop =>
    rintro D c pre W _ _ h _
    exact h.elim
set_option maxRecDepth 100000 in
theorem collect_in (h60 : F.fn 60) (hn : 4 ≤ n) (Bm nn : Nat) (hnn : nn ≤ maxLen) (hby : nn * 32 ≤ 140737488355328) (S : List Opn → Prop) (w : World)
    (hseq : SeqStopsK F (n - 1 - 1) Tryd.prog 62 #[.pointer (some ⟨Bm, 0, none⟩)] (fun x : Opn => #[x.val]) KeepsWalks S (fun _ => True) nn w) :
    CallsIn F n Tryd.prog 60 #[.func (.func 62) #[] #[.pointer (some ⟨Bm, 0, none⟩)]] w fun e w' => ∃ v xs, e = .returned v ∧ S xs ∧ w'.ownsRow w.heap.size 39 3 v xs.length (rowOf xs) ∧ Below w.heap.size w w' := by
  have h1 : 1 ≤ n := by omega
  refine callsIn_of_wp Tryd.func60 rfl h60 ?_ hro
  simp only [Tryd.ntmps60, List.size_toArray, List.length_cons, List.length_nil, Nat.reduceAdd, Nat.reduceSub, Array.replicate_succ, Array.replicate_zero, List.push_toArray, List.append_toArray, List.nil_append, List.cons_append]
  gi_wp2_with (gi_at_call 71; refine (append_in F (n - 1) h62 h71 hro (by omega) Bm nn hnn hby S _ hseq).mono ?_; rintro e w' ⟨v, xs, rfl, hS, hrow, hb⟩)
  refine bodyPost_ret (results_tmp rfl _ _ _) rfl ?_
  exact ⟨v, xs, rfl, hS, hrow, hb⟩
end
/-- slices.Collect of maps.Values of a table: all its operators in some order. -/
theorem collect_any (b nn : Nat) (hnn : nn ≤ maxLen) (hby : nn * 32 ≤ 140737488355328) (G : Fn) (g : Good G) (Bm : Nat) (w : World) (hBm : Bm < w.heap.size) (hm : w.cell? ⟨Bm, 0, none⟩ = some (.map (some b))) (hT : Tab w b nn G) :
    Calls Tryd.prog 60 #[.func (.func 62) #[] #[.pointer (some ⟨Bm, 0, none⟩)]] w fun e w' => ∃ v xs, e = .returned v ∧ (AllOf G xs ∧ xs.length ≤ nn) ∧ w'.ownsRow w.heap.size 39 3 v xs.length (rowOf xs) ∧ Below w.heap.size w w' :=
  callsIn_wide.1 (collect_in Fence.wide 4 trivial trivial rfl trivial (by omega) Bm nn hnn hby (fun xs => AllOf G xs ∧ xs.length ≤ nn) w (vals_stops Fence.wide 2 trivial rfl (by omega) Bm b nn G g w hBm hm hT))
theorem values53_any (mb : Option Nat) (w : World) :
    Calls Tryd.prog 53 #[.map mb] w fun e w' => e = .returned (.func (.func 62) #[] #[.pointer (some ⟨w.heap.size, 0, none⟩)]) ∧ w' = w.alloc (.cells #[.map mb] 58) :=
  callsIn_wide.1 (values53_in Fence.wide 2 trivial rfl mb w)
end Go.Proofs.YtnbhmgonijlplaaDoor
