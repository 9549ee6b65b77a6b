/- Walks: all of the laws: a table's operators in order. No condition but those that each theorem names. -/
import Derived.Test.YtnbhmgonijlplaaDoorT21
namespace Go.Proofs.YtnbhmgonijlplaaDoor
open Go.RowKit Go.Shelf Go.Maps

theorem all30_any (p : Option Addr) (w : World) : Calls Tryd.prog 30 #[.pointer p] w fun e w' => e = .returned (.func (.func 45) #[] #[.pointer (some ⟨w.heap.size, 0, none⟩)]) ∧ w' = w.alloc (.cells #[.pointer p] 24) := by
  go_enter Tryd.func30, Tryd.ntmps30
  go_wp2
  go_ret
  exact ⟨rfl, rfl⟩
/-- Where a slice's own row lies at the lowest, if it has one; else where the next block will. -/
def own0 (W : World) (v : Value) : Nat := v.ownBlock.getD W.heap.size
theorem own0_row {W : World} {base e size n : Nat} {v : Value} {xs : List Value} (h : W.ownsRow base e size v n xs) (hb : base ≤ W.heap.size) : W.ownsRow (own0 W v) e size v n xs ∧ base ≤ own0 W v ∧ own0 W v ≤ W.heap.size := by
  rcases h.2 with ⟨rfl, h2⟩ | ⟨g, cap, cur, rfl, hbg, hg, rest⟩
  · exact ⟨⟨h.1, .inl ⟨rfl, h2⟩⟩, hb, Nat.le_refl _⟩
  · exact ⟨⟨h.1, .inr ⟨g, cap, cur, rfl, Nat.le_refl _, hg, rest⟩⟩, hbg, Nat.le_of_lt (lt_of_block hg)⟩
/-- A box's slice is appended to: what it leaves. -/
theorem leaves_append {W w1 : World} {B₀ n₀ base n : Nat} {v v' : Value} {m : Nat} {xs ys : List Value} {tmp : Obj} (hv : Boxed W B₀ 45 v) (hB : B₀ < n₀) (hrow : W.ownsRow base 39 3 v n xs) (hv1 : Boxed w1 B₀ 45 v) (hown' : w1.ownsRow (own0 W v) 39 3 v' (m + 1) ys) (hgrow : (W.alloc tmp).grownBy w1 v.ownBlock) :
    Leaves B₀ n₀ W (w1.setCell ⟨B₀, 0, none⟩ v') := by
  have hs := hgrow.size
  rw [World.size_alloc] at hs
  refine ⟨?_, fun k cs t mk hk hcs hp => ?_⟩
  · have := (grownBy_setCell' w1 B₀ v').size
    omega
  · have hkl := lt_of_block hcs
    have hbox := (hv1.set v').cell
    obtain ⟨g', cap', cur', rfl, hbg, _⟩ := row_apart hown' (Nat.succ_pos _)
    have key : some k ≠ v.ownBlock ∧ k < own0 W v := by
      rcases hrow.2 with ⟨rfl, _⟩ | ⟨g, cap, cur, rfl, _⟩
      · exact ⟨by simp [Value.ownBlock], hkl⟩
      · have hlt : k < g := by
          rcases Nat.lt_or_ge k g with h | h
          · exact h
          · exact absurd ⟨g, 0, n, cap, hv.cell, h⟩ hp
        exact ⟨by simp [Value.ownBlock]; omega, hlt⟩
    have h1 : w1.heap[k]? = some (.cells cs t mk) := (hgrow.block k (by simp; omega) key.1).trans ((Below.heap_alloc _ _ k hkl).trans hcs)
    refine ⟨((grownBy_setCell' w1 B₀ (.slice (some ⟨g', 0, none⟩) (m + 1) cap')).block k (lt_of_block h1) (fun e => by cases e; omega)).trans h1, ?_⟩
    rintro ⟨g, o, l, c, hc, hgk⟩
    rw [hbox] at hc
    cases hc
    have := key.2
    omega

theorem leaves_alloc {W : World} {B₀ n₀ : Nat} (hB : B₀ < W.heap.size) (o : Obj) : Leaves B₀ n₀ W (W.alloc o) :=
  ⟨by simp, fun k cs t m _ hcs hp => ⟨(Below.heap_alloc _ _ k (lt_of_block hcs)).trans hcs, fun q => hp ((pts_same (Below.heap_alloc _ _ B₀ hB)).1 q)⟩⟩
section
variable (bt b nn : Nat) (hnn : nn ≤ maxLen) (hby : nn * 32 ≤ 140737488355328) (G : Fn) (g : Good G) (w : World) (hc : w.cell? ⟨bt, 0, none⟩ = some (.map (some b))) (hT : Tab w b nn G)
include hnn hby g hc hT
set_option maxRecDepth 100000 in
set_option maxHeartbeats 4000000 in
theorem all26_told : Calls Tryd.prog 26 #[.pointer (some ⟨bt, 0, none⟩)] w fun e W' => ∃ v L, e = .returned v ∧ (Told G L ∧ L.length ≤ nn) ∧ W'.ownsRow w.heap.size 39 3 v L.length (rowOf L) ∧ Below w.heap.size w W' := by
  refine (callsIn_wide (n := 6)).1 ?_
  obtain ⟨i0, hi, hz0, hz1, hz2⟩ := info_parts info39
  have A30 := hid (all30_any (some ⟨bt, 0, none⟩))
  refine callsIn_of_wp_marks Tryd.func26 rfl trivial ?_ rfl
  simp only [Tryd.ntmps26, List.size_toArray, List.length_cons, List.length_nil, Nat.reduceAdd, Nat.reduceSub, Array.replicate_succ, Array.replicate_zero, List.push_toArray, List.append_toArray, List.nil_append, List.cons_append]
  gi_wp2_with (refine ⟨trivial, ?_⟩; gi_at_call 30; refine (callsIn_wide.2 (A30.out _)).mono ?_; rintro e w' ⟨rfl, rfl⟩)
  obtain ⟨W0, hW0⟩ : ∃ W0, (w.alloc (.cells #[.slice none 0 0] 45)).alloc (.cells #[.pointer (some ⟨bt, 0, none⟩)] 24) = W0 := ⟨_, rfl⟩
  have bO : Boxed W0 w.heap.size 45 (.slice none 0 0) := by rw [← hW0]; exact (Boxed.new w 45 (.slice none 0 0)).alloc _
  have bN : Boxed W0 (w.heap.size + 1) 24 (.pointer (some ⟨bt, 0, none⟩)) := by rw [← hW0]; have h := Boxed.new (w.alloc (.cells #[.slice none 0 0] 45)) 24 (.pointer (some ⟨bt, 0, none⟩)); rw [World.size_alloc] at h; exact h
  have hB0 : Below w.heap.size w W0 := by rw [← hW0]; exact ((Below.refl _ w).alloc (Nat.le_refl _) _).alloc (by simp) _
  have hs0 : W0.heap.size = w.heap.size + 2 := by rw [← hW0]; simp
  rw [hW0]
  clear hW0
  have hP : ∀ k, ¬ Pts W0 w.heap.size k := by
    rintro k ⟨g, o, l, c, h, _⟩
    rw [bO.cell] at h
    cases h
  refine wpIn_rangeFunc_ownH rfl (by omega) (gf := 45) (lb := #[.pointer (some ⟨w.heap.size + 1, 0, none⟩)]) rfl trivial (enters_of Tryd.func45 (by kernel_rfl) rfl)
    (ops_stops 5 (by omega) (w.heap.size + 1) bt b nn w.heap.size (w.heap.size + 2) hnn hby G g W0 (by omega) bN.cell (heap_cell_keep hB0 hc) (hT.keep hB0) (by omega) (by omega) hP) leaves_t (leaves_b (by omega)) (Below.refl _ _) (fun _ => rfl)
    (fun pre W => (∃ v, Boxed W w.heap.size 45 v ∧ W.ownsRow w.heap.size 39 3 v pre.length (rowOf pre) ∧ True) ∧ Below w.heap.size w W)
    (fun _ _ _ => False)
    (OwnFrom.and (Own.from (holdsRow_own w.heap.size w.heap.size 45 39 3 (fun pre => pre.length) (fun pre => rowOf pre) (fun _ _ => True)) _) (ownFrom_below (Nat.le_refl _) (by omega)))
    (fun _ _ _ _ _ hs _ _ => hs)
    ⟨⟨_, bO, World.ownsRow_nil _ _ _ _, trivial⟩, hB0⟩
    (fun x a' W => ∃ Bx, w.heap.size < Bx ∧ W.heap[Bx]? = some (.cells #[.string x.name, .int .i64 x.typ, .int .i64 x.pri] 39 (0, 0)) ∧ a' = { tmps := #[.pointer (some ⟨bt, 0, none⟩), undef, .slice none 0 0, .pointer (some ⟨w.heap.size, 0, none⟩), .pointer (some ⟨Bx, 0, none⟩), .pointer (some ⟨bt, 0, none⟩), .func (.func 45) #[] #[.pointer (some ⟨w.heap.size + 1, 0, none⟩)], x.val, undef, undef, undef, undef, undef], defers := [] })
    (fun x a' _ X Y row hs hg hr => by obtain ⟨Bx, h1, h2, h3⟩ := hs; exact ⟨Bx, h1, block_own (β := Unit) Bx _ rfl () X Y row h2 hg (fun r e => (hr r e).2), h3⟩)
    ?assign ?body ?done ?stop
  case assign =>
    rintro l pre x W K ⟨⟨v, hv, hrow, _⟩, hB⟩ hK
    unfold Opn.val at hK ⊢
    gi_wp2_with (rw [Oper.semAt_eq _ _ _ (fun c h => by cases h)]; go_simp; try go_bits)
    exact hK _ _ ((KeepsOthers.alloc _ _).from _) (leaves_alloc hv.lt _) ⟨⟨v, hv.alloc _, hrow.alloc _, trivial⟩, hB.alloc hB.size _⟩ ⟨W.heap.size, hv.lt, World.alloc_heap_new W _, rfl⟩
  case body =>
    rintro l pre x a' W hl ⟨r, hr⟩ ⟨⟨v, hv, hrow, _⟩, hB⟩ ⟨Bx, hBx, bX, rfl⟩ hlt
    have hc := hv.cell
    obtain ⟨c0, c1, c2, _, _, _⟩ := three_cells bX
    obtain ⟨hrow0, hb1, hb2⟩ := own0_row hrow hB.size
    have HV := hid hv
    have HR := hid hrow
    unfold Opn.val
    gi_wp2_with (first | (gi_at_builtin; refine wpListIn_append_own _ rfl _ _ 45 rfl (own0 W v) 39 i0 (.agg #[.string ⟨#[]⟩, .int .i64 0, .int .i64 0]) 3 32 Tryd.underlying45 hi hz0 hz1 hz2 rfl (by decide) _ _ _ rfl (hrow0.alloc _) ⟨W.heap.size, 0, none⟩ 1 1 x.cells rfl rfl (cells_new3 _ _ _ _ _) (by simp [Opn.cells, Value.oneCell']) (by omega) (by omega) (by simp; omega) ?_; intro v' w1 hown' hgrow _; obtain ⟨g', cap', rfl⟩ := ownsRow_succ hown'; obtain ⟨hv1, hv2, hr2, hk2, hb3⟩ := HV.out.appended (by decide) HR.out hB.size (Nat.le_refl _) (ownsRow_base hown' hb1) hgrow; have hc1 := hv1.cell; have hf1 := hv1.frozen) | (rw [Oper.semAt_eq _ _ _ (fun c h => by cases h)]; go_simp; try go_bits))
    exact ⟨hk2.from _, leaves_append HV.out (by omega) HR.out hv1 hown' hgrow, ⟨_, hv2, by rw [rowOf_snoc]; simpa using hr2, trivial⟩, hB.trans hb3⟩
  case done =>
    rintro D ys W hD hS ⟨⟨v, hv, hrow, _⟩, hB⟩ hK
    have hc := hv.cell
    gi_wp2
    refine ⟨by simp, .inl ⟨_, _, rfl, run_takeDeferred hK, ?_⟩⟩
    exact ⟨_, results_tmp rfl _ _ _, v, ys, rfl, hS, ownsRow_putObj hrow _ hK rfl, hB.trans (belowK_b (w := w) (Nat.le_refl _) W D _ _ (by omega) hK rfl rfl)⟩
  case stop =>
    rintro D c pre W _ _ h _
    exact h.elim
end
end Go.Proofs.YtnbhmgonijlplaaDoor
