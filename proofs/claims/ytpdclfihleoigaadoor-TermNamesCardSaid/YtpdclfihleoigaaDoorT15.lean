/- Walks: the document's makers of terms A, V, N. No condition. -/
import Derived.Test.YtpdclfihleoigaaDoorT3
import Derived.Laws.ResultCell
namespace Go.Proofs.YtpdclfihleoigaaDoor
open Go.RowKit

theorem results_tm {fn : Func} {p : Tmp} (h : fn.results = #[.cell p 26]) (tmps : Array Value) (W : World) (b : Nat) (t : Tm) (q : Option Addr) (cap : Nat) (hp : tmps.getD p undef = .pointer (some ⟨b, 0, none⟩)) (hg : W.heap[b]? = some (tobj t q cap)) :
    (results fn tmps).run Tryd.prog W = .ok (t.val q cap) W := by
  have hp' : tmps[p]?.getD undef = .pointer (some ⟨b, 0, none⟩) := by simpa using hp
  have hl := run_loadVar_row (P := Tryd.prog) W b 26 26 _ _ _ hg Tryd.underlying26 rfl (by kernel_rfl)
  simp [results, h, hp', asAddr, Sem.run_bind, Result.andThen, hl, Tm.val]
theorem six_free {W : World} {b : Nat} {c0 c1 c2 c3 c4 c5 : Value} {t : TypeId} (h : W.heap[b]? = some (.cells #[c0, c1, c2, c3, c4, c5] t (0, 0))) :
    (W.cell? ⟨b, 0, none⟩ = some c0 ∧ W.cell? ⟨b, 1, none⟩ = some c1 ∧ W.cell? ⟨b, 2, none⟩ = some c2 ∧ W.cell? ⟨b, 3, none⟩ = some c3 ∧ W.cell? ⟨b, 4, none⟩ = some c4 ∧ W.cell? ⟨b, 5, none⟩ = some c5) ∧
    (W.frozen? ⟨b, 0, none⟩ = false ∧ W.frozen? ⟨b, 1, none⟩ = false ∧ W.frozen? ⟨b, 2, none⟩ = false ∧ W.frozen? ⟨b, 3, none⟩ = false ∧ W.frozen? ⟨b, 4, none⟩ = false ∧ W.frozen? ⟨b, 5, none⟩ = false) :=
  ⟨⟨(cells_of h 0).trans rfl, (cells_of h 1).trans rfl, (cells_of h 2).trans rfl, (cells_of h 3).trans rfl, (cells_of h 4).trans rfl, (cells_of h 5).trans rfl⟩,
   ⟨by simp [World.frozen?, h], by simp [World.frozen?, h], by simp [World.frozen?, h], by simp [World.frozen?, h], by simp [World.frozen?, h], by simp [World.frozen?, h]⟩⟩
/-- A term stored whole. -/
theorem set6 {W : World} {b : Nat} {c0 c1 c2 c3 c4 c5 : Value} {t : TypeId} (h : W.heap[b]? = some (.cells #[c0, c1, c2, c3, c4, c5] t (0, 0))) (d0 d1 d2 d3 d4 d5 : Value) :
    ((((((W.setCell ⟨b, 0, none⟩ d0).setCell ⟨b, 1, none⟩ d1).setCell ⟨b, 2, none⟩ d2).setCell ⟨b, 3, none⟩ d3).setCell ⟨b, 4, none⟩ d4).setCell ⟨b, 5, none⟩ d5).heap[b]? = some (.cells #[d0, d1, d2, d3, d4, d5] t (0, 0)) := by
  have h0 := heap_setCell_same W b 0 _ _ d0 h
  have h1 := heap_setCell_same _ b 1 _ _ d1 h0
  have h2 := heap_setCell_same _ b 2 _ _ d2 h1
  have h3 := heap_setCell_same _ b 3 _ _ d3 h2
  have h4 := heap_setCell_same _ b 4 _ _ d4 h3
  exact heap_setCell_same _ b 5 _ _ d5 h4
theorem set6_below {B : Nat} {a W : World} {b : Nat} (h : Below B a W) (hb : B ≤ b) (d0 d1 d2 d3 d4 d5 : Value) :
    Below B a ((((((W.setCell ⟨b, 0, none⟩ d0).setCell ⟨b, 1, none⟩ d1).setCell ⟨b, 2, none⟩ d2).setCell ⟨b, 3, none⟩ d3).setCell ⟨b, 4, none⟩ d4).setCell ⟨b, 5, none⟩ d5) :=
  (((((h.setCell hb _).setCell hb _).setCell hb _).setCell hb _).setCell hb _).setCell hb _
/-- A term without arguments. -/
def leaf (k : Int) (s u : ByteArray) (v : Int) : Tm := .mk k s u 0 v []
theorem leaf_at (w : World) (k : Int) (s u : ByteArray) (v : Int) (p : Option Addr) : TmAt w (leaf k s u v) p := by
  unfold leaf TmAt
  exact ⟨by unfold maxLen; simp, .inl rfl⟩
theorem makeA (s : ByteArray) (w : World) : Calls Tryd.prog 14 #[.string s] w fun e w' => e = .returned ((leaf 2 s ⟨#[]⟩ 0).val none 0) ∧ Below w.heap.size w w' := by
  go_enter Tryd.func14, Tryd.ntmps14
  go_wp2
  exact bodyPost_ret (results_tm rfl _ _ w.heap.size (leaf 2 s ⟨#[]⟩ 0) none 0 (by rfl) (heap_alloc_new w _)) rfl ⟨rfl, (Below.refl _ _).alloc (Nat.le_refl _) _⟩
theorem makeV (n : Int) (w : World) : Calls Tryd.prog 16 #[.int .i64 n] w fun e w' => e = .returned ((leaf 1 ⟨#[]⟩ ⟨#[]⟩ n).val none 0) ∧ Below w.heap.size w w' := by
  go_enter Tryd.func16, Tryd.ntmps16
  go_wp2
  exact bodyPost_ret (results_tm rfl _ _ w.heap.size (leaf 1 ⟨#[]⟩ ⟨#[]⟩ n) none 0 (by rfl) (heap_alloc_new w _)) rfl ⟨rfl, (Below.refl _ _).alloc (Nat.le_refl _) _⟩
theorem makeN (s : ByteArray) (w : World) : Calls Tryd.prog 19 #[.string s] w fun e w' => e = .returned ((leaf 3 ⟨#[]⟩ s 0).val none 0) ∧ Below w.heap.size w w' := by
  go_enter Tryd.func19, Tryd.ntmps19
  go_wp2
  exact bodyPost_ret (results_tm rfl _ _ w.heap.size (leaf 3 ⟨#[]⟩ s 0) none 0 (by rfl) (heap_alloc_new w _)) rfl ⟨rfl, (Below.refl _ _).alloc (Nat.le_refl _) _⟩
set_option maxRecDepth 100000 in
set_option maxHeartbeats 4000000 in
/-- copyOf of a term without arguments that is no variable. -/
theorem copy_leaf (k : Int) (s u : ByteArray) (v : Int) (p : Option Addr) (cap : Nat) (w : World) (hk : k ≠ 1) : Calls Tryd.prog 31 #[(leaf k s u v).val p cap] w fun e w' => e = .returned ((leaf k s u v).val none 0) ∧ Below w.heap.size w w' := by
  have hd : (k == 1) = false := beq_eq_false_iff_ne.2 hk
  have F : ∀ W, Calls Tryd.prog 38 #[.agg #[.int .i64 k, .string s, .string u, .int .u64 0, .int .i64 v, .slice p 0 cap], .func (.func 39) #[] #[]] W fun e w' => e = .returned ((leaf k s u v).val none 0) ∧ Below W.heap.size W w' := fun W => by
    clear hk
    go_enter Tryd.func38, Tryd.ntmps38
    go_wp2_with fail
    refine wp_loop_rounds 1 ?_
    rw [rounds_succ]
    go_wp2
    have hg := heap_alloc_new (W.alloc (tobj (leaf k s u v) none 0)) (tobj (leaf k s u v) none 0)
    rw [World.size_alloc] at hg
    exact bodyPost_ret (results_tm rfl _ _ (W.heap.size + 1) (leaf k s u v) none 0 (by rfl) hg) rfl ⟨rfl, ((Below.refl _ _).alloc (Nat.le_refl _) _).alloc (by simp) _⟩
  have HF := hid F
  clear F hk hd
  show Calls Tryd.prog 31 #[.agg #[.int .i64 k, .string s, .string u, .int .u64 0, .int .i64 v, .slice p 0 cap]] w _
  have HV : (leaf k s u v).val none 0 = .agg #[.int .i64 k, .string s, .string u, .int .u64 0, .int .i64 v, .slice none 0 0] := rfl
  rw [HV] at HF ⊢
  clear HV
  go_enter Tryd.func31, Tryd.ntmps31
  go_wp2_with (go_at_call 38; (with_reducible refine (HF.out _).mono ?_); rintro e w2 ⟨rfl, hb2⟩; have hg := heap_alloc_new (w.alloc (tobj (leaf k s u v) p cap)) (tobj (leaf 0 ⟨#[]⟩ ⟨#[]⟩ 0) none 0); rw [World.size_alloc] at hg; have HG := hid (show w2.heap[w.heap.size + 1]? = some (.cells #[.int .i64 0, .string ⟨#[]⟩, .string ⟨#[]⟩, .int .u64 0, .int .i64 0, .slice none 0 0] 26 (0, 0)) from (hb2.block _ (by simp)).trans hg); have B2 := hid ((((Below.refl w.heap.size w).alloc (Nat.le_refl _) _).alloc (by simp) _).trans (hb2.mono (by simp; omega))); obtain ⟨⟨z0, z1, z2, z3, z4, z5⟩, ⟨f0, f1, f2, f3, f4, f5⟩⟩ := six_free HG.out; clear hb2 hg)
  exact bodyPost_ret (results_tm rfl _ _ (w.heap.size + 1) (leaf k s u v) none 0 (by rfl) (set6 HG.out _ _ _ _ _ _)) rfl ⟨rfl, set6_below B2.out (by omega) _ _ _ _ _ _⟩
end Go.Proofs.YtpdclfihleoigaaDoor
