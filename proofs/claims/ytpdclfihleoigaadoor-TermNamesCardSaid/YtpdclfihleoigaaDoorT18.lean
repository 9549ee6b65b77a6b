/- Walks: slices.Backward over a row of two terms, for every loop body that leaves what is not its own. No condition but those that each theorem names. -/
import Derived.RangeFuncNested
import Derived.RangeFuncBound
import Derived.RangeFuncCalls
import Derived.RangeFuncLeaves
import Derived.Shelf.Abstract
import Derived.OwnWalkIn
import Derived.TacticsInMore
import Derived.LoopNIn
import Derived.LoopIn
import Derived.Test.YtpdclfihleoigaaDoorT13
import Derived.Test.YtpdclfihleoigaaDoorT16
namespace Go.Proofs.YtpdclfihleoigaaDoor
open Go.RowKit Go.Shelf

theorem backward_any (p : Option Addr) (n cap : Nat) (w : World) : Calls Tryd.prog 32 #[.slice p n cap] w fun e w' => e = .returned (.func (.func 40) #[] #[.pointer (some ⟨w.heap.size, 0, none⟩)]) ∧ w' = w.alloc (.cells #[.slice p n cap] 24) := by
  go_enter Tryd.func32, Tryd.ntmps32
  go_wp2
  go_ret
  exact ⟨rfl, rfl⟩
/-- What a loop body leaves: each block of cells but its own. -/
structure Lv (K : Nat) (W W' : World) : Prop where
  size : W.heap.size ≤ W'.heap.size
  same : ∀ k cs t m, k ≠ K → W.heap[k]? = some (.cells cs t m) → W'.heap[k]? = some (.cells cs t m)
theorem lv_t {K : Nat} {A B C : World} (h : Lv K A B) (k : Lv K B C) : Lv K A C :=
  ⟨Nat.le_trans h.size k.size, fun i cs t m hi hc => k.same i cs t m hi (h.same i cs t m hi hc)⟩
theorem lv_b (K : Nat) (W : World) (l : Nat) (o o' : Obj) (h : W.heap[l]? = some o) (hc : o.isCells = false) : Lv K W (W.putObj l o') :=
  ⟨by simp [World.putObj], fun k cs t m _ hk => by
    have hne : k ≠ l := by rintro rfl; rw [h] at hk; cases hk; cases hc
    rw [World.putObj_heap_other hne]; exact hk⟩
theorem Lv.of_below {K : Nat} {W W' : World} (h : Below W.heap.size W W') : Lv K W W' := ⟨h.size, fun k cs t m _ hk => (h.block k (lt_of_block hk)).trans hk⟩
theorem Lv.of_grown {K : Nat} {W W' : World} (h : W.grownBy W' (some K)) : Lv K W W' := ⟨h.size, fun k cs t m hne hk => (h.block k (lt_of_block hk) (by simpa using hne)).trans hk⟩
abbrev El := Tm × Option Addr × Nat
def El.val (x : El) : Value := x.1.val x.2.1 x.2.2
/-- What Backward hands on of two: the second with 1, the first with 0. -/
def enc2 (x0 x1 : El) (b : Bool) : Array Value := if b then #[.int .i64 1, x1.val] else #[.int .i64 0, x0.val]
set_option maxRecDepth 100000 in
set_option maxHeartbeats 4000000 in
theorem back_in (n : Nat) (hn : 1 ≤ n) (l Bm g K cap : Nat) (x0 x1 : El) (J Jx : List Bool → World → Prop)
    (hY : ∀ pre x W, J pre W → pre.length < 2 → YieldAt Fence.wide (n - 1) Tryd.prog l (enc2 x0 x1 x) W fun e W' =>
      (e = .returned (.bool true) ∧ J (pre ++ [x]) W' ∧ Lv K W W') ∨ (e = .returned (.bool false) ∧ Jx (pre ++ [x]) W'))
    (W : World) (hJ : AbidesFrom W.heap.size J) (hm : W.heap[Bm]? = some (.cells #[.slice (some ⟨g, 0, none⟩) 2 cap] 24 (0, 0))) (hg : W.heap[g]? = some (pobj x0.1 x1.1 x0.2.1 x1.2.1 x0.2.2 x1.2.2))
    (hBm : Bm ≠ K) (hgK : g ≠ K) (h0 : J [] W) :
    CallsIn Fence.wide n Tryd.prog 40 #[.func (.yield l) #[] #[], .pointer (some ⟨Bm, 0, none⟩)] W fun e W' => (∃ v, e = .returned v) ∧
      ((∃ xs, xs = [true, false] ∧ J xs W') ∨ (∃ pre, pre <+: [true, false] ∧ Jx pre W')) := by
  refine callsIn_of_wp Tryd.func40 rfl trivial ?_ rfl
  simp only [Tryd.ntmps40, List.size_toArray, List.length_cons, List.length_nil, Nat.reduceAdd, Nat.reduceSub, Array.replicate_succ, Array.replicate_zero, List.push_toArray, List.append_toArray, List.nil_append, List.cons_append]
  have HM := hid hm
  have HG := hid hg
  have hmc := (cells_of hm 0).trans rfl
  clear hm hg
  gi_wp2
  gi_loopw [3] (fun i wr => Hid (wr.heap[Bm]? = some (.cells #[.slice (some ⟨g, 0, none⟩) 2 cap] 24 (0, 0))) ∧ Hid (wr.heap[g]? = some (pobj x0.1 x1.1 x0.2.1 x1.2.1 x0.2.2 x1.2.2)) ∧ W.heap.size ≤ wr.heap.size ∧
    ((i = .int .i64 1 ∧ J [] wr) ∨ (i = .int .i64 0 ∧ J [true] wr) ∨ (i = .int .i64 (-1) ∧ J [true, false] wr))) (fun i _ => (intOf i + 1).toNat)
  case atStart => exact ⟨HM, HG, Nat.le_refl _, .inl ⟨rfl, h0⟩⟩
  case round =>
    obtain ⟨hm, hg, hsz, h⟩ := hrel
    have cm := (cells_of hm.out 0).trans rfl
    have d := fun (j : Nat) => cells_of (show wr.heap[g]? = some (.cells _ _ (0, 0)) from hg.out) j
    rcases h with ⟨rfl, hJr⟩ | ⟨rfl, hJr⟩ | ⟨rfl, hJr⟩
    · have d6 := (d 6).trans rfl
      have d7 := (d 7).trans rfl
      have d8 := (d 8).trans rfl
      have d9 := (d 9).trans rfl
      have d10 := (d 10).trans rfl
      have d11 := (d 11).trans rfl
      obtain ⟨fn, tmps, assign, body, hy, hR⟩ := hY [] true wr hJr (by simp)
      simp only [enc2, El.val, Tm.val, if_true, Bool.false_eq_true, if_false] at hy
      clear d
      gi_wp2
      refine hR.mono ?_
      rintro e W3 (⟨rfl, hJ4, hk4⟩ | ⟨rfl, hJx4⟩)
      · have r1 := hk4.same Bm _ _ _ hBm hm.out
        have r2 := hk4.same g _ _ _ hgK hg.out
        have r3 := hk4.size
        have R1 := hid r1
        have R2 := hid (show W3.heap[g]? = some (pobj x0.1 x1.1 x0.2.1 x1.2.1 x0.2.2 x1.2.2) from r2)
        clear r1 r2
        gi_wp2
        go_roundw
        case rel => exact ⟨R1, R2, by omega, .inr (.inl ⟨rfl, hJ4⟩)⟩
        case measure => simp [intOf]
      · gi_wp2
        refine bodyPost_ret (results_none rfl _ _ _) rfl ?_
        exact ⟨⟨_, rfl⟩, .inr ⟨_, ⟨[false], rfl⟩, hJx4⟩⟩
    · have d0 := (d 0).trans rfl
      have d1 := (d 1).trans rfl
      have d2 := (d 2).trans rfl
      have d3 := (d 3).trans rfl
      have d4 := (d 4).trans rfl
      have d5 := (d 5).trans rfl
      obtain ⟨fn, tmps, assign, body, hy, hR⟩ := hY [true] false wr hJr (by simp)
      simp only [enc2, El.val, Tm.val, if_true, Bool.false_eq_true, if_false] at hy
      clear d
      gi_wp2
      refine hR.mono ?_
      rintro e W3 (⟨rfl, hJ4, hk4⟩ | ⟨rfl, hJx4⟩)
      · have r1 := hk4.same Bm _ _ _ hBm hm.out
        have r2 := hk4.same g _ _ _ hgK hg.out
        have r3 := hk4.size
        have R1 := hid r1
        have R2 := hid (show W3.heap[g]? = some (pobj x0.1 x1.1 x0.2.1 x1.2.1 x0.2.2 x1.2.2) from r2)
        clear r1 r2
        gi_wp2
        go_roundw
        case rel => exact ⟨R1, R2, by omega, .inr (.inr ⟨rfl, hJ4⟩)⟩
        case measure => simp [intOf]
      · gi_wp2
        refine bodyPost_ret (results_none rfl _ _ _) rfl ?_
        exact ⟨⟨_, rfl⟩, .inr ⟨_, List.prefix_refl _, hJx4⟩⟩
    · gi_wp2
      go_end0
      exact ⟨⟨_, rfl⟩, .inl ⟨_, rfl, hJr⟩⟩
end Go.Proofs.YtpdclfihleoigaaDoor
