/- Walks: slices.Backward over a row of two terms, for every loop body that leaves what is not its own. No condition but those that each theorem names. Regions that draw their order, in a round of a loop over a function, inside the wide fence: as anywhere. No condition but those that each theorem names. Walks: what a round of List leaves. No condition but those that each theorem names. Walks: List of two terms without arguments that are no variables. No condition but those that the theorem names. -/
import Derived.RangeFuncNested
import Derived.RangeFuncBound
import Derived.RangeFuncCalls
import Derived.RangeFuncLeaves
import Derived.Shelf.Abstract
import Derived.OwnWalkIn
import Derived.TacticsInMore
import Derived.LoopNIn
import Derived.LoopIn
import Derived.Test.YtkapejcbmonfkaaGreatDoorT13m
import Derived.Test.YtkapejcbmonfkaaGreatDoorT17m
import Derived.Deep.Quiet
import Derived.Deep.QuietTactic
import Derived.BigQuiet
import Derived.OrdersIn
import Derived.TacticsIn
import Derived.RegionTactic
import Derived.Test.YtkapejcbmonfkaaGreatDoorProg
import Derived.Test.YtkapejcbmonfkaaGreatDoorT50
namespace Go.Proofs.YtkapejcbmonfkaaGreatDoor
open Go.RowKit Go.Shelf

theorem backward_any (p : Option Addr) (n cap : Nat) (w : World) : Calls Tryz.prog 71 #[.slice p n cap] w fun e w' => e = .returned (.func (.func 99) #[] #[.pointer (some ⟨w.heap.size, 0, none⟩)]) ∧ w' = w.alloc (.cells #[.slice p n cap] 23) := by
  go_enter Tryz.func71, Tryz.ntmps71
  go_wp2
  go_ret
  exact ⟨rfl, rfl⟩
/-- What a loop body leaves: each block of cells but its own. -/
structure Lv (K : Nat) (W W' : World) : Prop where
  size : W.heap.size ≤ W'.heap.size
  same : ∀ k cs t m, k ≠ K → W.heap[k]? = some (.cells cs t m) → W'.heap[k]? = some (.cells cs t m)
theorem lv_t {K : Nat} {A B C : World} (h : Lv K A B) (k : Lv K B C) : Lv K A C :=
  ⟨Nat.le_trans h.size k.size, fun i cs t m hi hc => k.same i cs t m hi (h.same i cs t m hi hc)⟩
theorem lv_b (K : Nat) (W : World) (l : Nat) (o o' : Obj) (h : W.heap[l]? = some o) (hc : o.isCells = false) : Lv K W (W.putObj l o') :=
  ⟨by simp [World.putObj], fun k cs t m _ hk => by
    have hne : k ≠ l := by rintro rfl; rw [h] at hk; cases hk; cases hc
    rw [World.putObj_heap_other hne]; exact hk⟩
theorem Lv.of_below {K : Nat} {W W' : World} (h : Below W.heap.size W W') : Lv K W W' := ⟨h.size, fun k _cs _t _m _ hk => (h.block k (lt_of_block hk)).trans hk⟩
theorem Lv.of_grown {K : Nat} {W W' : World} (h : W.grownBy W' (some K)) : Lv K W W' := ⟨h.size, fun k cs t m hne hk => (h.block k (lt_of_block hk) (by simpa using hne)).trans hk⟩
abbrev El := Tm × Option Addr × Nat
def El.val (x : El) : Value := x.1.val x.2.1 x.2.2
/-- What Backward hands on of two: the second with 1, the first with 0. -/
def enc2 (x0 x1 : El) (b : Bool) : Array Value := if b then #[.int .i64 1, x1.val] else #[.int .i64 0, x0.val]
set_option maxRecDepth 100000 in
set_option maxHeartbeats 4000000 in
theorem back_in (n : Nat) (hn : 1 ≤ n) (l Bm g K cap : Nat) (x0 x1 : El) (J Jx : List Bool → World → Prop)
    (hY : ∀ pre x W, J pre W → pre.length < 2 → YieldAt Fence.wide (n - 1) Tryz.prog l (enc2 x0 x1 x) W fun e W' =>
      (e = .returned (.bool true) ∧ J (pre ++ [x]) W' ∧ Lv K W W') ∨ (e = .returned (.bool false) ∧ Jx (pre ++ [x]) W'))
    (W : World) (_hJ : AbidesFrom W.heap.size J) (hm : W.heap[Bm]? = some (.cells #[.slice (some ⟨g, 0, none⟩) 2 cap] 23 (0, 0))) (hg : W.heap[g]? = some (pobj x0.1 x1.1 x0.2.1 x1.2.1 x0.2.2 x1.2.2))
    (hBm : Bm ≠ K) (hgK : g ≠ K) (h0 : J [] W) :
    CallsIn Fence.wide n Tryz.prog 99 #[.func (.yield l) #[] #[], .pointer (some ⟨Bm, 0, none⟩)] W fun e W' => (∃ v, e = .returned v) ∧
      ((∃ xs, xs = [true, false] ∧ J xs W') ∨ (∃ pre, pre <+: [true, false] ∧ Jx pre W')) := by
  refine callsIn_of_wp Tryz.func99 rfl trivial ?_ rfl
  simp only [Tryz.ntmps99, List.size_toArray, List.length_cons, List.length_nil, Nat.reduceAdd, Nat.reduceSub, Array.replicate_succ, Array.replicate_zero, List.push_toArray, List.append_toArray, List.nil_append, List.cons_append]
  have HM := hid hm
  have HG := hid hg
  have hmc := (cells_of hm 0).trans rfl
  clear hm hg
  gi_wp2
  gi_loopw [3] (fun i wr => Hid (wr.heap[Bm]? = some (.cells #[.slice (some ⟨g, 0, none⟩) 2 cap] 23 (0, 0))) ∧ Hid (wr.heap[g]? = some (pobj x0.1 x1.1 x0.2.1 x1.2.1 x0.2.2 x1.2.2)) ∧ W.heap.size ≤ wr.heap.size ∧
    ((i = .int .i64 1 ∧ J [] wr) ∨ (i = .int .i64 0 ∧ J [true] wr) ∨ (i = .int .i64 (-1) ∧ J [true, false] wr))) (fun i _ => (intOf i + 1).toNat)
  case atStart => exact ⟨HM, HG, Nat.le_refl _, .inl ⟨rfl, h0⟩⟩
  case round =>
    obtain ⟨hm, hg, hsz, h⟩ := hrel
    have cm := (cells_of hm.out 0).trans rfl
    have d := fun (j : Nat) => cells_of (show wr.heap[g]? = some (.cells _ _ (0, 0)) from hg.out) j
    rcases h with ⟨rfl, hJr⟩ | ⟨rfl, hJr⟩ | ⟨rfl, hJr⟩
    · have d6 := (d 6).trans rfl
      have d7 := (d 7).trans rfl
      have d8 := (d 8).trans rfl
      have d9 := (d 9).trans rfl
      have d10 := (d 10).trans rfl
      have d11 := (d 11).trans rfl
      obtain ⟨fn, tmps, assign, body, hy, hR⟩ := hY [] true wr hJr (by simp)
      simp only [enc2, El.val, Tm.val, if_true] at hy
      clear d
      gi_wp2
      refine hR.mono ?_
      rintro e W3 (⟨rfl, hJ4, hk4⟩ | ⟨rfl, hJx4⟩)
      · have r1 := hk4.same Bm _ _ _ hBm hm.out
        have r2 := hk4.same g _ _ _ hgK hg.out
        have r3 := hk4.size
        have R1 := hid r1
        have R2 := hid (show W3.heap[g]? = some (pobj x0.1 x1.1 x0.2.1 x1.2.1 x0.2.2 x1.2.2) from r2)
        clear r1 r2
        gi_wp2
        go_roundw
        case rel => exact ⟨R1, R2, by omega, .inr (.inl ⟨rfl, hJ4⟩)⟩
        case measure => simp [intOf]
      · gi_wp2
        refine bodyPost_ret (results_none rfl _ _ _) rfl ?_
        exact ⟨⟨_, rfl⟩, .inr ⟨_, ⟨[false], rfl⟩, hJx4⟩⟩
    · have d0 := (d 0).trans rfl
      have d1 := (d 1).trans rfl
      have d2 := (d 2).trans rfl
      have d3 := (d 3).trans rfl
      have d4 := (d 4).trans rfl
      have d5 := (d 5).trans rfl
      obtain ⟨fn, tmps, assign, body, hy, hR⟩ := hY [true] false wr hJr (by simp)
      simp only [enc2, El.val, Tm.val, Bool.false_eq_true, if_false] at hy
      clear d
      gi_wp2
      refine hR.mono ?_
      rintro e W3 (⟨rfl, hJ4, hk4⟩ | ⟨rfl, hJx4⟩)
      · have r1 := hk4.same Bm _ _ _ hBm hm.out
        have r2 := hk4.same g _ _ _ hgK hg.out
        have r3 := hk4.size
        have R1 := hid r1
        have R2 := hid (show W3.heap[g]? = some (pobj x0.1 x1.1 x0.2.1 x1.2.1 x0.2.2 x1.2.2) from r2)
        clear r1 r2
        gi_wp2
        go_roundw
        case rel => exact ⟨R1, R2, by omega, .inr (.inr ⟨rfl, hJ4⟩)⟩
        case measure => simp [intOf]
      · gi_wp2
        refine bodyPost_ret (results_none rfl _ _ _) rfl ?_
        exact ⟨⟨_, rfl⟩, .inr ⟨_, List.prefix_refl _, hJx4⟩⟩
    · gi_wp2
      go_end0
      exact ⟨⟨_, rfl⟩, .inl ⟨_, rfl, hJr⟩⟩
end Go.Proofs.YtkapejcbmonfkaaGreatDoor

namespace Go.Proofs.YtkapejcbmonfkaaGreatDoor
open Go

section
variable {l₀ n : Nat} {P : Program} {ops : Array Oper} {md : Region.Mode}
/-- No operation is a defer statement. -/
def noDefer (ops : Array Oper) : Bool := ops.all fun o => match o.op with | .defer _ => false | _ => true
theorem noDefer_at {i : Nat} {o : Oper} (h : noDefer ops = true) (ho : ops[i]? = some o) : ∀ c, o.op ≠ .defer c := by
  intro c e
  unfold noDefer at h
  have hm : o ∈ ops := Array.mem_of_getElem? ho
  have h1 := Array.all_eq_true'.1 h o hm
  rw [e] at h1
  simp at h1
theorem op_round {o : Oper} {a : Act} {w : World} {K : Act → World → Prop} {Q : Exit → Act → World → Prop} (hd : ∀ c, o.op ≠ .defer c) (h : o.wp P a w K Q) : o.wpIn (Fence.wide.inRound l₀) n P a w K Q := by
  refine ⟨fun _ _ => trivial, ?_⟩
  rw [Oper.semAt_eq _ _ _ hd]
  unfold Oper.wp at h
  generalize (execOp a.eval o).run P w = r at *
  cases r with
  | ok x w' =>
    cases x with
    | enter f args => exact ⟨fun e => (by cases e), CallsIn.inRound l₀ (callsIn_wide.2 h)⟩
    | row r args => exact ⟨fun e => (by cases e), fun c cs _ => let ⟨v, w', hR, hs⟩ := h c cs; ⟨v, w', hR, stepsIn_wide.2 hs⟩⟩
    | round l f t a b => exact h.elim
    | _ => exact h
  | halt x w' => cases x <;> exact h
theorem opIn_of_op {Q : Exit → Act → World → Prop} {i : Nat} {a : Act} {w : World} {K K' : Act → World → Prop} (hnd : noDefer ops = true) (hlo : ¬ LetsOut Q) (h : ∀ a w, K a w → K' a w) (hh : wpOp P ops Q i K a w) : wpOpIn (Fence.wide.inRound l₀) n P ops Q i K' a w := by
  unfold wpOp at hh
  unfold wpOpIn
  split
  · rename_i ho; simp only [ho] at hh; exact h _ _ hh
  · rename_i o ho
    simp only [ho] at hh
    split
    · rename_i hw
      simp only [hw, if_true] at hh
      rcases hh with hh | ⟨_, hl⟩
      · exact op_round (noDefer_at hnd ho) (Oper.wp_mono h hh)
      · exact absurd hl hlo
    · rename_i hw; simp only [hw] at hh; exact ⟨fun _ _ => trivial, h _ _ hh⟩
theorem anyIn_of_any {Q : Exit → Act → World → Prop} (hnd : noDefer ops = true) (hlo : ¬ LetsOut Q) : ∀ (fuel : Nat) (listed : Array Bool) (a : Act) (w : World), wpAny P md ops Q fuel listed a w → wpAnyIn (Fence.wide.inRound l₀) n P md ops Q fuel listed a w
  | 0, _, _, _, h => h
  | fuel + 1, _, _, _, h => ⟨h.1, fun i hi => opIn_of_op hnd hlo (fun a w => anyIn_of_any hnd hlo fuel _ a w) (h.2 i hi)⟩
/-- Q, where nothing goes wrong. -/
def Only (Q : Exit → Act → World → Prop) : Exit → Act → World → Prop := fun e a w => e = .normal ∧ Q .normal a w
theorem round_any {id : Nat} {Q : Exit → Act → World → Prop} {a : Act} {w : World} (hm : P.follows .mixedOrders = true) (hnd : noDefer ops = true) (h : wpAny P .any ops (Only Q) ops.size (Array.replicate ops.size false) a w.drew) : (Code.region id ops true).wpIn (Fence.wide.inRound l₀) n P Q a w := by
  have h1 : (Code.region id ops true).wpIn (Fence.wide.inRound l₀) n P (Only Q) a w := wpIn_region_any hm (anyIn_of_any hnd (by rintro ⟨a, w, h⟩; cases h.1) _ _ _ _ h)
  exact Code.wpIn_mono (fun e a w h => by obtain ⟨rfl, h⟩ := h; exact h) h1
end
end Go.Proofs.YtkapejcbmonfkaaGreatDoor

namespace Go.Proofs.YtkapejcbmonfkaaGreatDoor
open Go.RowKit Go.Shelf

/-- A list's cell. -/
def consT (a b : Tm) : Tm := .mk 5 ⟨#[46]⟩ ⟨#[]⟩ 0 0 [a, b]
/-- An atom. -/
def atomT (s : ByteArray) : Tm := leaf 2 s ⟨#[]⟩ 0
mutual
theorem TmAt.same {w w' : World} (hb : ∀ b o v, w.cell? ⟨b, o, none⟩ = some v → w'.cell? ⟨b, o, none⟩ = some v) : ∀ {t : Tm} {p : Option Addr}, TmAt w t p → TmAt w' t p
  | .mk _ _ _ _ _ l, p, h => by
    unfold TmAt at h ⊢
    refine ⟨h.1, ?_⟩
    rcases h.2 with h | ⟨b, o, e, h⟩
    · exact .inl h
    · exact .inr ⟨b, o, e, RowT.same hb h⟩
theorem RowT.same {w w' : World} (hb : ∀ b o v, w.cell? ⟨b, o, none⟩ = some v → w'.cell? ⟨b, o, none⟩ = some v) : ∀ {l : List Tm} {b o : Nat}, RowT w l b o → RowT w' l b o
  | [], _, _, _ => by unfold RowT; trivial
  | t :: l, b, o, h => by
    unfold RowT at h ⊢
    obtain ⟨⟨p, cap, h1, h2⟩, h3⟩ := h
    exact ⟨⟨p, cap, ⟨hb _ _ _ h1.c0, hb _ _ _ h1.c1, hb _ _ _ h1.c2, hb _ _ _ h1.c3, hb _ _ _ h1.c4, hb _ _ _ h1.c5⟩, TmAt.same hb h2⟩, RowT.same hb h3⟩
end
theorem held_own {β : Type} {K : Nat} {W5 : World} : OwnFrom (β := β) W5.heap.size (fun _ W => Held K W5 W) := fun s X Y row hs hg hr =>
  ⟨hg.os.trans hs.os, hg.tape.trans hs.tape, hg.output.trans hs.output, Nat.le_trans hs.size hg.size, fun k hk h1 => (hg.block k (Nat.lt_of_lt_of_le hk hs.size) (fun e => by have := (hr k e.symm).1; omega)).trans (hs.same k hk h1)⟩
theorem block_own {β : Type} (B : Nat) (o : Obj) (ho : o.isCells = true) : Go.Own (fun (_ : β) W => W.heap[B]? = some o) := fun s X Y row hs hg hrow => by
  have hs' : X.heap[B]? = some o := hs
  refine (hg.block B (lt_of_block hs') (fun e => ?_)).trans hs
  obtain ⟨o', ho', hc⟩ := hrow B e.symm
  rw [show X.heap[B]? = _ from hs] at ho'
  cases ho'
  rw [ho] at hc
  cases hc
/-- The world without the cells of its first blocks. -/
def above (W : World) (B : Nat) : World := { W with heap := W.heap.mapIdx fun i o => if i < B then .deferred none else o }
theorem above_heap {W : World} {B k : Nat} (hk : B ≤ k) : (above W B).heap[k]? = W.heap[k]? := by
  have h : ¬ k < B := by omega
  simp [above, Array.getElem?_mapIdx, h]
theorem above_low {W : World} {B k : Nat} (hk : k < B) (o : Obj) (h : (above W B).heap[k]? = some o) : o = .deferred none := by
  simp [above, Array.getElem?_mapIdx, hk] at h
  exact h.2.symm
theorem above_cell {W : World} {B b o : Nat} {v : Value} (h : (above W B).cell? ⟨b, o, none⟩ = some v) : B ≤ b ∧ W.cell? ⟨b, o, none⟩ = some v := by
  by_cases e : b < B
  · cases hg : (above W B).heap[b]? with
    | none => simp [World.cell?, hg] at h
    | some x =>
      have := above_low e x hg
      subst this
      simp [World.cell?, hg] at h
  · have e : B ≤ b := by omega
    exact ⟨e, (World.cell?_of_block (a := ⟨b, o, none⟩) (above_heap e)).symm.trans h⟩
theorem cell_above {W : World} {B b o : Nat} {v : Value} (hb : B ≤ b) (h : W.cell? ⟨b, o, none⟩ = some v) : (above W B).cell? ⟨b, o, none⟩ = some v :=
  (World.cell?_of_block (a := ⟨b, o, none⟩) (above_heap hb)).trans h
/-- A term lies in a box, and its arguments from a block on. -/
def BoxT (W : World) (K B : Nat) (t : Tm) : Prop := ∃ p cap, W.heap[K]? = some (tobj t p cap) ∧ TmAt (above W B) t p
theorem above_keep {W W' : World} {B : Nat} {t : Tm} {p : Option Addr} (h : TmAt (above W B) t p) (hb : ∀ b o v, B ≤ b → W.cell? ⟨b, o, none⟩ = some v → W'.cell? ⟨b, o, none⟩ = some v) : TmAt (above W' B) t p ∧ TmAt W' t p :=
  ⟨h.same fun b o v hc => cell_above (above_cell hc).1 (hb b o v (above_cell hc).1 (above_cell hc).2), h.same fun b o v hc => hb b o v (above_cell hc).1 (above_cell hc).2⟩
theorem boxT_own {β : Type} {K B B' : Nat} (f : β → Tm) : OwnFrom B (fun s W => BoxT W K B' (f s)) := fun s X Y row ⟨p, cap, h1, h2⟩ hg hr =>
  ⟨p, cap, (hg.block K (lt_of_block h1) (fun e => by obtain ⟨o, ho, hc⟩ := (hr K e.symm).2; rw [h1] at ho; cases ho; cases hc)).trans h1, (above_keep h2 (fun b o v _ h => cell_kept h hg (fun r e => (hr r e).2))).1⟩
/-- The list behind some rounds. -/
def accT (s0 s1 se : ByteArray) (pre : List Bool) : Tm := pre.foldl (fun a b => consT (atomT (if b then s1 else s0)) a) (atomT se)
theorem accT_snoc (s0 s1 se : ByteArray) (pre : List Bool) (b : Bool) : accT s0 s1 se (pre ++ [b]) = consT (atomT (if b then s1 else s0)) (accT s0 s1 se pre) := by unfold accT; rw [List.foldl_append]; rfl
theorem body_end {K : Nat} {acc : Tm} {sx : ByteArray} {p : Option Addr} {cp : Nat} {w7 W w8 : World} (hKw : K < w7.heap.size) (HPK : W.heap[K]? = some (tobj acc p cp)) (HTK : TmAt (above W w7.heap.size) acc p) (HH : Held K w7 W) (hb8 : Below W.heap.size W w8)
    (W9 : World) (hW9 : W9 = ((((((w8.alloc (pobj (atomT sx) acc none p 0 cp)).setCell ⟨K, 0, none⟩ (.int .i64 5)).setCell ⟨K, 1, none⟩ (.string ⟨#[46]⟩)).setCell ⟨K, 2, none⟩ (.string ⟨#[]⟩)).setCell ⟨K, 3, none⟩ (.int .u64 0)).setCell ⟨K, 4, none⟩ (.int .i64 0)).setCell ⟨K, 5, none⟩ (.slice (some ⟨w8.heap.size, 0, none⟩) 2 2)) :
    KeepsFrom w7.heap.size W W9 ∧ Lv K W W9 ∧ Held K w7 W9 ∧ BoxT W9 K w7.heap.size (consT (atomT sx) acc) := by
  have hKl := lt_of_block HPK
  have hsz8 : W.heap.size ≤ w8.heap.size := hb8.size
  obtain ⟨Wa, hWa⟩ : ∃ Wa, Wa = w8.alloc (pobj (atomT sx) acc none p 0 cp) := ⟨_, rfl⟩
  have hal8 : Below w8.heap.size w8 Wa := by rw [hWa]; exact (Below.refl w8.heap.size w8).alloc (Nat.le_refl _) _
  have hpo : Wa.heap[w8.heap.size]? = some (pobj (atomT sx) acc none p 0 cp) := by rw [hWa]; exact World.alloc_heap_new w8 _
  rw [← hWa] at hW9
  have hgr : Wa.grownBy W9 (some K) := by rw [hW9]; exact set6_grown Wa K _ _ _ _ _ _
  have h9 : W9.heap[K]? = some (.cells #[.int .i64 5, .string ⟨#[46]⟩, .string ⟨#[]⟩, .int .u64 0, .int .i64 0, .slice (some ⟨w8.heap.size, 0, none⟩) 2 2] 25 (0, 0)) := by
    rw [hW9]
    exact set6 (obj_keep (obj_keep HPK hb8) hal8) _ _ _ _ _ _
  have hh : Held K W W9 := ((Held.of_below hb8)).trans ((Held.of_below hal8).trans (Held.of_grown hgr))
  have hv : Lv K W W9 := lv_t (Lv.of_below hb8) (lv_t (Lv.of_below hal8) (Lv.of_grown hgr))
  refine ⟨⟨hh.size, fun k o hk ho _ => hh.block ho (by omega)⟩, hv, HH.trans hh, ?_⟩
  have hpo2 : W9.heap[w8.heap.size]? = some (pobj (atomT sx) acc none p 0 cp) := (hgr.block w8.heap.size (lt_of_block hpo) (fun e => by have := Option.some.inj e; omega)).trans hpo
  have hhk := above_keep (W' := W9) HTK (fun b q v hb h => (World.cell?_of_block (hh.same b (by have := World.block_lt_of_cell? W _ h; simpa using this) (by omega))).trans h)
  have hs7 := HH.size
  refine ⟨some ⟨w8.heap.size, 0, none⟩, 2, h9, ?_⟩
  unfold consT TmAt
  refine ⟨by unfold maxLen; simp, .inr ⟨w8.heap.size, 0, rfl, row_two (p := none) (q := p) (cp := 0) (cq := cp) ((above_heap (by omega)).trans hpo2) (leaf_at _ _ _ _ _ _) hhk.1⟩⟩
theorem above_at {W : World} {B : Nat} {t : Tm} {p : Option Addr} (h : TmAt (above W B) t p) : TmAt W t p := h.same fun _ _ _ hc => (above_cell hc).2
theorem above_mono {W : World} {A B : Nat} {t : Tm} {p : Option Addr} (h : TmAt (above W B) t p) (hA : A ≤ B) : TmAt (above W A) t p := h.same fun _ _ _ hc => cell_above (by have := (above_cell hc).1; omega) (above_cell hc).2
theorem list_end {K Dd : Nat} {tot : Tm} {p : Option Addr} {cp : Nat} {w w7 W : World} (hw7 : w.heap.size + 2 ≤ w7.heap.size) (hwK : w.heap.size + 2 ≤ K) (_HP : W.heap[K]? = some (tobj tot p cp)) (HT : TmAt (above W w7.heap.size) tot p) (HH : Held K w7 W) (B7 : Below w.heap.size w w7)
    (HZ : W.heap[w.heap.size + 1]? = some (.cells #[.int .i64 0, .string ⟨#[]⟩, .string ⟨#[]⟩, .int .u64 0, .int .i64 0, .slice none 0 0] 25 (0, 0))) (hDd : w7.heap.size ≤ Dd) (HD : W.heap[Dd]? = some (.deferred (some [])))
    (X0 : World) (hX : X0 = (((((W.setCell ⟨w.heap.size + 1, 0, none⟩ (.int .i64 tot.kind)).setCell ⟨w.heap.size + 1, 1, none⟩ (.string tot.name)).setCell ⟨w.heap.size + 1, 2, none⟩ (.string tot.num)).setCell ⟨w.heap.size + 1, 3, none⟩ (.int .u64 tot.bits)).setCell ⟨w.heap.size + 1, 4, none⟩ (.int .i64 tot.var)).setCell ⟨w.heap.size + 1, 5, none⟩ (.slice p tot.args.length cp)) :
    X0.heap[Dd]? = some (.deferred (some [])) ∧ (X0.putObj Dd (.deferred none)).heap[w.heap.size + 1]? = some (tobj tot p cp) ∧ TmAt (above (X0.putObj Dd (.deferred none)) w.heap.size) tot p ∧ Below w.heap.size w (X0.putObj Dd (.deferred none)) := by
  have hgr : W.grownBy X0 (some (w.heap.size + 1)) := by rw [hX]; exact set6_grown W _ _ _ _ _ _ _
  have h9 : X0.heap[w.heap.size + 1]? = some (tobj tot p cp) := by rw [hX]; exact set6 HZ _ _ _ _ _ _
  have hne : Dd ≠ w.heap.size + 1 := by omega
  have hD : X0.heap[Dd]? = some (.deferred (some [])) := (hgr.block Dd (lt_of_block HD) (by simpa using hne)).trans HD
  have hcell : ∀ b o v, w7.heap.size ≤ b → W.cell? ⟨b, o, none⟩ = some v → (X0.putObj Dd (.deferred none)).cell? ⟨b, o, none⟩ = some v := fun b o v hb h => by
    have e : b ≠ Dd := by
      rintro rfl
      simp [World.cell?, HD] at h
    exact (World.cell?_of_block (a := ⟨b, o, none⟩) (World.putObj_heap_other e)).trans (hgr.cell h (by simp; omega))
  have h2 : Below w.heap.size w W := B7.trans ⟨HH.os, HH.tape, HH.output, HH.size, fun k hk => HH.same k (by omega) (by omega)⟩
  have h3 : Below w.heap.size w X0 := h2.grown hgr h2.size (fun k e => by cases e; omega)
  refine ⟨hD, (World.putObj_heap_other (Ne.symm hne)).trans h9, above_mono (above_keep HT hcell).1 (by omega), ⟨h3.os, h3.tape, h3.output, by have := h3.size; simpa [World.putObj] using this, fun k hk => (World.putObj_heap_other (by omega)).trans (h3.block k hk)⟩⟩
end Go.Proofs.YtkapejcbmonfkaaGreatDoor

namespace Go.Proofs.YtkapejcbmonfkaaGreatDoor
open Go.RowKit Go.Shelf

theorem back_stops (n : Nat) (hn : 1 ≤ n) (Bm g K cap : Nat) (x0 x1 : El) (w : World) (hm : w.heap[Bm]? = some (.cells #[.slice (some ⟨g, 0, none⟩) 2 cap] 23 (0, 0))) (hg : w.heap[g]? = some (pobj x0.1 x1.1 x0.2.1 x1.2.1 x0.2.2 x1.2.2)) (hBm : Bm ≠ K) (hgK : g ≠ K) :
    SeqStopsK Fence.wide n Tryz.prog 99 #[.pointer (some ⟨Bm, 0, none⟩)] (enc2 x0 x1) (Lv K) (fun xs => xs = [true, false]) (fun pre => pre <+: [true, false]) 2 w := fun l J Jx W hW hJ _ hY h0 =>
  back_in n hn l Bm g K cap x0 x1 J Jx hY W hJ (obj_keep hm hW) (obj_keep hg hW) hBm hgK h0

theorem results_pair {fn : Func} {p u : Tmp} {b : Nat} {t : Tm} {q : Option Addr} {cap : Nat} (h : fn.results = #[.cell p 25, .tmp u]) (tmps : Array Value) (W : World) (x : Value) (hp : tmps.getD p undef = .pointer (some ⟨b, 0, none⟩) ∧ tmps.getD u undef = x) (hg : W.heap[b]? = some (tobj t q cap)) :
    (results fn tmps).run Tryz.prog W = .ok (.tuple #[t.val q cap, x]) W := by
  have hl := run_loadVar_row (P := Tryz.prog) W b 25 25 _ _ _ hg Tryz.underlying25 rfl (by kernel_rfl)
  rw [results_cell_tmp h, hp.1, hp.2]
  simp [asAddr, Result.andThen, hl, Tm.val]
set_option maxRecDepth 100000 in
set_option maxHeartbeats 8000000 in
theorem list_two (vn vi : ByteArray → Bool) (vb : Int → Bool) (D : Tm → Prop) (s0 s1 se : ByteArray) (g cap : Nat) (w : World)
    (hg : w.heap[g]? = some (pobj (atomT s0) (atomT s1) none none 0 0)) (hO : Oracle vn vi vb D w) (hD : AllR D [atomT s0, atomT s1]) (hDe : AllT D (atomT se)) (he : checksErr vn vi vb [atomT s0, atomT s1] = 0) (hee : checkErr vn vi vb (atomT se) = 0) :
    Calls Tryz.prog 28 #[.slice (some ⟨g, 0, none⟩) 2 cap, (atomT se).val none 0] w fun e w' => ∃ p q, e = .returned (.tuple #[(consT (atomT s0) (consT (atomT s1) (atomT se))).val p q, .int .i64 0]) ∧ TmAt (above w' w.heap.size) (consT (atomT s0) (consT (atomT s1) (atomT se))) p ∧ Below w.heap.size w w' := by
  show Calls Tryz.prog 28 #[.slice (some ⟨g, 0, none⟩) 2 cap, .agg #[.int .i64 2, .string se, .string ⟨#[]⟩, .int .u64 0, .int .i64 0, .slice none 0 0]] w _
  refine (callsIn_wide (n := 6)).1 ?_
  have hR : RowT w [atomT s0, atomT s1] g 0 := row_two hg (leaf_at _ _ _ _ _ _) (leaf_at _ _ _ _ _ _)
  have HR := hid hR
  have HO := hid hO
  have C1 := hid (show ∀ (W : World), Below w.heap.size w W → Calls Tryz.prog 46 #[.slice (some ⟨g, 0, none⟩) 2 cap] W fun e w' => e = .returned (.int .i64 0) ∧ Below W.heap.size W w' from fun W hW => by
    have h := checks_any vn vi vb D [atomT s0, atomT s1] (some ⟨g, 0, none⟩) cap W (by unfold maxLen; simp) (.inr ⟨_, _, rfl, RowT.keep hW HR.out⟩) (HO.out.keep hW) hD
    rw [he] at h
    exact h)
  have C2 := hid (show ∀ (W : World), Below w.heap.size w W → Calls Tryz.prog 45 #[.agg #[.int .i64 2, .string se, .string ⟨#[]⟩, .int .u64 0, .int .i64 0, .slice none 0 0]] W fun e w' => e = .returned (.int .i64 0) ∧ Below W.heap.size W w' from fun W hW => by
    have h := check_any vn vi vb D (atomT se) none 0 W (leaf_at _ _ _ _ _ _) (HO.out.keep hW) hDe
    rw [hee] at h
    exact h)
  have C3 := hid (show ∀ (s : ByteArray) (W : World), Calls Tryz.prog 44 #[.agg #[.int .i64 2, .string s, .string ⟨#[]⟩, .int .u64 0, .int .i64 0, .slice none 0 0]] W fun e w' => e = .returned (.int .i64 1) ∧ Below W.heap.size W w' from fun s W => nodes_any (atomT s) none 0 W (leaf_at _ _ _ _ _ _))
  have C4 := hid (show ∀ (s : ByteArray) (W : World), Calls Tryz.prog 68 #[.agg #[.int .i64 2, .string s, .string ⟨#[]⟩, .int .u64 0, .int .i64 0, .slice none 0 0]] W fun e w' => e = .returned (.agg #[.int .i64 2, .string s, .string ⟨#[]⟩, .int .u64 0, .int .i64 0, .slice none 0 0]) ∧ Below W.heap.size W w' from fun s W => copy_leaf 2 s ⟨#[]⟩ 0 none 0 W (by decide))
  have HG := hid hg
  clear hR hO hD hDe he hee hg
  refine callsIn_of_wp_marks Tryz.func28 rfl trivial ?_ rfl
  simp only [Tryz.ntmps28, List.size_toArray, List.length_cons, List.length_nil, Nat.reduceAdd, Nat.reduceSub, Array.replicate_succ, Array.replicate_zero, List.push_toArray, List.append_toArray, List.nil_append, List.cons_append]
  rw [wpIn_wide]
  obtain ⟨W1, hW1⟩ : ∃ W1, W1 = (w.alloc (tobj (atomT se) none 0)).alloc (tobj (leaf 0 ⟨#[]⟩ ⟨#[]⟩ 0) none 0) := ⟨_, rfl⟩
  have hB1 : Below w.heap.size w W1 := by rw [hW1]; exact ((Below.refl _ _).alloc (Nat.le_refl _) _).alloc (by simp) _
  have hz1 : W1.heap.size = w.heap.size + 2 := by rw [hW1]; simp
  have E1 := hid (show W1.heap[w.heap.size]? = some (tobj (atomT se) none 0) by rw [hW1]; exact obj_keep (World.alloc_heap_new w (tobj (atomT se) none 0)) ((Below.refl _ _).alloc (Nat.le_refl _) _))
  have Z1 := hid (show W1.heap[w.heap.size + 1]? = some (tobj (leaf 0 ⟨#[]⟩ ⟨#[]⟩ 0) none 0) by rw [hW1]; have h := World.alloc_heap_new (w.alloc (tobj (atomT se) none 0)) (tobj (leaf 0 ⟨#[]⟩ ⟨#[]⟩ 0) none 0); rwa [World.size_alloc] at h)
  have B1 := hid hB1
  have hW1' : W1 = (w.alloc (.cells #[.int .i64 2, .string se, .string ⟨#[]⟩, .int .u64 0, .int .i64 0, .slice none 0 0] 25)).alloc (.cells #[.int .i64 0, .string ⟨#[]⟩, .string ⟨#[]⟩, .int .u64 0, .int .i64 0, .slice none 0 0] 25) := hW1
  have HW1 := hid hW1'
  clear hB1 hW1 hW1'
  go_wp2_with (first
    | (go_at_call 46; rw [← HW1.out]; (with_reducible refine (C1.out _ B1.out).mono ?_); rintro e w2 ⟨rfl, hb2⟩; have B2 := hid (B1.out.trans (hb2.mono B1.out.size)); have E2 := hid (obj_keep E1.out hb2); have Z2 := hid (obj_keep Z1.out hb2); obtain ⟨⟨x0, x1, x2, x3, x4, x5⟩, _⟩ := six_free (show w2.heap[w.heap.size]? = some (.cells #[.int .i64 2, .string se, .string ⟨#[]⟩, .int .u64 0, .int .i64 0, .slice none 0 0] 25 (0, 0)) from E2.out); clear hb2 E1 Z1 C1)
    | (go_at_call 45; (with_reducible refine (C2.out _ B2.out).mono ?_); rintro e w3 ⟨rfl, hb3⟩; have B3 := hid (B2.out.trans (hb3.mono B2.out.size)); have E3 := hid (obj_keep E2.out hb3); have Z3 := hid (obj_keep Z2.out hb3); obtain ⟨⟨y0, y1, y2, y3, y4, y5⟩, _⟩ := six_free (show w3.heap[w.heap.size]? = some (.cells #[.int .i64 2, .string se, .string ⟨#[]⟩, .int .u64 0, .int .i64 0, .slice none 0 0] 25 (0, 0)) from E3.out); clear hb3 x0 x1 x2 x3 x4 x5 E2 Z2 C2)
    | (go_at_call 44; (with_reducible refine (C3.out se _).mono ?_); rintro e w4 ⟨rfl, hb4⟩; have B4 := hid (B3.out.trans (hb4.mono B3.out.size)); have E4 := hid (obj_keep E3.out hb4); have Z4 := hid (obj_keep Z3.out hb4); clear hb4 y0 y1 y2 y3 y4 y5 E3 Z3))
  go_loopw [30, 8] (fun i n wr => Hid (Below w4.heap.size w4 wr) ∧ ((i = .int .i64 0 ∧ n = .int .i64 1) ∨ (i = .int .i64 1 ∧ n = .int .i64 3) ∨ (i = .int .i64 2 ∧ n = .int .i64 5))) (fun i _ _ => 2 - (intOf i).toNat)
  case atStart => exact ⟨hid (Below.refl _ _), .inl ⟨rfl, rfl⟩⟩
  case round =>
    obtain ⟨hB, h⟩ := hrel
    have hg := obj_keep HG.out (B4.out.trans (hB.out.mono B4.out.size))
    have d := fun (j : Nat) => cells_of (show wr.heap[g]? = some (.cells _ _ (0, 0)) from hg) j
    rcases h with ⟨rfl, rfl⟩ | ⟨rfl, rfl⟩ | ⟨rfl, rfl⟩
    · have d0 : wr.cell? ⟨g, 0, none⟩ = some (.int .i64 2) := (d 0).trans rfl
      have d1 : wr.cell? ⟨g, 1, none⟩ = some (.string s0) := (d 1).trans rfl
      have d2 : wr.cell? ⟨g, 2, none⟩ = some (.string ⟨#[]⟩) := (d 2).trans rfl
      have d3 : wr.cell? ⟨g, 3, none⟩ = some (.int .u64 0) := (d 3).trans rfl
      have d4 : wr.cell? ⟨g, 4, none⟩ = some (.int .i64 0) := (d 4).trans rfl
      have d5 : wr.cell? ⟨g, 5, none⟩ = some (.slice none 0 0) := (d 5).trans rfl
      clear d hg
      go_wp2_with (go_at_call 44; (with_reducible refine (C3.out s0 _).mono ?_); rintro e w5 ⟨rfl, hb5⟩; have B5 := hid ((hB.out.alloc hB.out.size _).trans (hb5.mono (by have := hB.out.size; simp; omega))); clear hb5)
      go_roundw
      case rel => exact ⟨B5, .inr (.inl ⟨rfl, rfl⟩)⟩
      case measure => simp [intOf]
    · have d6 : wr.cell? ⟨g, 6, none⟩ = some (.int .i64 2) := (d 6).trans rfl
      have d7 : wr.cell? ⟨g, 7, none⟩ = some (.string s1) := (d 7).trans rfl
      have d8 : wr.cell? ⟨g, 8, none⟩ = some (.string ⟨#[]⟩) := (d 8).trans rfl
      have d9 : wr.cell? ⟨g, 9, none⟩ = some (.int .u64 0) := (d 9).trans rfl
      have d10 : wr.cell? ⟨g, 10, none⟩ = some (.int .i64 0) := (d 10).trans rfl
      have d11 : wr.cell? ⟨g, 11, none⟩ = some (.slice none 0 0) := (d 11).trans rfl
      clear d hg
      go_wp2_with (go_at_call 44; (with_reducible refine (C3.out s1 _).mono ?_); rintro e w5 ⟨rfl, hb5⟩; have B5 := hid ((hB.out.alloc hB.out.size _).trans (hb5.mono (by have := hB.out.size; simp; omega))); clear hb5)
      go_roundw
      case rel => exact ⟨B5, .inr (.inr ⟨rfl, rfl⟩)⟩
      case measure => simp [intOf]
    · have E5 := hid (obj_keep E4.out hB.out)
      have Z5 := hid (obj_keep Z4.out hB.out)
      have B5 := hid (B4.out.trans (hB.out.mono B4.out.size))
      clear d
      obtain ⟨⟨x0, x1, x2, x3, x4, x5⟩, _⟩ := six_free (show wr.heap[w.heap.size]? = some (.cells #[.int .i64 2, .string se, .string ⟨#[]⟩, .int .u64 0, .int .i64 0, .slice none 0 0] 25 (0, 0)) from E5.out)
      go_wp2_with (first
        | (go_at_call 68; (with_reducible refine (C4.out se _).mono ?_); rintro e w6 ⟨rfl, hb6⟩; have B6 := hid (B5.out.trans (hb6.mono B5.out.size)); have E6 := hid (obj_keep E5.out hb6); have Z6 := hid (obj_keep Z5.out hb6); clear hb6)
        | (go_at_call 71; (with_reducible refine (backward_any _ _ _ _).mono ?_); rintro e w7 ⟨rfl, hw7⟩; have HW7 := hid hw7; clear hw7))
      obtain ⟨K, hK⟩ : ∃ K, K = w6.heap.size := ⟨_, rfl⟩
      have hsz6 : (w6.alloc (tobj (atomT se) none 0)).heap.size = K + 1 := by simp [hK]
      have e7 : w7 = (w6.alloc (tobj (atomT se) none 0)).alloc (.cells #[.slice (some ⟨g, 0, none⟩) 2 cap] 23) := HW7.out
      have hb67 : Below w6.heap.size w6 w7 := by rw [e7]; exact ((Below.refl _ _).alloc (Nat.le_refl _) _).alloc (by simp) _
      have hs7 : w7.heap.size = K + 2 := by rw [e7]; simp [hK]
      have hK7 : w7.heap[K]? = some (tobj (atomT se) none 0) := by rw [e7, hK]; exact obj_keep (World.alloc_heap_new w6 (tobj (atomT se) none 0)) ((Below.refl _ _).alloc (Nat.le_refl _) _)
      have hM7 : w7.heap[K + 1]? = some (.cells #[.slice (some ⟨g, 0, none⟩) 2 cap] 23 (0, 0)) := by
        have h := World.alloc_heap_new (w6.alloc (tobj (atomT se) none 0)) (.cells #[.slice (some ⟨g, 0, none⟩) 2 cap] 23)
        rw [hsz6] at h
        rw [e7]
        exact h
      have hG7 := obj_keep HG.out (B6.out.trans (hb67.mono B6.out.size))
      have hgK : g ≠ K := by have h1 := lt_of_block HG.out; have h2 := B6.out.size; omega
      have Z7 := hid (obj_keep Z6.out hb67)
      have B7 := hid (B6.out.trans (hb67.mono B6.out.size))
      have hwK : w.heap.size + 2 ≤ K := by have h1 := lt_of_block Z6.out; omega
      rw [← hK]
      clear e7 hb67 HW7 hK
      rw [← wpIn_wide (n := 6)]
      refine wpIn_rangeFunc_ownH rfl (by omega) (gf := 99) (lb := #[.pointer (some ⟨K + 1, 0, none⟩)]) rfl trivial (enters_of Tryz.func99 (by kernel_rfl) rfl)
        (back_stops 5 (by omega) (K + 1) g K cap (atomT s0, none, 0) (atomT s1, none, 0) w7 hM7 hG7 (by omega) hgK) lv_t (fun W l o o' _ h hc _ => lv_b K W l o o' h hc) (Below.refl _ _) (fun x => by cases x <;> rfl)
        (fun pre W => Held K w7 W ∧ BoxT W K w7.heap.size (accT s0 s1 se pre))
        (fun _ _ _ => False)
        (OwnFrom.and held_own (boxT_own _))
        (fun _ _ _ _ _ hs _ _ => hs)
        ⟨Held.refl _ _, none, 0, hK7, leaf_at _ _ _ _ _ _⟩
        (fun x a' W => ∃ Bx, w7.heap.size ≤ Bx ∧ W.heap[Bx]? = some (tobj (atomT (if x then s1 else s0)) none 0) ∧ a' = { tmps := #[.slice (some ⟨g, 0, none⟩) 2 cap, .agg #[.int .i64 2, .string se, .string ⟨#[]⟩, .int .u64 0, .int .i64 0, .slice none 0 0], undef, .pointer (some ⟨w.heap.size, 0, none⟩), .pointer (some ⟨w.heap.size + 1, 0, none⟩), .int .i64 0, .int .i64 0, .int .i64 0, .int .i64 5, undef, u10, .pointer (some ⟨K, 0, none⟩), undef, .pointer (some ⟨Bx, 0, none⟩), .slice (some ⟨g, 0, none⟩) 2 cap, .int .i64 0, .int .i64 0, .bool false, undef, undef, .agg #[.int .i64 2, .string se, .string ⟨#[]⟩, .int .u64 0, .int .i64 0, .slice none 0 0], .int .i64 0, .int .i64 0, .bool false, undef, undef, .agg #[.int .i64 2, .string se, .string ⟨#[]⟩, .int .u64 0, .int .i64 0, .slice none 0 0], .int .i64 1, .slice (some ⟨g, 0, none⟩) 2 cap, .int .i64 2, .int .i64 2, .bool false, u32, u33, u34, u35, u36, u37, u38, u39, .int .i64 5, .bool false, undef, .agg #[.int .i64 2, .string se, .string ⟨#[]⟩, .int .u64 0, .int .i64 0, .slice none 0 0], .agg #[.int .i64 2, .string se, .string ⟨#[]⟩, .int .u64 0, .int .i64 0, .slice none 0 0], .slice (some ⟨g, 0, none⟩) 2 cap, .func (.func 99) #[] #[.pointer (some ⟨K + 1, 0, none⟩)], .int .i64 (if x then 1 else 0), .agg #[.int .i64 2, .string (if x then s1 else s0), .string ⟨#[]⟩, .int .u64 0, .int .i64 0, .slice none 0 0], undef, undef, undef, undef, undef, undef], defers := [] })
        (fun x a' _ X Y row hs hg hr => by obtain ⟨Bx, h1, h2, h3⟩ := hs; exact ⟨Bx, h1, block_own (β := Unit) Bx _ rfl () X Y row h2 hg (fun r e => (hr r e).2), h3⟩)
        ?assign ?body ?done ?stop
      case assign =>
        rintro l pre x W K' ⟨hH, hBx⟩ hK'
        obtain ⟨p, cp, hp, ht⟩ := hBx
        have hlv : ∀ o, Lv K W (W.alloc o) := fun o => Lv.of_below ((Below.refl _ _).alloc (Nat.le_refl _) o)
        have hal : ∀ o, Held K w7 (W.alloc o) := fun o => hH.trans (Held.of_below ((Below.refl _ _).alloc (Nat.le_refl _) o))
        have hbx : ∀ o, BoxT (W.alloc o) K w7.heap.size (accT s0 s1 se pre) := fun o => ⟨p, cp, obj_keep hp ((Below.refl _ _).alloc (Nat.le_refl _) o), (above_keep ht (fun b q v _ h => heap_cell_keep ((Below.refl _ _).alloc (Nat.le_refl _) o) h)).1⟩
        cases x
        · simp only [enc2, El.val, Tm.val, Bool.false_eq_true, if_false] at hK' ⊢
          gi_wp2_with (rw [Oper.semAt_eq _ _ _ (fun c h => by cases h)]; go_simp; try go_bits)
          exact hK' _ _ ((KeepsOthers.alloc _ _).from _) (hlv _) ⟨hal _, hbx _⟩ ⟨W.heap.size, hH.size, World.alloc_heap_new W _, rfl⟩
        · simp only [enc2, El.val, Tm.val, if_true] at hK' ⊢
          gi_wp2_with (rw [Oper.semAt_eq _ _ _ (fun c h => by cases h)]; go_simp; try go_bits)
          exact hK' _ _ ((KeepsOthers.alloc _ _).from _) (hlv _) ⟨hal _, hbx _⟩ ⟨W.heap.size, hH.size, World.alloc_heap_new W _, rfl⟩
      case body =>
        rintro l pre x a' W hl ⟨r, hr⟩ ⟨hH, p, cp, hp, ht⟩ ⟨Bx, hBx, bX, rfl⟩ hlt
        generalize hacc : accT s0 s1 se pre = acc at *
        have hsnoc := accT_snoc s0 s1 se pre x
        rw [hacc] at hsnoc
        generalize (if x = true then s1 else s0) = sx at *
        generalize (if x = true then (1 : Int) else 0) = xi at *
        have hS := hid hsnoc
        clear hsnoc hacc
        have hmix : Tryz.prog.follows .mixedOrders = true := by kernel_rfl
        have HPK := hid hp
        have HTK := hid ht
        have HH := hid hH
        have hKb : K ≠ Bx := by omega
        have hKw : K < w7.heap.size := by omega
        have hKl := lt_of_block hp
        obtain ⟨⟨x0, x1, x2, x3, x4, x5⟩, _⟩ := six_free (show W.heap[Bx]? = some (.cells #[.int .i64 2, .string sx, .string ⟨#[]⟩, .int .u64 0, .int .i64 0, .slice none 0 0] 25 (0, 0)) from bX)
        obtain ⟨⟨y0, y1, y2, y3, y4, y5⟩, _⟩ := six_free (show W.heap[K]? = some (.cells #[.int .i64 acc.kind, .string acc.name, .string acc.num, .int .u64 acc.bits, .int .i64 acc.var, .slice p acc.args.length cp] 25 (0, 0)) from hp)
        clear hp ht hH bX
        gi_wp2
        refine round_any (by kernel_rfl) (by kernel_rfl) ?_
        refine wpAny_ready (rs := [0, 2]) (by kernel_rfl) (by simp) ?_
        refine AllReady.cons rfl (fun K' hK' => ?_) ?_
        · go_simp
          refine hK' _ _ ?_
          clear hK' K'
          (try simp only [Act.put, List.setIfInBounds_toArray, List.set_cons_zero, List.set_cons_succ])
          refine wpAny_ready (rs := [1, 2]) (by kernel_rfl) (by simp) ?_
          refine AllReady.cons rfl (fun K' hK' => ?_) ?_
          · go_simp
            go_at_call 68
            (with_reducible refine (C4.out sx _).mono ?_)
            rintro e w8 ⟨rfl, hb8⟩
            have B8 := hid hb8
            have H8 := hid (show w8.heap[K]? = some (.cells #[.int .i64 acc.kind, .string acc.name, .string acc.num, .int .u64 acc.bits, .int .i64 acc.var, .slice p acc.args.length cp] 25 (0, 0)) from obj_keep (show W.drew.heap[K]? = some (tobj acc p cp) from HPK.out) hb8)
            have H9 := hid (show (w8.alloc (.cells #[.int .i64 2, .string sx, .string ⟨#[]⟩, .int .u64 0, .int .i64 0, .slice none 0 0, .int .i64 acc.kind, .string acc.name, .string acc.num, .int .u64 acc.bits, .int .i64 acc.var, .slice p acc.args.length cp] 25)).heap[K]? = some (.cells #[.int .i64 acc.kind, .string acc.name, .string acc.num, .int .u64 acc.bits, .int .i64 acc.var, .slice p acc.args.length cp] 25 (0, 0)) from obj_keep H8.out ((Below.refl _ _).alloc (Nat.le_refl _) _))
            obtain ⟨⟨z0, z1, z2, z3, z4, z5⟩, _⟩ := six_free H8.out
            obtain ⟨⟨t0, t1, t2, t3, t4, t5⟩, ⟨f0, f1, f2, f3, f4, f5⟩⟩ := six_free H9.out
            clear hb8
            refine hK' _ _ ?_
            clear hK' K'
            (try simp only [Act.put, List.setIfInBounds_toArray, List.set_cons_zero, List.set_cons_succ])
            refine wpAny_ready (rs := [2]) (by kernel_rfl) (by simp) ?_
            refine AllReady.cons rfl (fun K' hK' => ?_) AllReady.nil
            go_simp
            refine hK' _ _ ?_
            clear hK' K'
            (try simp only [Act.put, List.setIfInBounds_toArray, List.set_cons_zero, List.set_cons_succ])
            refine wpAny_ready (rs := [3]) (by kernel_rfl) (by simp) ?_
            refine AllReady.cons rfl (fun K' hK' => ?_) AllReady.nil
            go_simp
            refine hK' _ _ ?_
            clear hK' K'
            (try simp only [Act.put, List.setIfInBounds_toArray, List.set_cons_zero, List.set_cons_succ])
            refine wpAny_ready (rs := [4]) (by kernel_rfl) (by simp) ?_
            refine AllReady.cons rfl (fun K' hK' => ?_) AllReady.nil
            go_simp
            refine hK' _ _ ?_
            clear hK' K'
            (try simp only [Act.put, List.setIfInBounds_toArray, List.set_cons_zero, List.set_cons_succ])
            refine wpAny_ready (rs := [5]) (by kernel_rfl) (by simp) ?_
            refine AllReady.cons rfl (fun K' hK' => ?_) AllReady.nil
            go_simp
            refine hK' _ _ ?_
            clear hK' K'
            refine wpAny_done (by kernel_rfl) ?_ _
            refine ⟨rfl, ?_⟩
            have hE := body_end (acc := acc) (sx := sx) hKw HPK.out HTK.out HH.out (((Below.refl W.heap.size W).drew).trans B8.out) _ rfl
            rw [← hS.out] at hE
            exact hE
          refine AllReady.cons rfl (fun K' hK' => ?_) AllReady.nil
          go_simp
          refine hK' _ _ ?_
          clear hK' K'
          (try simp only [Act.put, List.setIfInBounds_toArray, List.set_cons_zero, List.set_cons_succ])
          refine wpAny_ready (rs := [1]) (by kernel_rfl) (by simp) ?_
          refine AllReady.cons rfl (fun K' hK' => ?_) AllReady.nil
          go_simp
          go_at_call 68
          (with_reducible refine (C4.out sx _).mono ?_)
          rintro e w8 ⟨rfl, hb8⟩
          have B8 := hid hb8
          have H8 := hid (show w8.heap[K]? = some (.cells #[.int .i64 acc.kind, .string acc.name, .string acc.num, .int .u64 acc.bits, .int .i64 acc.var, .slice p acc.args.length cp] 25 (0, 0)) from obj_keep (show W.drew.heap[K]? = some (tobj acc p cp) from HPK.out) hb8)
          have H9 := hid (show (w8.alloc (.cells #[.int .i64 2, .string sx, .string ⟨#[]⟩, .int .u64 0, .int .i64 0, .slice none 0 0, .int .i64 acc.kind, .string acc.name, .string acc.num, .int .u64 acc.bits, .int .i64 acc.var, .slice p acc.args.length cp] 25)).heap[K]? = some (.cells #[.int .i64 acc.kind, .string acc.name, .string acc.num, .int .u64 acc.bits, .int .i64 acc.var, .slice p acc.args.length cp] 25 (0, 0)) from obj_keep H8.out ((Below.refl _ _).alloc (Nat.le_refl _) _))
          obtain ⟨⟨z0, z1, z2, z3, z4, z5⟩, _⟩ := six_free H8.out
          obtain ⟨⟨t0, t1, t2, t3, t4, t5⟩, ⟨f0, f1, f2, f3, f4, f5⟩⟩ := six_free H9.out
          clear hb8
          refine hK' _ _ ?_
          clear hK' K'
          (try simp only [Act.put, List.setIfInBounds_toArray, List.set_cons_zero, List.set_cons_succ])
          refine wpAny_ready (rs := [3]) (by kernel_rfl) (by simp) ?_
          refine AllReady.cons rfl (fun K' hK' => ?_) AllReady.nil
          go_simp
          refine hK' _ _ ?_
          clear hK' K'
          (try simp only [Act.put, List.setIfInBounds_toArray, List.set_cons_zero, List.set_cons_succ])
          refine wpAny_ready (rs := [4]) (by kernel_rfl) (by simp) ?_
          refine AllReady.cons rfl (fun K' hK' => ?_) AllReady.nil
          go_simp
          refine hK' _ _ ?_
          clear hK' K'
          (try simp only [Act.put, List.setIfInBounds_toArray, List.set_cons_zero, List.set_cons_succ])
          refine wpAny_ready (rs := [5]) (by kernel_rfl) (by simp) ?_
          refine AllReady.cons rfl (fun K' hK' => ?_) AllReady.nil
          go_simp
          refine hK' _ _ ?_
          clear hK' K'
          refine wpAny_done (by kernel_rfl) ?_ _
          refine ⟨rfl, ?_⟩
          have hE := body_end (acc := acc) (sx := sx) hKw HPK.out HTK.out HH.out (((Below.refl W.heap.size W).drew).trans B8.out) _ rfl
          rw [← hS.out] at hE
          exact hE
        refine AllReady.cons rfl (fun K' hK' => ?_) AllReady.nil
        go_simp
        refine hK' _ _ ?_
        clear hK' K'
        (try simp only [Act.put, List.setIfInBounds_toArray, List.set_cons_zero, List.set_cons_succ])
        refine wpAny_ready (rs := [0]) (by kernel_rfl) (by simp) ?_
        refine AllReady.cons rfl (fun K' hK' => ?_) AllReady.nil
        go_simp
        refine hK' _ _ ?_
        clear hK' K'
        (try simp only [Act.put, List.setIfInBounds_toArray, List.set_cons_zero, List.set_cons_succ])
        refine wpAny_ready (rs := [1]) (by kernel_rfl) (by simp) ?_
        refine AllReady.cons rfl (fun K' hK' => ?_) AllReady.nil
        go_simp
        go_at_call 68
        (with_reducible refine (C4.out sx _).mono ?_)
        rintro e w8 ⟨rfl, hb8⟩
        have B8 := hid hb8
        have H8 := hid (show w8.heap[K]? = some (.cells #[.int .i64 acc.kind, .string acc.name, .string acc.num, .int .u64 acc.bits, .int .i64 acc.var, .slice p acc.args.length cp] 25 (0, 0)) from obj_keep (show W.drew.heap[K]? = some (tobj acc p cp) from HPK.out) hb8)
        have H9 := hid (show (w8.alloc (.cells #[.int .i64 2, .string sx, .string ⟨#[]⟩, .int .u64 0, .int .i64 0, .slice none 0 0, .int .i64 acc.kind, .string acc.name, .string acc.num, .int .u64 acc.bits, .int .i64 acc.var, .slice p acc.args.length cp] 25)).heap[K]? = some (.cells #[.int .i64 acc.kind, .string acc.name, .string acc.num, .int .u64 acc.bits, .int .i64 acc.var, .slice p acc.args.length cp] 25 (0, 0)) from obj_keep H8.out ((Below.refl _ _).alloc (Nat.le_refl _) _))
        obtain ⟨⟨z0, z1, z2, z3, z4, z5⟩, _⟩ := six_free H8.out
        obtain ⟨⟨t0, t1, t2, t3, t4, t5⟩, ⟨f0, f1, f2, f3, f4, f5⟩⟩ := six_free H9.out
        clear hb8
        refine hK' _ _ ?_
        clear hK' K'
        (try simp only [Act.put, List.setIfInBounds_toArray, List.set_cons_zero, List.set_cons_succ])
        refine wpAny_ready (rs := [3]) (by kernel_rfl) (by simp) ?_
        refine AllReady.cons rfl (fun K' hK' => ?_) AllReady.nil
        go_simp
        refine hK' _ _ ?_
        clear hK' K'
        (try simp only [Act.put, List.setIfInBounds_toArray, List.set_cons_zero, List.set_cons_succ])
        refine wpAny_ready (rs := [4]) (by kernel_rfl) (by simp) ?_
        refine AllReady.cons rfl (fun K' hK' => ?_) AllReady.nil
        go_simp
        refine hK' _ _ ?_
        clear hK' K'
        (try simp only [Act.put, List.setIfInBounds_toArray, List.set_cons_zero, List.set_cons_succ])
        refine wpAny_ready (rs := [5]) (by kernel_rfl) (by simp) ?_
        refine AllReady.cons rfl (fun K' hK' => ?_) AllReady.nil
        go_simp
        refine hK' _ _ ?_
        clear hK' K'
        refine wpAny_done (by kernel_rfl) ?_ _
        refine ⟨rfl, ?_⟩
        have hE := body_end (acc := acc) (sx := sx) hKw HPK.out HTK.out HH.out (((Below.refl W.heap.size W).drew).trans B8.out) _ rfl
        rw [← hS.out] at hE
        exact hE
      case done =>
        rintro Dd ys W hDd hys ⟨hH, p, cp, hp, ht⟩ hKD
        subst hys
        have hp : W.heap[K]? = some (tobj (consT (atomT s0) (consT (atomT s1) (atomT se))) p cp) := hp
        have ht : TmAt (above W w7.heap.size) (consT (atomT s0) (consT (atomT s1) (atomT se))) p := ht
        obtain ⟨tot, htot⟩ : ∃ tot, tot = consT (atomT s0) (consT (atomT s1) (atomT se)) := ⟨_, rfl⟩
        rw [← htot] at hp ht
        have HTOT := hid htot
        clear htot
        have HZ := hid (show W.heap[w.heap.size + 1]? = some (.cells #[.int .i64 0, .string ⟨#[]⟩, .string ⟨#[]⟩, .int .u64 0, .int .i64 0, .slice none 0 0] 25 (0, 0)) from hH.block Z7.out (by omega))
        obtain ⟨⟨z0, z1, z2, z3, z4, z5⟩, ⟨f0, f1, f2, f3, f4, f5⟩⟩ := six_free HZ.out
        obtain ⟨⟨y0, y1, y2, y3, y4, y5⟩, _⟩ := six_free (show W.heap[K]? = some (.cells #[.int .i64 tot.kind, .string tot.name, .string tot.num, .int .u64 tot.bits, .int .i64 tot.var, .slice p tot.args.length cp] 25 (0, 0)) from hp)
        have HP := hid hp
        have HT := hid ht
        have HH := hid hH
        have HD := hid hKD
        clear hp ht hH hKD
        go_wp2
        obtain ⟨e1, e2, e3, e4⟩ := list_end (by omega) hwK HP.out HT.out HH.out B7.out HZ.out hDd HD.out _ rfl
        refine ⟨by simp, .inl ⟨_, _, rfl, run_takeDeferred e1, ?_⟩⟩
        refine ⟨_, results_pair (b := w.heap.size + 1) (q := p) (cap := cp) rfl _ _ _ ⟨by rfl, by rfl⟩ e2, p, cp, by rw [HTOT.out]; rfl, by rw [← HTOT.out]; exact e3, e4⟩
      case stop =>
        rintro Dd c pre W _ _ h _
        exact h.elim
end Go.Proofs.YtkapejcbmonfkaaGreatDoor
