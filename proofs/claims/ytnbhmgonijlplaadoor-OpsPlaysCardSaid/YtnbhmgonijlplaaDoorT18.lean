/- Walks: maps.Values over a table, for every loop body: each operator once, in some order. No condition but those that each theorem names. -/
import Derived.RangeFuncNested
import Derived.RangeFuncBound
import Derived.RangeFuncCalls
import Derived.RangeFuncLeaves
import Derived.Shelf.Abstract
import Derived.WalkKit
import Derived.OwnWalkIn
import Derived.TacticsInMore
import Derived.LoopNIn
import Derived.LoopIn
import Derived.Sort.MapsRangeIn
import Derived.Test.YtnbhmgonijlplaaDoorT17
namespace Go.Proofs.YtnbhmgonijlplaaDoor
open Go.RowKit Go.Shelf Go.Maps

section
variable {P : Program}
theorem lits_int_inv {d : Nat} {t : TypeId} (h : P.underlying t = some (.int .i64)) {x : Value} {ls : List Lit} (hl : P.keyLits d t [x] = some ls) : ∃ c : Int, x = .int .i64 c ∧ (Lit.int .i64 c).wf = true ∧ ls = [.int .i64 c] := by
  cases d with
  | zero => simp [Program.keyLits] at hl
  | succ d =>
    unfold Program.keyLits at hl
    rw [h] at hl
    cases x <;> simp at hl
    rename_i q c
    obtain ⟨⟨rfl, hw⟩, rfl⟩ := hl
    exact ⟨c, rfl, hw, rfl⟩
theorem lits_str_inv {d : Nat} {t : TypeId} (h : P.underlying t = some .string) {x : Value} {ls : List Lit} (hl : P.keyLits d t [x] = some ls) : ∃ s : ByteArray, x = .string s ∧ s.size ≤ maxLen ∧ ls = [.string s.data.toList] := by
  cases d with
  | zero => simp [Program.keyLits] at hl
  | succ d =>
    unfold Program.keyLits at hl
    rw [h] at hl
    cases x <;> simp at hl
    rename_i s
    obtain ⟨hs, rfl⟩ := hl
    exact ⟨s, rfl, hs, rfl⟩
theorem lits_pair_inv {d : Nat} {t t1 t2 : TypeId} {f1 f2 : Field} (h : P.underlying t = some (.struct #[f1, f2])) (hc : P.cellsOf t = 2) (e1 : f1.type = t1) (e2 : f2.type = t2)
    (o1 : f1.offset = 0) (o2 : f2.offset = 1) (c1 : P.cellsOf t1 = 1) (c2 : P.cellsOf t2 = 1) {x y : Value} {ls : List Lit} (hl : P.keyLits (d + 1) t [x, y] = some ls) :
    ∃ lx ly, P.keyLits d t1 [x] = some lx ∧ P.keyLits d t2 [y] = some ly ∧ ls = lx ++ ly := by
  subst e1 e2
  unfold Program.keyLits at hl
  rw [h] at hl
  simp only [hc, List.length_cons, List.length_nil] at hl
  split at hl
  · cases hx : P.keyLits d f1.type [x] with
    | none => simp [o1, o2, c1, c2, hx] at hl
    | some lx =>
      cases hy : P.keyLits d f2.type [y] with
      | none => simp [o1, o2, c1, c2, hx, hy] at hl
      | some ly =>
        simp [o1, o2, c1, c2, hx, hy] at hl
        exact ⟨lx, ly, rfl, rfl, hl.symm⟩
  · cases hl
end
set_option maxRecDepth 100000 in
theorem keyOf_inv {v : Value} {l : Lit} (h : keyOf Tryd.prog 68 v = some l) : ∃ x : Int × ByteArray, v = kval x.1 x.2 ∧ Wfk x.1 x.2 ∧ l = kl x.1 x.2 := by
  unfold keyOf at h
  rw [Tryd.underlying68] at h
  simp only [keyT68, Bool.true_and] at h
  split at h
  · rename_i hf
    obtain ⟨ls, hls, rfl⟩ := Option.map_eq_some_iff.1 h
    rw [size_types] at hls
    cases v with
    | agg cs =>
      have hsz : cs.size = 2 := by simpa [Value.formed, Tryd.underlying68, cells68] using hf
      obtain ⟨x, y, rfl⟩ : ∃ x y, cs = #[x, y] := ⟨cs[0], cs[1], by
        apply Array.ext (by simp [hsz])
        intro i h1 h2
        have : i = 0 ∨ i = 1 := by simp at h2; omega
        rcases this with rfl | rfl <;> rfl⟩
      have hls : Tryd.prog.keyLits (152 + 1 + 1 + 1) 68 [x, y] = some ls := hls
      obtain ⟨lx, ly, hx, hy, rfl⟩ := lits_pair_inv Tryd.underlying68 cells68 rfl rfl rfl rfl cells3 cells9 hls
      obtain ⟨c, rfl, hw, rfl⟩ := lits_int_inv Tryd.underlying3 hx
      obtain ⟨s, rfl, hs, rfl⟩ := lits_str_inv Tryd.underlying9 hy
      exact ⟨(c, s), rfl, ⟨hw, hs⟩, rfl⟩
    | _ => simp [Value.formed, Tryd.underlying68] at hf
  · cases h

/-- What has come, of a table, while some is left. -/
structure Came (G : Fn) (left : Lit → Bool) (xs : List Opn) : Prop where
  nd : xs.Nodup
  old : ∀ x ∈ xs, G (cls x.typ) x.name = some x ∧ left (kl (cls x.typ) x.name) = false
  all : ∀ c s x, Wfk c s → G c s = some x → x ∈ xs ∨ left (kl c s) = true
/-- All of a table, in some order. -/
structure AllOf (G : Fn) (xs : List Opn) : Prop where
  nd : xs.Nodup
  mem : ∀ x, x ∈ xs ↔ G (cls x.typ) x.name = some x
theorem key_same {c d : Int} {s t : ByteArray} (h : Wfk c s) (k : Wfk d t) : (kl c s).sameKey (kl d t) = decide (c = d ∧ s = t) := by
  unfold kl Lit.sameKey
  rw [Bool.eq_iff_iff, beq_iff_eq, decide_eq_true_iff]
  constructor
  · intro e
    exact kl_inj h k (congrArg Lit.string e)
  · rintro ⟨rfl, rfl⟩; rfl
theorem Came.start {G : Fn} {left : Lit → Bool} (h : ∀ c s x, Wfk c s → G c s = some x → left (kl c s) = true) : Came G left [] :=
  ⟨List.nodup_nil, fun x hx => absurd hx (by simp), fun c s x hk hx => .inr (h c s x hk hx)⟩
theorem Good.wf {G : Fn} (g : Good G) {c : Int} {s : ByteArray} {x : Opn} (h : G c s = some x) : Wfk c s := by
  refine ask_wf ?_ (g.len _ _ _ h)
  have := g.cl _ _ _ h
  omega
theorem Came.step {G : Fn} {left : Lit → Bool} {xs : List Opn} (g : Good G) (h : Came G left xs) {c : Int} {s : ByteArray} {x : Opn} (hk : Wfk c s) (hx : G c s = some x) (hl : left (kl c s) = true) :
    Came G (fun z => left z && !z.sameKey (kl c s)) (xs ++ [x]) := by
  obtain ⟨e1, e2⟩ := g.key _ _ _ hx
  have hnew : x ∉ xs := fun hm => by
    have := (h.old x hm).2
    rw [e1, e2, hl] at this
    cases this
  refine ⟨List.nodup_append.2 ⟨h.nd, by simp, fun a ha b hb => by simp at hb; subst hb; exact fun e => hnew (e ▸ ha)⟩, fun y hy => ?_, fun d t y hd hy => ?_⟩
  · rcases List.mem_append.1 hy with hy | hy
    · obtain ⟨h1, h2⟩ := h.old y hy
      exact ⟨h1, by rw [h2]; rfl⟩
    · simp at hy
      subst hy
      rw [e1, e2]
      refine ⟨hx, ?_⟩
      rw [key_same hk hk]
      simp
  · by_cases e : d = c ∧ t = s
    · obtain ⟨rfl, rfl⟩ := e
      rw [hx] at hy
      cases hy
      exact .inl (by simp)
    · rcases h.all d t y hd hy with hm | hm
      · exact .inl (List.mem_append_left _ hm)
      · refine .inr ?_
        rw [hm, key_same hd hk]
        simp [e]
theorem Came.done {G : Fn} {left : Lit → Bool} {xs : List Opn} (g : Good G) (h : Came G left xs) (hl : ∀ z, left z = false) : AllOf G xs :=
  ⟨h.nd, fun x => ⟨fun hx => (h.old x hx).1, fun hx => (h.all _ _ _ (g.wf hx) hx).elim id fun e => by rw [hl] at e; cases e⟩⟩

theorem Tab.has {w : World} {b n : Nat} {G : Fn} (h : Tab w b n G) : ∃ D, w.ownsMap Tryd.prog 68 Rop b n D ∧ Maps.size D ≤ n ∧ (∀ c s x, Wfk c s → G c s = some x → Maps.has D (kl c s) = true) ∧
    (∀ c s, Wfk c s → ∀ y : DataW Unit, (∀ zd, D.atKey (kl c s) zd = y) → ∃ x, G c s = some x ∧ y = x.dat) := by
  obtain ⟨D, h1, h2, h3⟩ := h
  refine ⟨D, h1, ?_, fun c s x hk hx => has_true_of_atKey (y := x.dat) fun zd => by rw [h3 c s hk zd, hx], fun c s hk y hy => ?_⟩
  · obtain ⟨es, clock, hb, F, hs, rfl⟩ := h1
    simp [Maps.size, length_sorted]
    exact hs
  · cases e : G c s with
    | none =>
      have a := hy (.lit (.bool true))
      have b := hy (.lit (.bool false))
      rw [h3 c s hk, e] at a b
      simp only at a b
      rw [← a] at b
      cases b
    | some x =>
      refine ⟨x, rfl, ?_⟩
      have a := hy (.lit (.bool true))
      rw [h3 c s hk, e] at a
      exact a.symm

theorem values53_in (F : Fence) (n : Nat) (h : F.fn 53) (hro : F.round = none) (mb : Option Nat) (w : World) :
    CallsIn F n Tryd.prog 53 #[.map mb] w fun e w' => e = .returned (.func (.func 62) #[] #[.pointer (some ⟨w.heap.size, 0, none⟩)]) ∧ w' = w.alloc (.cells #[.map mb] 58) := by
  refine callsIn_of_wp Tryd.func53 rfl h ?_ hro
  simp only [Tryd.ntmps53, List.size_toArray, List.length_cons, List.length_nil, Nat.reduceAdd, Nat.reduceSub, Array.replicate_succ, Array.replicate_zero, List.push_toArray, List.append_toArray, List.nil_append, List.cons_append]
  gi_wp2
  refine bodyPost_ret (results_tmp rfl _ _ _) rfl ?_
  exact ⟨rfl, rfl⟩

set_option maxRecDepth 100000 in
set_option maxHeartbeats 2000000 in
/-- What maps.Values's function gives a loop body, whatever that is, if it leaves the maps alone. -/
theorem vals_in (F : Fence) (n : Nat) (h62 : F.fn 62) (hro : F.round = none) (hn : 1 ≤ n) (l Bm b nn : Nat) (G : Fn) (g : Good G) (J Jx : List Opn → World → Prop)
    (hY : ∀ pre x W, J pre W → pre.length < nn → YieldAt F (n - 1) Tryd.prog l #[x.val] W fun e W' =>
      (e = .returned (.bool true) ∧ J (pre ++ [x]) W' ∧ KeepsWalks W W') ∨ (e = .returned (.bool false) ∧ Jx (pre ++ [x]) W'))
    (W : World) (hJ : AbidesFrom W.heap.size J) (hm : W.cell? ⟨Bm, 0, none⟩ = some (.map (some b))) (hT : Tab W b nn G) (h0 : J [] W) :
    CallsIn F n Tryd.prog 62 #[.func (.yield l) #[] #[], .pointer (some ⟨Bm, 0, none⟩)] W fun e W' => (∃ v, e = .returned v) ∧
      ((∃ xs, (AllOf G xs ∧ xs.length ≤ nn) ∧ J xs W') ∨ (∃ pre, True ∧ Jx pre W')) := by
  obtain ⟨D, hown, hsz, hhas, hat⟩ := hT.has
  have HAT := hid hat
  have HAS := hid hhas
  clear hat hhas hT
  refine callsIn_of_wp Tryd.func62 rfl h62 ?_ hro
  simp only [Tryd.ntmps62, List.size_toArray, List.length_cons, List.length_nil, Nat.reduceAdd, Nat.reduceSub, Array.replicate_succ, Array.replicate_zero, List.push_toArray, List.append_toArray, List.nil_append, List.cons_append]
  gi_wp2_with (first
    | (gi_at_range; refine wpListIn_range_own _ rfl _ 58 rfl 68 39 keyed Tryd.underlying58 _ b nn _ rfl hown ?_; intro w0 hrg0 hg0 hs0)
    | gi_in)
  go_frame
  gi_loopw [4] (fun _ wr => ∃ (left : Lit → Bool) (cnt : Nat) (xs : List Opn), wr.ranges Tryd.prog 68 Rop b W.heap.size nn D left cnt ∧ xs.length + cnt ≤ nn ∧ Came G left xs ∧ J xs wr)
    (fun _ wr => wr.rangeLeft b W.heap.size)
  case atStart =>
    exact ⟨_, _, [], hrg0, by simpa using hsz, Came.start HAS.out, hJ [] W w0 none h0 hg0 (fun r e => by cases e)⟩
  case round =>
    obtain ⟨left, cnt, xs, hrg, hcs, hC, hJs⟩ := hrel
    gi_wp2_with (first
      | (gi_at_next; refine wpListIn_next_ranges _ rfl _ rfl 68 keyed Rop (fun x : Int × ByteArray => kval x.1 x.2) Opn.val (fun key kl hk => by obtain ⟨x, hx, _⟩ := keyOf_inv hk; exact ⟨x, hx⟩) (fun v y hv => by obtain ⟨x, hx, _⟩ := Rop_inv hv; exact ⟨x, hx⟩) b W.heap.size nn _ _ _ rfl hrg ?_ ?_)
      | gi_in)
    · intro hc0 hl0
      gi_wp2
      go_end0
      exact ⟨⟨_, rfl⟩, .inl ⟨_, ⟨hC.done g hl0, by omega⟩, hJs⟩⟩
    · intro k1 s1 c kl' yd yp w2 cnt2 hkey hlk hv hat hrg2 hlt hg2 hs2 hen
      obtain ⟨x', ex, hk, rfl⟩ := keyOf_inv hkey
      obtain ⟨k2, s2⟩ := x'
      have e12 : k1 = k2 ∧ s1 = s2 := by unfold kval at ex; simpa using ex
      obtain ⟨rfl, rfl⟩ := e12
      simp only at hk hlk hat hrg2 hen
      have hyd : yd = c.dat := by rw [Rop_val] at hv; exact (Prod.mk.inj (Option.some.inj hv)).1.symm
      obtain ⟨x0, hx0, e0⟩ := HAT.out k1 s1 hk yd hat
      obtain rfl : c = x0 := dat_inj (by rw [← e0, hyd])
      clear hyd e0 hat hkey ex hv
      have hJ2 : J xs w2 := hJ _ wr w2 (some W.heap.size) hJs hg2 (fun r e => by cases e; exact ⟨Nat.le_refl _, hrg.iter_walk⟩)
      have hJ3 : J xs (w2.alloc (.cells #[.string c.name, .int .i64 c.typ, .int .i64 c.pri] 39)) := hJ _ w2 _ none hJ2 (World.grownBy_alloc _ _ _) (fun r e => by cases e)
      obtain ⟨fn, tmps, assign, body, hy, hR⟩ := hY xs c _ hJ3 (by omega)
      have hC2 := hid (hC.step g hk hx0 hlk)
      have hrg3 := hrg2.alloc (.cells #[.string c.name, .int .i64 c.typ, .int .i64 c.pri] 39)
      unfold kval Opn.val at hen
      unfold Opn.val at hy
      have HR := hid hrg2
      clear hs2 hrg2 hJ2
      gi_wp2
      refine hR.mono ?_
      rintro e W3 (⟨rfl, hJ4, hk4⟩ | ⟨rfl, hJx4⟩)
      · gi_wp2
        have hrg4 := hrg3.of_walks hk4
        go_roundw
        case rel => exact ⟨_, cnt2, xs ++ [c], hrg4, by simp; omega, hC2.out, hJ4⟩
        case measure => rw [hrg4.left_eq, hrg.left_eq]; exact hlt
      · gi_wp2
        refine bodyPost_ret (results_none rfl _ _ _) rfl ?_
        exact ⟨⟨_, rfl⟩, .inr ⟨xs ++ [c], trivial, hJx4⟩⟩
end Go.Proofs.YtnbhmgonijlplaaDoor
