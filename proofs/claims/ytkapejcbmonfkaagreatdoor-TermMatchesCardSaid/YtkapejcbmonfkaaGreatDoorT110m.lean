/- A list of binds that rises by its variables, and where a new one comes: plain. No condition but those that each theorem names. Walks: maps.Keys over a map of terms, for every loop body: each key once, in some order. No condition but those that each theorem names. Walks: slices.AppendSeq, slices.Collect and slices.Sorted of numbers over the keys of a map of terms. No condition but those that each theorem names. Walks: slices.Sorted of the keys of a map of terms: all of them, rising. No condition but those that each theorem names. Walk: slices.Sorted of the keys of a map of terms. No condition but those that the theorem names. -/
import Derived.Test.YtkapejcbmonfkaaGreatDoorT105m
import Derived.RangeFuncNested
import Derived.RangeFuncBound
import Derived.RangeFuncCalls
import Derived.RangeFuncLeaves
import Derived.Shelf.Abstract
import Derived.WalkKit
import Derived.OwnWalkIn
import Derived.TacticsInMore
import Derived.LoopNIn
import Derived.LoopIn
import Derived.Sort.MapsRangeIn
import Derived.Maps.RangeWalk
import Derived.RangeFuncBox
import Derived.Maps.AppendAt
import Derived.Sort.OwnSortedInts
namespace Go.Proofs.YtkapejcbmonfkaaGreatDoor

/-- Binds that rise by their variables. -/
def Rises (l : List Bnd) : Prop := l.Pairwise fun x y => x.1 < y.1
theorem insB_split : ∀ (l : List Bnd) (x : Bnd) (k : Nat), k ≤ l.length → (∀ j (h : j < l.length), j < k → l[j].1 ≤ x.1) → (∀ j (h : j < l.length), k ≤ j → x.1 < l[j].1) → insB l x = l.take k ++ x :: l.drop k
  | [], x, k, hk, _, _ => by
    have : k = 0 := by simpa using hk
    subst this
    rfl
  | y :: l, x, 0, _, _, h => by
    have h0 := h 0 (by simp) (Nat.le_refl _)
    simp only [List.getElem_cons_zero] at h0
    unfold insB
    rw [if_pos h0]
    rfl
  | y :: l, x, k + 1, hk, h1, h2 => by
    have h0 := h1 0 (by simp) (by omega)
    simp only [List.getElem_cons_zero] at h0
    unfold insB
    rw [if_neg (by omega)]
    have ih := insB_split l x k (by simpa using hk) (fun j hj hjk => by
      have h3 := h1 (j + 1) (Nat.succ_lt_succ hj) (by omega)
      exact h3) (fun j hj hjk => by
      have h3 := h2 (j + 1) (Nat.succ_lt_succ hj) (by omega)
      exact h3)
    rw [ih]
    rfl
theorem insB_mem : ∀ (l : List Bnd) (x y : Bnd), y ∈ insB l x → y = x ∨ y ∈ l
  | [], x, y, h => by simpa [insB] using h
  | z :: l, x, y, h => by
    unfold insB at h
    split at h
    · rcases List.mem_cons.1 h with h | h
      · exact .inl h
      · exact .inr h
    · rcases List.mem_cons.1 h with h | h
      · exact .inr (by rw [h]; simp)
      · rcases insB_mem l x y h with h | h
        · exact .inl h
        · exact .inr (List.mem_cons_of_mem _ h)
theorem insB_length : ∀ (l : List Bnd) (x : Bnd), (insB l x).length = l.length + 1
  | [], x => rfl
  | y :: l, x => by
    unfold insB
    split
    · rfl
    · simp [insB_length l x]
theorem Rises.ins : ∀ {l : List Bnd} {x : Bnd}, Rises l → lookB l x.1 = none → Rises (insB l x)
  | [], x, _, _ => by simp [insB, Rises]
  | y :: l, x, h, hl => by
    have hy : y.1 ≠ x.1 := fun e => by simp [lookB, e] at hl
    have hl2 : lookB l x.1 = none := by
      unfold lookB at hl
      rwa [if_neg hy] at hl
    unfold Rises at h
    rw [List.pairwise_cons] at h
    unfold insB
    split
    · rename_i hlt
      unfold Rises
      rw [List.pairwise_cons]
      refine ⟨fun z hz => ?_, by rw [List.pairwise_cons]; exact h⟩
      rcases List.mem_cons.1 hz with rfl | hz
      · exact hlt
      · have := h.1 z hz; omega
    · rename_i hlt
      unfold Rises
      rw [List.pairwise_cons]
      refine ⟨fun z hz => ?_, Rises.ins (show Rises l from h.2) hl2⟩
      rcases insB_mem l x z hz with rfl | hz
      · omega
      · exact h.1 z hz
/-- Where a rising list passes a number from behind. -/
theorem Rises.low {l : List Bnd} (h : Rises l) (n : Int) (k : Nat) (hk : k ≤ l.length) (h0 : ∀ (h1 : 0 < k), (l[k - 1]'(by omega)).1 ≤ n) : ∀ j (hj : j < l.length), j < k → l[j].1 ≤ n := fun j hj hjk => by
  have h2 := h0 (by omega)
  rcases Nat.lt_or_ge j (k - 1) with h3 | h3
  · have h4 := List.pairwise_iff_getElem.1 h j (k - 1) hj (by omega) h3
    omega
  · have : j = k - 1 := by omega
    subst this
    exact h2
mutual
theorem matT_rises : ∀ (t u : Tm) (S S' : List Bnd), Rises S → matT t u S = some S' → Rises S'
  | .mk k n u b v l, t, S, S', h, e => by
    rw [matT] at e
    split at e
    · split at e
      · split at e
        · obtain rfl := Option.some.inj e; exact h
        · cases e
      · rename_i hl
        obtain rfl := Option.some.inj e
        exact h.ins hl
    · split at e
      · exact matL_rises l t.args S S' h e
      · cases e
theorem matL_rises : ∀ (l m : List Tm) (S S' : List Bnd), Rises S → matL l m S = some S' → Rises S'
  | [], _, S, S', h, e => by rw [matL] at e; obtain rfl := Option.some.inj e; exact h
  | _ :: _, [], S, S', h, e => by rw [matL] at e; cases e
  | t :: l, u :: m, S, S', h, e => by
    rw [matL] at e
    split at e
    · cases e
    · rename_i S2 h2
      exact matL_rises l m S2 S' (matT_rises t u S S2 h h2) e
end
end Go.Proofs.YtkapejcbmonfkaaGreatDoor

namespace Go.Proofs.YtkapejcbmonfkaaGreatDoor
open Go.RowKit Go.Shelf Go.Maps

theorem keyOfInt_inv {v : Value} {l : Lit} (h : keyOf Tryz.prog 3 v = some l) : ∃ x : Int, v = .int .i64 x ∧ (Lit.int .i64 x).wf = true ∧ l = .int .i64 x := by
  obtain ⟨x, h1, h2, h3⟩ := Maps.keyOf_int_inv Tryz.underlying3 h
  exact ⟨x, h1, h3, h2⟩
/-- What has come, of a map, while some is left. -/
structure CameK (G : Ft) (left : Lit → Bool) (xs : List Int) : Prop where
  nd : xs.Nodup
  old : ∀ x ∈ xs, (Lit.int .i64 x).wf = true ∧ (G x).isSome = true ∧ left (.int .i64 x) = false
  all : ∀ v, (Lit.int .i64 v).wf = true → (G v).isSome = true → v ∈ xs ∨ left (.int .i64 v) = true
/-- All keys of a map, in some order. -/
structure AllKeys (G : Ft) (xs : List Int) : Prop where
  nd : xs.Nodup
  mem : ∀ x, (Lit.int .i64 x).wf = true → (x ∈ xs ↔ (G x).isSome = true)
  wf : ∀ x ∈ xs, (Lit.int .i64 x).wf = true
theorem keyI_same {c d : Int} : (Lit.int .i64 c).sameKey (.int .i64 d) = decide (c = d) := by
  simp [Lit.sameKey]
theorem CameK.start {G : Ft} {left : Lit → Bool} (h : ∀ v, (Lit.int .i64 v).wf = true → (G v).isSome = true → left (.int .i64 v) = true) : CameK G left [] :=
  ⟨List.nodup_nil, fun x hx => absurd hx (by simp), fun v hv hx => .inr (h v hv hx)⟩
theorem CameK.step {G : Ft} {left : Lit → Bool} {xs : List Int} (h : CameK G left xs) {v : Int} (hv : (Lit.int .i64 v).wf = true) (hx : (G v).isSome = true) (hl : left (.int .i64 v) = true) :
    CameK G (fun z => left z && !z.sameKey (.int .i64 v)) (xs ++ [v]) := by
  have hnew : v ∉ xs := fun hm => by
    have := (h.old v hm).2.2
    rw [hl] at this
    cases this
  refine ⟨List.nodup_append.2 ⟨h.nd, by simp, fun a ha b hb => by simp at hb; subst hb; exact fun e => hnew (e ▸ ha)⟩, fun y hy => ?_, fun y hy hgy => ?_⟩
  · rcases List.mem_append.1 hy with hy | hy
    · obtain ⟨h1, h2, h3⟩ := h.old y hy
      exact ⟨h1, h2, by rw [h3]; rfl⟩
    · simp at hy
      subst hy
      refine ⟨hv, hx, ?_⟩
      rw [keyI_same]
      simp
  · by_cases e : y = v
    · exact .inl (by simp [e])
    · rcases h.all y hy hgy with hm | hm
      · exact .inl (List.mem_append_left _ hm)
      · refine .inr ?_
        rw [hm, keyI_same]
        simp [e]
theorem CameK.done {G : Ft} {left : Lit → Bool} {xs : List Int} (h : CameK G left xs) (hl : ∀ z, left z = false) : AllKeys G xs :=
  ⟨h.nd, fun x hw => ⟨fun hx => (h.old x hx).2.1, fun hx => (h.all _ hw hx).elim id fun e => by rw [hl] at e; cases e⟩, fun x hx => (h.old x hx).1⟩
theorem TrmM.has {w : World} {b n : Nat} {G : Ft} (h : TrmM w b n G) : ∃ D, w.ownsMap Tryz.prog 3 RrawT b n D ∧ Maps.size D ≤ n ∧ (∀ v, (Lit.int .i64 v).wf = true → (G v).isSome = true → Maps.has D (.int .i64 v) = true) ∧
    (∀ v, (Lit.int .i64 v).wf = true → ∀ y : DataW Unit, (∀ zd, D.atKey (.int .i64 v) zd = y) → (G v).isSome = true) := by
  obtain ⟨D, h1, h2, h3⟩ := h
  refine ⟨D, h1, ?_, fun v hv hx => ?_, fun v hv y hy => ?_⟩
  · obtain ⟨es, clock, hb, F, hs, rfl⟩ := h1
    simp [Maps.size, length_sorted]
    exact hs
  · cases e : G v with
    | none => rw [e] at hx; cases hx
    | some x => exact has_true_of_atKey (y := x.dat) fun zd => by rw [h3 v hv zd, e]
  · cases e : G v with
    | none =>
      have a := hy (.lit (.bool true))
      have b := hy (.lit (.bool false))
      rw [h3 v hv, e] at a b
      simp only at a b
      rw [← a] at b
      cases b
    | some x => rfl
set_option maxRecDepth 100000 in
theorem keys_fn_in (F : Fence) (n : Nat) (h : F.fn 85) (hro : F.round = none) (mb : Option Nat) (w : World) :
    CallsIn F n Tryz.prog 85 #[.map mb] w fun e w' => e = .returned (.func (.func 107) #[] #[.pointer (some ⟨w.heap.size, 0, none⟩)]) ∧ w' = w.alloc (.cells #[.map mb] 106) := by
  refine callsIn_of_wp Tryz.func85 rfl h ?_ hro
  simp only [Tryz.ntmps85, List.size_toArray, List.length_cons, List.length_nil, Nat.reduceAdd, Nat.reduceSub, Array.replicate_succ, Array.replicate_zero, List.push_toArray, List.append_toArray, List.nil_append, List.cons_append]
  gi_wp2
  refine bodyPost_ret (results_tmp rfl _ _ _) rfl ?_
  exact ⟨rfl, rfl⟩
set_option maxRecDepth 100000 in
set_option maxHeartbeats 2000000 in
/-- What maps.Keys's function gives a loop body, whatever that is, if it leaves the maps alone. -/
theorem keys_in (F : Fence) (n : Nat) (hK1 : F.fn 107) (hro : F.round = none) (hn : 1 ≤ n) (l Bm b nn : Nat) (G : Ft) (J Jx : List Int → World → Prop)
    (hY : ∀ pre x W, J pre W → pre.length < nn → YieldAt F (n - 1) Tryz.prog l #[.int .i64 x] W fun e W' =>
      (e = .returned (.bool true) ∧ J (pre ++ [x]) W' ∧ KeepsWalks W W') ∨ (e = .returned (.bool false) ∧ Jx (pre ++ [x]) W'))
    (W : World) (hJ : AbidesFrom W.heap.size J) (hm : W.cell? ⟨Bm, 0, none⟩ = some (.map (some b))) (hT : TrmM W b nn G) (h0 : J [] W) :
    CallsIn F n Tryz.prog 107 #[.func (.yield l) #[] #[], .pointer (some ⟨Bm, 0, none⟩)] W fun e W' => (∃ v, e = .returned v) ∧
      ((∃ xs, (AllKeys G xs ∧ xs.length ≤ nn) ∧ J xs W') ∨ (∃ pre, True ∧ Jx pre W')) := by
  obtain ⟨D, hown, hsz, hhas, hat⟩ := hT.has
  have HAT := hid hat
  have HAS := hid hhas
  clear hat hhas hT
  refine callsIn_of_wp Tryz.func107 rfl hK1 ?_ hro
  simp only [Tryz.ntmps107, List.size_toArray, List.length_cons, List.length_nil, Nat.reduceAdd, Nat.reduceSub, Array.replicate_succ, Array.replicate_zero, List.push_toArray, List.append_toArray, List.nil_append, List.cons_append]
  gi_wp2_with (first
    | (gi_at_range; refine wpListIn_range_own _ rfl _ 106 rfl 3 25 intKey Tryz.underlying106 _ b nn _ rfl hown ?_; intro w0 hrg0 hg0 hs0)
    | gi_in)
  go_frame
  gi_loopw [3] (fun _ wr => ∃ (left : Lit → Bool) (cnt : Nat) (xs : List Int), wr.ranges Tryz.prog 3 RrawT b W.heap.size nn D left cnt ∧ xs.length + cnt ≤ nn ∧ CameK G left xs ∧ J xs wr)
    (fun _ wr => wr.rangeLeft b W.heap.size)
  case atStart =>
    exact ⟨_, _, [], hrg0, by simpa using hsz, CameK.start HAS.out, hJ [] W w0 none h0 hg0 (fun r e => by cases e)⟩
  case round =>
    obtain ⟨left, cnt, xs, hrg, hcs, hC, hJs⟩ := hrel
    gi_wp2_with (first
      | (gi_at_next; refine wpListIn_next_ranges _ rfl _ rfl 3 intKey RrawT (fun x : Int => Value.int .i64 x) RawT.val (fun key kl hk => by obtain ⟨x, hx, _⟩ := keyOfInt_inv hk; exact ⟨x, hx⟩) (fun v y hv => by obtain ⟨x, hx, _⟩ := RrawT_inv hv; exact ⟨x, hx⟩) b W.heap.size nn _ _ _ rfl hrg ?_ ?_)
      | gi_in)
    · intro hc0 hl0
      gi_wp2
      go_end0
      exact ⟨⟨_, rfl⟩, .inl ⟨_, ⟨hC.done hl0, by omega⟩, hJs⟩⟩
    · intro k1 c kl' yd yp w2 cnt2 hkey hlk hv hat hrg2 hlt hg2 hs2 hen
      obtain ⟨x', ex, hk, rfl⟩ := keyOfInt_inv hkey
      obtain rfl : k1 = x' := by simpa using ex
      have hx0 := HAT.out k1 hk _ hat
      clear hat hkey ex hv
      have hJ2 : J xs w2 := hJ _ wr w2 (some W.heap.size) hJs hg2 (fun r e => by cases e; exact ⟨Nat.le_refl _, hrg.iter_walk⟩)
      obtain ⟨fn, tmps, assign, body, hy, hR⟩ := hY xs k1 _ hJ2 (by omega)
      have hC2 := hid (hC.step hk hx0 hlk)
      unfold RawT.val at hen
      have HR := hid hrg2
      clear hs2 hrg2
      gi_wp2
      refine hR.mono ?_
      rintro e W3 (⟨rfl, hJ4, hk4⟩ | ⟨rfl, hJx4⟩)
      · gi_wp2
        have hrg4 := HR.out.of_walks hk4
        go_roundw
        case rel => exact ⟨_, cnt2, xs ++ [k1], hrg4, by simp; omega, hC2.out, hJ4⟩
        case measure => rw [hrg4.left_eq, hrg.left_eq]; exact hlt
      · gi_wp2
        refine bodyPost_ret (results_none rfl _ _ _) rfl ?_
        exact ⟨⟨_, rfl⟩, .inr ⟨xs ++ [k1], trivial, hJx4⟩⟩
end Go.Proofs.YtkapejcbmonfkaaGreatDoor

namespace Go.Proofs.YtkapejcbmonfkaaGreatDoor
open Go.RowKit Go.Shelf Go.Maps

theorem ints_snocK (L : List Int) (x : Int) : ints (L ++ [x]) = ints L ++ [.int .i64 x] := by simp [ints]
theorem cells_new1 (w : World) (a : Value) (t : TypeId) : ∀ j u, [a][j]? = some u → (w.alloc (.cells #[a] t)).cell? ((⟨w.heap.size, 0, none⟩ : Addr).add j) = some u := by
  intro j u hj
  match j, hj with
  | 0, hj => simp at hj; subst hj; simp [Addr.add]
/-- What maps.Keys's value gives. -/
theorem keys_stops (F : Fence) (n : Nat) (hK1 : F.fn 107) (hro : F.round = none) (hn : 1 ≤ n) (Bm b nn : Nat) (G : Ft) (w : World) (hBm : Bm < w.heap.size) (hm : w.cell? ⟨Bm, 0, none⟩ = some (.map (some b))) (hT : TrmM w b nn G) :
    SeqStopsK F n Tryz.prog 107 #[.pointer (some ⟨Bm, 0, none⟩)] (fun x : Int => #[.int .i64 x]) KeepsWalks (fun xs => AllKeys G xs ∧ xs.length ≤ nn) (fun _ => True) nn w := fun l J Jx W hW hJ _ hY h0 =>
  keys_in F n hK1 hro hn l Bm b nn G J Jx hY W hJ ((hW.cell (p := ⟨Bm, 0, none⟩) hBm).trans hm) (hT.keep hW) h0

section
variable (F : Fence) (n : Nat) (hK1 : F.fn 107) (hAS : F.fn 117) (hro : F.round = none)
include hK1 hAS hro
set_option maxRecDepth 100000 in
set_option maxHeartbeats 2000000 in
theorem appendI_in (hn : 3 ≤ n) (Bm nn : Nat) (hnn : nn ≤ maxLen) (hby : nn * 8 ≤ 140737488355328) (S : List Int → Prop) (w : World)
    (hseq : SeqStopsK F (n - 1) Tryz.prog 107 #[.pointer (some ⟨Bm, 0, none⟩)] (fun x : Int => #[.int .i64 x]) KeepsWalks S (fun _ => True) nn w) :
    CallsIn F n Tryz.prog 117 #[.slice none 0 0, .func (.func 107) #[] #[.pointer (some ⟨Bm, 0, none⟩)]] w fun e w' => ∃ v xs, e = .returned v ∧ S xs ∧ w'.ownsRow w.heap.size 3 1 v xs.length (ints xs) ∧ Below w.heap.size w w' := by
  have h1 : 1 ≤ n := by omega
  obtain ⟨i0, hi, hz0, hz1, hz2⟩ := info_parts infoInt
  refine callsIn_of_wp_marks Tryz.func117 rfl hAS ?_ hro
  simp only [Tryz.ntmps117, List.size_toArray, List.length_cons, List.length_nil, Nat.reduceAdd, Nat.reduceSub, Array.replicate_succ, Array.replicate_zero, List.push_toArray, List.append_toArray, List.nil_append, List.cons_append]
  gi_wp2
  have bO := Boxed.new w 33 (.slice none 0 0)
  have hB0 : Below w.heap.size w (w.alloc (.cells #[.slice none 0 0] 33)) := (Below.refl _ w).alloc (Nat.le_refl _) _
  have hs0 : (w.alloc (.cells #[.slice none 0 0] 33)).heap.size = w.heap.size + 1 := by simp
  refine wpIn_rangeFunc_ownH hro h1 (gf := 107) (lb := #[.pointer (some ⟨Bm, 0, none⟩)]) rfl hK1 (enters_of Tryz.func107 (by kernel_rfl) rfl)
    hseq walksK_t walksK_b hB0 (fun _ => rfl)
    (fun pre W => (∃ v, Boxed W w.heap.size 33 v ∧ W.ownsRow w.heap.size 3 1 v pre.length (ints pre) ∧ True) ∧ Below w.heap.size w W)
    (fun _ _ _ => False)
    (OwnFrom.and (Own.from (holdsRow_own w.heap.size w.heap.size 33 3 1 (fun pre => pre.length) (fun pre => ints pre) (fun _ _ => True)) _) (ownFrom_below (Nat.le_refl _) (by simp)))
    (fun _ _ _ _ _ hs _ _ => hs)
    ⟨⟨_, bO, World.ownsRow_nil _ _ _ _, trivial⟩, hB0⟩
    (fun x a' W => a' = { tmps := #[.slice none 0 0, .func (.func 107) #[] #[.pointer (some ⟨Bm, 0, none⟩)], .pointer (some ⟨w.heap.size, 0, none⟩), undef, .slice none 0 0, .int .i64 x, .func (.func 107) #[] #[.pointer (some ⟨Bm, 0, none⟩)], .int .i64 x, undef, undef, undef, undef, undef], defers := [] })
    (fun x a' _ X Y row hs hg hr => hs)
    ?assign ?body ?done ?stop
  case assign =>
    rintro l pre x W K ⟨⟨v, hv, hrow, _⟩, hB⟩ hK
    gi_wp2_with (rw [Oper.semAt_eq _ _ _ (fun c h => by cases h)]; go_simp; try go_bits)
    exact hK _ _ ((KeepsOthers.refl _).from _) (KeepsWalks.refl _) ⟨⟨v, hv, hrow, trivial⟩, hB⟩ rfl
  case body =>
    rintro l pre x a' W hl ⟨r, hr⟩ ⟨⟨v, hv, hrow, _⟩, hB⟩ rfl hlt
    have hc := hv.cell
    gi_wp2_with (first | (gi_at_builtin; refine wpListIn_append_own _ rfl _ _ 33 rfl w.heap.size 3 i0 (.int .i64 0) 1 8 Tryz.underlying33 hi hz0 hz1 hz2 rfl (by decide) _ _ _ rfl (hrow.alloc _) ⟨W.heap.size, 0, none⟩ 1 1 [.int .i64 x] rfl rfl (cells_new1 _ _ _) (by simp [Value.oneCell']) (by omega) (by omega) (by have := hB.size; simp; omega) ?_; intro v' w1 hown' hgrow _; obtain ⟨g', cap', rfl⟩ := ownsRow_succ hown'; obtain ⟨hv1, hv2, hr2, hk2, hb2⟩ := hv.appended (by decide) hrow hB.size (Nat.le_refl _) hown' hgrow; have hc1 := hv1.cell; have hf1 := hv1.frozen) | (rw [Oper.semAt_eq _ _ _ (fun c h => by cases h)]; go_simp; try go_bits))
    exact ⟨hk2.from _, ⟨hk2.size, fun k o hk hw => hk2.same k o hk (Obj.not_cells_of_walk hw)⟩, ⟨_, hv2, by rw [ints_snocK]; simpa using hr2, trivial⟩, hB.trans hb2⟩
  case done =>
    rintro D ys W hD hS ⟨⟨v, hv, hrow, _⟩, hB⟩ hK
    have hc := hv.cell
    gi_wp2
    refine ⟨by simp, .inl ⟨_, _, rfl, run_takeDeferred hK, ?_⟩⟩
    exact ⟨_, results_tmp rfl _ _ _, v, ys, rfl, hS, ownsRow_putObj hrow _ hK rfl, hB.trans (belowK_b (w := w) (Nat.le_refl _) W D _ _ (by simp at hD; omega) hK rfl rfl)⟩
  case stop =>
    rintro D c pre W _ _ h _
    exact h.elim
set_option maxRecDepth 100000 in
theorem collectI_in (hC : F.fn 105) (hn : 4 ≤ n) (Bm nn : Nat) (hnn : nn ≤ maxLen) (hby : nn * 8 ≤ 140737488355328) (S : List Int → Prop) (w : World)
    (hseq : SeqStopsK F (n - 1 - 1) Tryz.prog 107 #[.pointer (some ⟨Bm, 0, none⟩)] (fun x : Int => #[.int .i64 x]) KeepsWalks S (fun _ => True) nn w) :
    CallsIn F n Tryz.prog 105 #[.func (.func 107) #[] #[.pointer (some ⟨Bm, 0, none⟩)]] w fun e w' => ∃ v xs, e = .returned v ∧ S xs ∧ w'.ownsRow w.heap.size 3 1 v xs.length (ints xs) ∧ Below w.heap.size w w' := by
  have h1 : 1 ≤ n := by omega
  refine callsIn_of_wp Tryz.func105 rfl hC ?_ hro
  simp only [Tryz.ntmps105, List.size_toArray, List.length_cons, List.length_nil, Nat.reduceAdd, Nat.reduceSub, Array.replicate_succ, Array.replicate_zero, List.push_toArray, List.append_toArray, List.nil_append, List.cons_append]
  gi_wp2_with (gi_at_call 117; refine (appendI_in F (n - 1) hK1 hAS hro (by omega) Bm nn hnn hby S _ hseq).mono ?_; rintro e w' ⟨v, xs, rfl, hS, hrow, hb⟩)
  refine bodyPost_ret (results_tmp rfl _ _ _) rfl ?_
  exact ⟨v, xs, rfl, hS, hrow, hb⟩
end
/-- slices.Collect of maps.Keys of a map: all its keys in some order. -/
theorem collectI_any (b nn : Nat) (hnn : nn ≤ maxLen) (hby : nn * 8 ≤ 140737488355328) (G : Ft) (Bm : Nat) (w : World) (hBm : Bm < w.heap.size) (hm : w.cell? ⟨Bm, 0, none⟩ = some (.map (some b))) (hT : TrmM w b nn G) :
    Calls Tryz.prog 105 #[.func (.func 107) #[] #[.pointer (some ⟨Bm, 0, none⟩)]] w fun e w' => ∃ v xs, e = .returned v ∧ (AllKeys G xs ∧ xs.length ≤ nn) ∧ w'.ownsRow w.heap.size 3 1 v xs.length (ints xs) ∧ Below w.heap.size w w' :=
  callsIn_wide.1 (collectI_in Fence.wide 4 trivial trivial rfl trivial (by omega) Bm nn hnn hby (fun xs => AllKeys G xs ∧ xs.length ≤ nn) w (keys_stops Fence.wide 2 trivial rfl (by omega) Bm b nn G w hBm hm hT))
theorem keysFn_any (mb : Option Nat) (w : World) :
    Calls Tryz.prog 85 #[.map mb] w fun e w' => e = .returned (.func (.func 107) #[] #[.pointer (some ⟨w.heap.size, 0, none⟩)]) ∧ w' = w.alloc (.cells #[.map mb] 106) :=
  callsIn_wide.1 (keys_fn_in Fence.wide 2 trivial rfl mb w)
end Go.Proofs.YtkapejcbmonfkaaGreatDoor

namespace Go.Proofs.YtkapejcbmonfkaaGreatDoor
open Go.RowKit Go.Sort

theorem sort_le (xs : List Int) : (xs.mergeSort fun x y => decide (x ≤ y)).Pairwise fun x y => x ≤ y := by
  have h := List.pairwise_mergeSort (le := fun x y : Int => decide (x ≤ y)) (fun a b c h1 h2 => by simp at *; omega) (fun a b => by simp; omega) xs
  exact h.imp fun h => by simpa using h
theorem rising_of {xs : List Int} (h : xs.Pairwise fun x y => x ≤ y) (hn : xs.Nodup) : xs.Pairwise fun x y => x < y := by
  induction xs with
  | nil => simp
  | cons x xs ih =>
    rw [List.pairwise_cons] at h ⊢
    rw [List.nodup_cons] at hn
    refine ⟨fun y hy => ?_, ih h.2 hn.2⟩
    have h1 := h.1 y hy
    have h2 : x ≠ y := fun e => hn.1 (e ▸ hy)
    omega
theorem AllKeys.sorted {G : Ft} {xs : List Int} (h : AllKeys G xs) : AllKeys G (xs.mergeSort fun x y => decide (x ≤ y)) ∧ (xs.mergeSort fun x y => decide (x ≤ y)).Pairwise fun x y => x < y := by
  have hp := List.mergeSort_perm xs fun x y => decide (x ≤ y)
  have hn : (xs.mergeSort fun x y => decide (x ≤ y)).Nodup := hp.nodup_iff.2 h.nd
  exact ⟨⟨hn, fun x hw => by rw [hp.mem_iff]; exact h.mem x hw, fun x hx => h.wf x (hp.mem_iff.1 hx)⟩, rising_of (sort_le xs) hn⟩
set_option maxRecDepth 100000 in
set_option maxHeartbeats 4000000 in
theorem insertI_nil (w : World) : Calls Tryz.prog 129 #[.slice none 0 0, .int .i64 0, .int .i64 0] w fun e w' => (∃ v, e = .returned v) ∧ Below w.heap.size w w' := by
  go_enter Tryz.func129, Tryz.ntmps129
  go_wp2_with fail
  refine wp_loop_rounds 1 ?_
  rw [rounds_succ]
  go_wp2_with fail
  go_end0
  exact ⟨⟨_, rfl⟩, Below.refl _ _⟩
set_option maxRecDepth 100000 in
set_option maxHeartbeats 4000000 in
theorem pdqI_nil (n : Int) (w : World) : Calls Tryz.prog 118 #[.slice none 0 0, .int .i64 0, .int .i64 0, .int .i64 n] w fun e w' => (∃ v, e = .returned v) ∧ Below w.heap.size w w' := by
  go_enter Tryz.func118, Tryz.ntmps118
  go_wp2_with fail
  refine wp_loop_rounds 1 ?_
  rw [rounds_succ]
  go_wp2_with (first
    | (go_at_call 129; (with_reducible refine (insertI_nil _).mono ?_); rintro e w2 ⟨⟨v, rfl⟩, hb2⟩; have B2 := hid hb2; clear hb2)
    | fail)
  refine bodyPost_ret (results_none rfl _ _ _) rfl ?_
  exact ⟨⟨_, rfl⟩, B2.out⟩
set_option maxRecDepth 100000 in
set_option maxHeartbeats 4000000 in
theorem sortI_nil (w : World) : Calls Tryz.prog 106 #[.slice none 0 0] w fun e w' => (∃ v, e = .returned v) ∧ Below w.heap.size w w' := by
  go_enter Tryz.func106, Tryz.ntmps106
  go_wp2_with (first
    | (go_at_call 119; (with_reducible refine (Tryz.bits_Len 0 w (by decide) (by decide)).mono ?_); rintro e w1 ⟨rfl, rfl⟩)
    | (go_at_call 118; (with_reducible refine (pdqI_nil _ _).mono ?_); rintro e w2 ⟨⟨v, rfl⟩, hb2⟩; have B2 := hid hb2; clear hb2)
    | fail)
  go_end0
  exact ⟨⟨_, rfl⟩, B2.out⟩
set_option maxRecDepth 100000 in
set_option maxHeartbeats 4000000 in
theorem sortI_own (q : Option Addr) (c base : Nat) (xs : List Int) (w : World) (h : w.ownsRow base 3 1 (.slice q xs.length c) xs.length (ints xs)) (hl : xs.length ≤ 1099511627776) :
    Calls Tryz.prog 106 #[.slice q xs.length c] w fun e w' => (∃ v, e = .returned v) ∧ w'.ownsRow base 3 1 (.slice q xs.length c) xs.length (ints (xs.mergeSort fun x y => decide (x ≤ y))) ∧ w.grownBy w' (Value.slice q xs.length c).ownBlock := by
  rcases h.2 with ⟨h1, h2⟩ | ⟨g, cap, cur, e, h1, h2, h3, h4, h5, h6⟩
  · simp only [Value.slice.injEq] at h1
    obtain ⟨rfl, h3, rfl⟩ := h1
    have hx : xs = [] := List.length_eq_zero_iff.1 h3
    subst hx
    exact (sortI_nil w).mono fun e w' ⟨h4, h5⟩ => ⟨h4, by simpa [ints] using World.ownsRow_nil w' base 3 1, h5.os, h5.tape, h5.output, h5.size, fun k hk _ => h5.block k hk⟩
  · simp only [Value.slice.injEq] at e
    obtain ⟨rfl, -, rfl⟩ := e
    have hb : w.heap[g]? = some (.cells cur 3 (0, 0)) := h2
    refine (Tryz.slices_Sort_int g 0 c xs w (holds_of_blockI hb (by simpa [ints] using h6)) (lt_of_block hb) (by omega)).mono fun e w' ⟨he, n, os, hw⟩ => ⟨⟨_, he⟩, ?_, ?_⟩
    · rw [hw]
      exact ownsRow_sortedI (by simp) h1 hb h3 h4 (by simpa using h5)
    · rw [hw]
      exact grownBy_sortedI _
end Go.Proofs.YtkapejcbmonfkaaGreatDoor

namespace Go.Proofs.YtkapejcbmonfkaaGreatDoor
open Go.RowKit

set_option maxRecDepth 100000 in
set_option maxHeartbeats 4000000 in
theorem sortedI_any (b nn : Nat) (hnn : nn ≤ 1099511627776) (G : Ft) (Bm : Nat) (w : World) (hBm : Bm < w.heap.size) (hm : w.cell? ⟨Bm, 0, none⟩ = some (.map (some b))) (hT : TrmM w b nn G) :
    Calls Tryz.prog 84 #[.func (.func 107) #[] #[.pointer (some ⟨Bm, 0, none⟩)]] w fun e w' => ∃ q c xs, e = .returned (.slice q xs.length c) ∧ AllKeys G xs ∧ (xs.Pairwise fun x y => x < y) ∧ xs.length ≤ nn ∧ w'.ownsRow w.heap.size 3 1 (.slice q xs.length c) xs.length (ints xs) ∧ Below w.heap.size w w' := by
  have CC := hid (collectI_any b nn (by unfold maxLen; omega) (by omega) G Bm w hBm hm hT)
  clear hm hT
  go_enter Tryz.func84, Tryz.ntmps84
  go_upto_region 2 with (first
    | (go_at_call 105; (with_reducible refine CC.out.mono ?_); rintro e w1 ⟨v, xs, rfl, ⟨hA, hxn⟩, ho, hb1⟩; obtain ⟨q, c, rfl⟩ := rowI_form ho; have HA := hid hA; have HO := hid ho; have B1 := hid hb1; clear hA ho hb1 CC)
    | fail)
  have CS := hid (sortI_own q c w.heap.size xs w1 HO.out (by omega))
  go_wp2_with (first
    | (go_at_call 106; (with_reducible refine CS.out.mono ?_); rintro e w2 ⟨⟨v2, rfl⟩, ho2, hg2⟩; have HO2 := hid ho2; have G2 := hid hg2; clear ho2 hg2 CS)
    | fail)
  go_ret
  have hl : (xs.mergeSort fun x y => decide (x ≤ y)).length = xs.length := by simp
  refine ⟨q, c, xs.mergeSort fun x y => decide (x ≤ y), by rw [hl]; rfl, HA.out.sorted.1, HA.out.sorted.2, by rw [hl]; exact hxn, by rw [hl]; exact HO2.out, B1.out.grown G2.out B1.out.size fun x e => ownBlock_le HO.out e⟩
end Go.Proofs.YtkapejcbmonfkaaGreatDoor
