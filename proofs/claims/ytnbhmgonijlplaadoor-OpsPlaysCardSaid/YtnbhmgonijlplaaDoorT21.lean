/- Walks: All of a table, for every loop body that leaves what is not its own; and all of the laws. No condition but those that each theorem names. -/
import Derived.Test.YtnbhmgonijlplaaDoorT20
namespace Go.Proofs.YtnbhmgonijlplaaDoor
open Go.RowKit Go.Shelf Go.Maps

/-- The box B₀ holds a slice whose cells lie in block k or ahead of it. -/
def Pts (W : World) (B₀ k : Nat) : Prop := ∃ g o len cap, W.cell? ⟨B₀, 0, none⟩ = some (.slice (some ⟨g, o, none⟩) len cap) ∧ g ≤ k
/-- What a loop body leaves: each block of cells from n₀ on to which its own box B₀ does not point; and B₀ does not come to point to one that was there. -/
structure Leaves (B₀ n₀ : Nat) (W W' : World) : Prop where
  size : W.heap.size ≤ W'.heap.size
  same : ∀ k cs t m, n₀ ≤ k → W.heap[k]? = some (.cells cs t m) → ¬ Pts W B₀ k → W'.heap[k]? = some (.cells cs t m) ∧ ¬ Pts W' B₀ k
theorem leaves_t {B₀ n₀ : Nat} {A B C : World} (h : Leaves B₀ n₀ A B) (k : Leaves B₀ n₀ B C) : Leaves B₀ n₀ A C :=
  ⟨Nat.le_trans h.size k.size, fun i cs t m hi hc hp => by
    obtain ⟨h1, h2⟩ := h.same i cs t m hi hc hp
    exact k.same i cs t m hi h1 h2⟩
theorem pts_same {W W' : World} {B₀ k : Nat} (h : W'.heap[B₀]? = W.heap[B₀]?) : Pts W' B₀ k ↔ Pts W B₀ k := by
  unfold Pts World.cell?
  simp only [h]
theorem leaves_b {w : World} {B₀ n₀ : Nat} (hB : B₀ < w.heap.size) (W : World) (l : Nat) (o o' : Obj) (hl : w.heap.size ≤ l) (h : W.heap[l]? = some o) (hc : o.isCells = false) (_ : o.isWalk = false) : Leaves B₀ n₀ W (W.putObj l o') := by
  refine ⟨by simp, fun k cs t m hk hcs hp => ?_⟩
  have hne : k ≠ l := fun e => by
    subst e; rw [h] at hcs; cases hcs; cases hc
  refine ⟨(World.putObj_heap_other hne).trans hcs, fun q => hp ?_⟩
  exact (pts_same (World.putObj_heap_other (by omega))).1 q
theorem below_none {w w' : World} (h : Below w.heap.size w w') : w.grownBy w' none := ⟨h.os, h.tape, h.output, h.size, fun k hk _ => h.block k hk⟩

theorem triple_get {L : List Opn} {len : Nat} {cur : Array Value} (ht : cur.toList.take (len * 3) = rowOf L) (hl : len = L.length) {k : Nat} (hk : k < L.length) :
    cur[k * 3]? = some (.string L[k].name) ∧ cur[k * 3 + 1]? = some (.int .i64 L[k].typ) ∧ cur[k * 3 + 2]? = some (.int .i64 L[k].pri) := by
  have hg : ∀ j, j < L.length * 3 → cur[j]? = some ((Opn.cells L.toArray[j / 3]!)[j % 3]!) := fun j hj => by
    rw [← rowOf_get L j hj, ← ht, List.getElem?_take, if_pos (by omega), Array.getElem?_toList]
  have e0 : (k * 3) / 3 = k := by omega
  have e1 : (k * 3 + 1) / 3 = k := by omega
  have e2 : (k * 3 + 2) / 3 = k := by omega
  have hx : L.toArray[k]! = L[k] := by simp [hk]
  refine ⟨?_, ?_, ?_⟩
  · rw [hg _ (by omega), e0, show k * 3 % 3 = 0 by omega, hx]; rfl
  · rw [hg _ (by omega), e1, show (k * 3 + 1) % 3 = 1 by omega, hx]; rfl
  · rw [hg _ (by omega), e2, show (k * 3 + 2) % 3 = 2 by omega, hx]; rfl

theorem comma_told {G : Fn} (g : Good G) {xs : List Opn} (h : Told G xs) : 0 < xs.length := comma_of g ⟨h.nodup, h.mem⟩
set_option maxRecDepth 100000 in
set_option maxHeartbeats 4000000 in
theorem ops_in (n : Nat) (hn : 1 ≤ n) (l Bm bt b nn B₀ n₀ : Nat) (hnn : nn ≤ maxLen) (hby : nn * 32 ≤ 140737488355328) (G : Fn) (g : Good G) (J Jx : List Opn → World → Prop)
    (hY : ∀ pre x W, J pre W → pre.length < nn → YieldAt Fence.wide (n - 1) Tryd.prog l #[x.val] W fun e W' =>
      (e = .returned (.bool true) ∧ J (pre ++ [x]) W' ∧ Leaves B₀ n₀ W W') ∨ (e = .returned (.bool false) ∧ Jx (pre ++ [x]) W'))
    (W : World) (hJ : AbidesFrom W.heap.size J) (hm : W.cell? ⟨Bm, 0, none⟩ = some (.pointer (some ⟨bt, 0, none⟩))) (hc : W.cell? ⟨bt, 0, none⟩ = some (.map (some b))) (hT : Tab W b nn G)
    (hB : B₀ < W.heap.size) (hn₀ : n₀ ≤ W.heap.size) (hP : ∀ k, ¬ Pts W B₀ k) (h0 : J [] W) :
    CallsIn Fence.wide n Tryd.prog 45 #[.func (.yield l) #[] #[], .pointer (some ⟨Bm, 0, none⟩)] W fun e W' => (∃ v, e = .returned v) ∧
      ((∃ xs, (Told G xs ∧ xs.length ≤ nn) ∧ J xs W') ∨ (∃ pre, (∃ L, Told G L ∧ pre <+: L) ∧ Jx pre W')) := by
  have SO := hid (sorted_any b nn hnn hby G g bt W hc hT)
  clear hT hc
  refine callsIn_of_wp Tryd.func45 rfl trivial ?_ rfl
  simp only [Tryd.ntmps45, List.size_toArray, List.length_cons, List.length_nil, Nat.reduceAdd, Nat.reduceSub, Array.replicate_succ, Array.replicate_zero, List.push_toArray, List.append_toArray, List.nil_append, List.cons_append]
  gi_wp2_with (refine ⟨trivial, ?_⟩; gi_at_call 46; refine (callsIn_wide.2 SO.out).mono ?_; rintro e w1 ⟨v, L, rfl, ⟨hTo, hLn⟩, hrow, hb⟩; obtain ⟨g1, cap, cur, rfl, hg1, hg2, hg3, hg4, hg5, hg6⟩ := row_apart hrow (comma_told g hTo); clear hrow SO)
  have hLm : L.length ≤ 9223372036854775807 := by unfold maxLen at hnn; omega
  have HC := hid (fun k (hk : k < L.length) => triple_get hg6 rfl hk)
  have hnp : ¬ Pts w1 B₀ g1 := fun h => hP g1 ((pts_same (hb.block B₀ hB)).1 h)
  have hJ1 : J [] w1 := hJ [] W w1 none h0 (below_none hb) (fun r e => by cases e)
  have HT := hid hTo
  clear hTo hg5 hg6
  gi_loopw [8] (fun i wr => ∃ k : Nat, k ≤ L.length ∧ i = .int .i64 k ∧ wr.heap[g1]? = some (.cells cur 39 (0, 0)) ∧ ¬ Pts wr B₀ g1 ∧ w1.heap.size ≤ wr.heap.size ∧ J (L.take k) wr) (fun i _ => L.length - (intOf i).toNat)
  case atStart => exact ⟨0, by omega, rfl, hg2, hnp, Nat.le_refl _, hJ1⟩
  case round =>
    obtain ⟨k, hk, rfl, hrw, hnp, hsw, hJs⟩ := hrel
    by_cases hlt : k < L.length
    · obtain ⟨a0, a1, a2⟩ := HC.out k hlt
      have c0 : wr.cell? ⟨g1, k * 3, none⟩ = some (.string L[k].name) := by simpa [World.cell?, hrw] using a0
      have c1 : wr.cell? ⟨g1, k * 3 + 1, none⟩ = some (.int .i64 L[k].typ) := by simpa [World.cell?, hrw] using a1
      have c2 : wr.cell? ⟨g1, k * 3 + 2, none⟩ = some (.int .i64 L[k].pri) := by simpa [World.cell?, hrw] using a2
      have hJ3 : J (L.take k) (wr.alloc (.cells #[.string L[k].name, .int .i64 L[k].typ, .int .i64 L[k].pri] 39)) := hJ _ wr _ none hJs (World.grownBy_alloc _ _ _) (fun r e => by cases e)
      obtain ⟨fn, tmps, assign, body, hy, hR⟩ := hY (L.take k) L[k] _ hJ3 (by simp; omega)
      unfold Opn.val at hy
      clear a0 a1 a2
      have hrw2 : (wr.alloc (.cells #[.string L[k].name, .int .i64 L[k].typ, .int .i64 L[k].pri] 39)).heap[g1]? = some (.cells cur 39 (0, 0)) := heap_keep3 hrw ((Below.refl _ _).alloc (Nat.le_refl _) _)
      have hb1 := hb.size
      have hnp2 : ¬ Pts (wr.alloc (.cells #[.string L[k].name, .int .i64 L[k].typ, .int .i64 L[k].pri] 39)) B₀ g1 := fun h => hnp ((pts_same (((Below.refl wr.heap.size wr).alloc (Nat.le_refl _) _).block B₀ (by omega))).1 h)
      have HS := hid (show L.take k ++ [L[k]] = L.take (k + 1) from (List.take_succ_eq_append_getElem hlt).symm)
      gi_wp2
      refine hR.mono ?_
      rintro e W3 (⟨rfl, hJ4, hk4⟩ | ⟨rfl, hJx4⟩)
      · obtain ⟨r1, r2⟩ := hk4.same g1 _ _ _ (by omega) hrw2 hnp2
        have r3 := hk4.size
        rw [World.size_alloc] at r3
        gi_wp2
        go_roundw
        case rel => exact ⟨k + 1, by omega, by go_num, r1, r2, by omega, by rw [← HS.out]; exact hJ4⟩
        case measure => simp [intOf]; omega
      · gi_wp2
        refine bodyPost_ret (results_none rfl _ _ _) rfl ?_
        exact ⟨⟨_, rfl⟩, .inr ⟨_, ⟨L, HT.out, by rw [HS.out]; exact List.take_prefix _ _⟩, hJx4⟩⟩
    · have hke : k = L.length := by omega
      subst hke
      rw [List.take_length] at hJs
      gi_wp2
      go_end0
      exact ⟨⟨_, rfl⟩, .inl ⟨L, ⟨HT.out, hLn⟩, hJs⟩⟩

theorem ops_stops (n : Nat) (hn : 1 ≤ n) (Bm bt b nn B₀ n₀ : Nat) (hnn : nn ≤ maxLen) (hby : nn * 32 ≤ 140737488355328) (G : Fn) (g : Good G) (w : World)
    (hBm : Bm < w.heap.size) (hm : w.cell? ⟨Bm, 0, none⟩ = some (.pointer (some ⟨bt, 0, none⟩))) (hc : w.cell? ⟨bt, 0, none⟩ = some (.map (some b))) (hT : Tab w b nn G)
    (hB : B₀ < w.heap.size) (hn₀ : n₀ ≤ w.heap.size) (hP : ∀ k, ¬ Pts w B₀ k) :
    SeqStopsK Fence.wide n Tryd.prog 45 #[.pointer (some ⟨Bm, 0, none⟩)] (fun x : Opn => #[x.val]) (Leaves B₀ n₀) (fun xs => Told G xs ∧ xs.length ≤ nn) (fun pre => ∃ L, Told G L ∧ pre <+: L) nn w := fun l J Jx W hW hJ _ hY h0 =>
  ops_in n hn l Bm bt b nn B₀ n₀ hnn hby G g J Jx hY W hJ ((hW.cell (p := ⟨Bm, 0, none⟩) hBm).trans hm) (heap_cell_keep hW hc) (hT.keep hW) (Nat.lt_of_lt_of_le hB hW.size) (Nat.le_trans hn₀ hW.size)
    (fun k hk => hP k ((pts_same (hW.block B₀ hB)).1 hk)) h0
end Go.Proofs.YtnbhmgonijlplaaDoor
