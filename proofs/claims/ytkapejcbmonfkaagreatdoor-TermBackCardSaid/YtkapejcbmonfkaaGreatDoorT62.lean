/- Walks: slices.Backward over a row of terms, for every loop body that leaves what is not its own. No condition but those that each theorem names. -/
import Derived.Test.YtkapejcbmonfkaaGreatDoorT56m
namespace Go.Proofs.YtkapejcbmonfkaaGreatDoor
open Go.RowKit Go.Shelf

theorem Lv.cell {K : Nat} {W W' : World} (h : Lv K W W') {b o : Nat} {v : Value} (hb : b ≠ K) (hc : W.cell? ⟨b, o, none⟩ = some v) : W'.cell? ⟨b, o, none⟩ = some v := by
  cases hg : W.heap[b]? with
  | none => simp [World.cell?, hg] at hc
  | some x =>
    cases x with
    | cells cs t m =>
      have := h.same b cs t m hb hg
      exact (World.cell?_of_block (a := ⟨b, o, none⟩) (this.trans hg.symm)).trans hc
    | _ => simp [World.cell?, hg] at hc
theorem Lv.six {K : Nat} {W W' : World} (h : Lv K W W') {b o : Nat} {t : Tm} {p : Option Addr} {c : Nat} (hb : b ≠ K) (hs : Six W b o t p c) : Six W' b o t p c :=
  ⟨h.cell hb hs.c0, h.cell hb hs.c1, h.cell hb hs.c2, h.cell hb hs.c3, h.cell hb hs.c4, h.cell hb hs.c5⟩
/-- What Backward hands on: the place, and the term. -/
def encN {N : Nat} (xs : Fin N → El) (i : Fin N) : Array Value := #[.int .i64 (i.val : Int), (xs i).val]
/-- Those from a place on, the last one first. -/
def preN (N k : Nat) : List (Fin N) := ((List.finRange N).drop k).reverse
theorem preN_all (N : Nat) : preN N N = [] := by unfold preN; rw [List.drop_eq_nil_of_le (by simp)]; rfl
theorem preN_step {N k : Nat} (h : k < N) : preN N k = preN N (k + 1) ++ [⟨k, h⟩] := by
  unfold preN
  rw [List.drop_eq_getElem_cons (by simpa using h), List.reverse_cons]
  simp
theorem preN_length {N k : Nat} (_h : k ≤ N) : (preN N k).length = N - k := by unfold preN; simp
/-- A row of terms, each of which is read as it is. -/
def RowN (W : World) (K : Nat) (pl : Option Addr) {N : Nat} (xs : Fin N → El) : Prop := ∀ i : Fin N, ∃ g o, pl = some ⟨g, o, none⟩ ∧ g ≠ K ∧ Six W g (o + i.val * 6) (xs i).1 (xs i).2.1 (xs i).2.2
theorem RowN.keep {W W' : World} {K : Nat} {pl : Option Addr} {N : Nat} {xs : Fin N → El} (h : RowN W K pl xs) (hl : Lv K W W') : RowN W' K pl xs := fun i => by
  obtain ⟨g, o, e, h1, h2⟩ := h i
  exact ⟨g, o, e, h1, hl.six h1 h2⟩
set_option maxRecDepth 100000 in
set_option maxHeartbeats 4000000 in
theorem backN_in (n : Nat) (hn : 1 ≤ n) (l Bm K N cap : Nat) (hN : N ≤ maxLen) (pl : Option Addr) (xs : Fin N → El) (J Jx : List (Fin N) → World → Prop)
    (hY : ∀ pre x W, J pre W → pre.length < N → YieldAt Fence.wide (n - 1) Tryz.prog l (encN xs x) W fun e W' =>
      (e = .returned (.bool true) ∧ J (pre ++ [x]) W' ∧ Lv K W W') ∨ (e = .returned (.bool false) ∧ Jx (pre ++ [x]) W'))
    (W : World) (_hJ : AbidesFrom W.heap.size J) (hm : W.heap[Bm]? = some (.cells #[.slice pl N cap] 23 (0, 0))) (hg : RowN W K pl xs) (hBm : Bm ≠ K) (h0 : J [] W) :
    CallsIn Fence.wide n Tryz.prog 99 #[.func (.yield l) #[] #[], .pointer (some ⟨Bm, 0, none⟩)] W fun e W' => (∃ v, e = .returned v) ∧
      ((∃ ys, ys = preN N 0 ∧ J ys W') ∨ (∃ pre, pre <+: preN N 0 ∧ Jx pre W')) := by
  refine callsIn_of_wp Tryz.func99 rfl trivial ?_ rfl
  simp only [Tryz.ntmps99, List.size_toArray, List.length_cons, List.length_nil, Nat.reduceAdd, Nat.reduceSub, Array.replicate_succ, Array.replicate_zero, List.push_toArray, List.append_toArray, List.nil_append, List.cons_append]
  unfold maxLen at hN
  have HM := hid hm
  have HG := hid hg
  have hmc := (cells_of hm 0).trans rfl
  have J0 := hid (show J (preN N N) W by rw [preN_all]; exact h0)
  clear hm hg h0
  gi_wp2
  gi_loopw [3] (fun i wr => ∃ (k : Nat) (z : Int), k ≤ N ∧ z = (k : Int) - 1 ∧ i = .int .i64 z ∧ Hid (wr.heap[Bm]? = some (.cells #[.slice pl N cap] 23 (0, 0))) ∧ Hid (RowN wr K pl xs) ∧ W.heap.size ≤ wr.heap.size ∧ Hid (J (preN N k) wr)) (fun i _ => (intOf i + 1).toNat)
  case atStart => exact ⟨N, _, Nat.le_refl _, rfl, rfl, HM, HG, Nat.le_refl _, J0⟩
  case round =>
    obtain ⟨k1, z, hk, hz, rfl, hm, hg, hsz, HJr⟩ := hrel
    have cm := (cells_of hm.out 0).trans rfl
    cases k1 with
    | succ k =>
      obtain rfl : z = (k : Int) := by omega
      clear hz
      have hk0 : (0 : Int) ≤ (k : Int) := by omega
      have hk1 : (k : Int) < (N : Int) := by omega
      obtain ⟨g, o, rfl, hgK, hs⟩ := hg.out ⟨k, hk⟩
      obtain ⟨d0, d1, d2, d3, d4, d5⟩ := hs
      have hlen := preN_length (N := N) (k := k + 1) hk
      obtain ⟨fn, tmps, assign, body, hy, hR⟩ := hY (preN N (k + 1)) ⟨k, hk⟩ wr HJr.out (by omega)
      rw [← preN_step hk] at hR
      simp only [encN, El.val, Tm.val] at hy
      clear hlen
      gi_wp2
      refine hR.mono ?_
      rintro e W3 (⟨rfl, hJ4, hk4⟩ | ⟨rfl, hJx4⟩)
      · have R1 := hid (hk4.same Bm _ _ _ hBm hm.out)
        have R2 := hid (hg.out.keep hk4)
        have r3 := hk4.size
        gi_wp2
        go_roundw
        case rel => exact ⟨k, (k : Int) - 1, by omega, rfl, rfl, R1, R2, by omega, hid hJ4⟩
        case measure => simp [intOf]
      · gi_wp2
        refine bodyPost_ret (results_none rfl _ _ _) rfl ?_
        refine ⟨⟨_, rfl⟩, .inr ⟨_, ?_, hJx4⟩⟩
        unfold preN
        rw [List.reverse_prefix]
        exact List.drop_suffix _ _
    | zero =>
      obtain rfl : z = -1 := by omega
      clear hz cm
      gi_wp2
      go_end0
      exact ⟨⟨_, rfl⟩, .inl ⟨_, rfl, HJr.out⟩⟩
theorem backN_stops (n : Nat) (hn : 1 ≤ n) (Bm K N cap : Nat) (hN : N ≤ maxLen) (pl : Option Addr) (xs : Fin N → El) (w : World) (hm : w.heap[Bm]? = some (.cells #[.slice pl N cap] 23 (0, 0))) (hg : RowN w K pl xs) (hBm : Bm ≠ K) :
    SeqStopsK Fence.wide n Tryz.prog 99 #[.pointer (some ⟨Bm, 0, none⟩)] (encN xs) (Lv K) (fun ys => ys = preN N 0) (fun pre => pre <+: preN N 0) N w := fun l J Jx W hW hJ _ hY h0 =>
  backN_in n hn l Bm K N cap hN pl xs J Jx hY W hJ (obj_keep hm hW) (hg.keep (Lv.of_below hW)) hBm h0
end Go.Proofs.YtkapejcbmonfkaaGreatDoor
