/- Lists of trees in memory of their own, but that an empty list of arguments may lie anywhere; append of one term: plain. No condition but those that each theorem names. Lists of binds whose terms have memory of their own: plain. No condition but those that each theorem names. -/
import Derived.Test.YtiaddfedaikaiaaGreatDoorT76m
namespace Go.Proofs.YtiaddfedaikaiaaGreatDoor
open Go.RowKit

mutual
/-- A term's arguments, and theirs, lie in blocks of their own, each of which is one of S. -/
def WeakT (w : World) : Tm → Option Addr → Nat → List Nat → Prop
  | .mk _ _ _ _ _ l, p, cap, S => l.length ≤ 1759218604390 ∧ ((l = [] ∧ S = []) ∨ ∃ b arr S', p = some ⟨b, 0, none⟩ ∧ S = b :: S' ∧ w.heap[b]? = some (.cells arr 25 (0, 0)) ∧ arr.size = cap * 6 ∧ (l.length ≤ cap ∧ cap ≤ maxLen) ∧ b ∉ S' ∧ WeakR w l b 0 S')
def WeakR (w : World) : List Tm → Nat → Nat → List Nat → Prop
  | [], _, _, S => S = []
  | t :: l, b, o, S => ∃ p cap S1 S2, S = S1 ++ S2 ∧ (∀ x ∈ S1, x ∉ S2) ∧ Six w b o t p cap ∧ WeakT w t p cap S1 ∧ WeakR w l b (o + 6) S2
end
mutual
theorem WeakT.same {w w' : World} : ∀ {t : Tm} {p : Option Addr} {cap : Nat} {S : List Nat}, WeakT w t p cap S → (∀ k ∈ S, w'.heap[k]? = w.heap[k]?) → WeakT w' t p cap S
  | .mk _ _ _ _ _ l, p, cap, S, h, hs => by
    unfold WeakT at h ⊢
    refine ⟨h.1, ?_⟩
    rcases h.2 with h | ⟨b, arr, S', rfl, rfl, h1, h2, h3, h4, h5⟩
    · exact .inl h
    · have e := hs b (by simp)
      exact .inr ⟨b, arr, S', rfl, rfl, e.trans h1, h2, h3, h4, WeakR.same h5 e fun k hk => hs k (by simp [hk])⟩
theorem WeakR.same {w w' : World} : ∀ {l : List Tm} {b o : Nat} {S : List Nat}, WeakR w l b o S → w'.heap[b]? = w.heap[b]? → (∀ k ∈ S, w'.heap[k]? = w.heap[k]?) → WeakR w' l b o S
  | [], _, _, _, h, _, _ => by unfold WeakR at h ⊢; exact h
  | t :: l, b, o, S, h, hb, hs => by
    unfold WeakR at h ⊢
    obtain ⟨p, cap, S1, S2, rfl, hd, h1, h2, h3⟩ := h
    exact ⟨p, cap, S1, S2, rfl, hd, h1.same hb, WeakT.same h2 fun k hk => hs k (by simp [hk]), WeakR.same h3 hb fun k hk => hs k (by simp [hk])⟩
end
mutual
theorem WeakT.at_ {w : World} : ∀ {t : Tm} {p : Option Addr} {cap : Nat} {S : List Nat}, WeakT w t p cap S → TmAt w t p
  | .mk _ _ _ _ _ l, p, cap, S, h => by
    unfold WeakT at h
    unfold TmAt
    refine ⟨by unfold maxLen; omega, ?_⟩
    rcases h.2 with h | ⟨b, arr, S', rfl, rfl, h1, h2, h3, h4, h5⟩
    · exact .inl h.1
    · exact .inr ⟨b, 0, rfl, WeakR.at_ h5⟩
theorem WeakR.at_ {w : World} : ∀ {l : List Tm} {b o : Nat} {S : List Nat}, WeakR w l b o S → RowT w l b o
  | [], _, _, _, _ => by unfold RowT; trivial
  | t :: l, b, o, S, h => by
    unfold WeakR at h
    unfold RowT
    obtain ⟨p, cap, S1, S2, rfl, hd, h1, h2, h3⟩ := h
    exact ⟨⟨p, cap, h1, WeakT.at_ h2⟩, WeakR.at_ h3⟩
end
mutual
theorem WeakT.lt {w : World} : ∀ {t : Tm} {p : Option Addr} {cap : Nat} {S : List Nat}, WeakT w t p cap S → ∀ k ∈ S, k < w.heap.size
  | .mk _ _ _ _ _ l, p, cap, S, h => by
    unfold WeakT at h
    rcases h.2 with ⟨_, rfl⟩ | ⟨b, arr, S', rfl, rfl, h1, h2, h3, h4, h5⟩
    · intro k hk; cases hk
    · intro k hk
      rcases List.mem_cons.1 hk with rfl | hk
      · exact lt_of_block h1
      · exact WeakR.lt h5 k hk
theorem WeakR.lt {w : World} : ∀ {l : List Tm} {b o : Nat} {S : List Nat}, WeakR w l b o S → ∀ k ∈ S, k < w.heap.size
  | [], _, _, _, h => by unfold WeakR at h; subst h; intro k hk; cases hk
  | t :: l, b, o, S, h => by
    unfold WeakR at h
    obtain ⟨p, cap, S1, S2, rfl, hd, h1, h2, h3⟩ := h
    intro k hk
    rcases List.mem_append.1 hk with hk | hk
    · exact WeakT.lt h2 k hk
    · exact WeakR.lt h3 k hk
end
theorem WeakR.snoc {w : World} {b : Nat} {t : Tm} {p : Option Addr} {cap : Nat} {S1 : List Nat} : ∀ {l : List Tm} {o : Nat} {S : List Nat}, WeakR w l b o S → Six w b (o + l.length * 6) t p cap → WeakT w t p cap S1 → (∀ x ∈ S, x ∉ S1) → WeakR w (l ++ [t]) b o (S ++ S1)
  | [], o, S, h, h6, hT, hd => by
    unfold WeakR at h
    subst h
    show WeakR w [t] b o S1
    unfold WeakR WeakR
    exact ⟨p, cap, S1, [], by simp, by simp, by simpa using h6, hT, rfl⟩
  | u :: l, o, S, h, h6, hT, hd => by
    unfold WeakR at h
    obtain ⟨q, c, A, B, rfl, hd1, h1, h2, h3⟩ := h
    show WeakR w (u :: (l ++ [t])) b o (A ++ B ++ S1)
    unfold WeakR
    refine ⟨q, c, A, B ++ S1, by simp, ?_, h1, h2, WeakR.snoc h3 ?_ hT fun x hx => hd x (by simp [hx])⟩
    · intro x hx hx2
      rcases List.mem_append.1 hx2 with h | h
      · exact hd1 x hx h
      · exact hd x (by simp [hx]) h
    · rw [show o + 6 + l.length * 6 = o + (u :: l).length * 6 by simp; omega]; exact h6
/-- A row's cells from elsewhere: what a row holds depends on its cells and on its terms' blocks. -/
theorem WeakR.cells {w w' : World} {b b' : Nat} : ∀ {l : List Tm} {o o' : Nat} {S : List Nat}, WeakR w l b o S → (∀ j, j < l.length * 6 → w'.cell? ⟨b', o' + j, none⟩ = w.cell? ⟨b, o + j, none⟩) → (∀ k ∈ S, w'.heap[k]? = w.heap[k]?) → WeakR w' l b' o' S
  | [], _, _, _, h, _, _ => by unfold WeakR at h ⊢; exact h
  | t :: l, o, o', S, h, hc, hs => by
    unfold WeakR at h ⊢
    obtain ⟨p, cap, S1, S2, rfl, hd, h1, h2, h3⟩ := h
    have hc' : ∀ j, j < 6 → w'.cell? ⟨b', o' + j, none⟩ = w.cell? ⟨b, o + j, none⟩ := fun j hj => hc j (by simp; omega)
    refine ⟨p, cap, S1, S2, rfl, hd, ⟨?_, ?_, ?_, ?_, ?_, ?_⟩, h2.same fun k hk => hs k (by simp [hk]), WeakR.cells h3 (fun j hj => ?_) fun k hk => hs k (by simp [hk])⟩
    · exact (hc' 0 (by omega)).trans h1.c0
    · exact (hc' 1 (by omega)).trans h1.c1
    · exact (hc' 2 (by omega)).trans h1.c2
    · exact (hc' 3 (by omega)).trans h1.c3
    · exact (hc' 4 (by omega)).trans h1.c4
    · exact (hc' 5 (by omega)).trans h1.c5
    · have := hc (6 + j) (by simp; omega)
      rwa [← Nat.add_assoc, ← Nat.add_assoc] at this
theorem WeakR.get {w : World} : ∀ {l : List Tm} {b o : Nat} {S : List Nat}, WeakR w l b o S → ∀ k (h : k < l.length), ∃ p cap S1, Six w b (o + k * 6) l[k] p cap ∧ WeakT w l[k] p cap S1 ∧ ∀ x ∈ S1, x ∈ S
  | [], _, _, _, _, k, h => by simp at h
  | t :: l, b, o, S, h, 0, _ => by
    unfold WeakR at h
    obtain ⟨p, cap, S1, S2, rfl, hd, h1, h2, h3⟩ := h
    exact ⟨p, cap, S1, by simpa using h1, h2, fun x hx => by simp [hx]⟩
  | t :: l, b, o, S, h, k + 1, hk => by
    unfold WeakR at h
    obtain ⟨p, cap, S1, S2, rfl, hd, h1, h2, h3⟩ := h
    obtain ⟨p, cap, S3, h4, h5, h6⟩ := WeakR.get h3 k (by simpa using hk)
    rw [show o + 6 + k * 6 = o + (k + 1) * 6 by omega] at h4
    exact ⟨p, cap, S3, h4, h5, fun x hx => by simp [h6 x hx]⟩
/-- Terms each of which has memory of its own. -/
def WeakS (w : World) : Row → List Nat → Prop
  | [], S => S = []
  | x :: L, S => ∃ S1 S2, S = S1 ++ S2 ∧ (∀ k ∈ S1, k ∉ S2) ∧ WeakT w x.1 x.2.1 x.2.2 S1 ∧ WeakS w L S2
theorem WeakS.same {w w' : World} : ∀ {L : Row} {S : List Nat}, WeakS w L S → (∀ k ∈ S, w'.heap[k]? = w.heap[k]?) → WeakS w' L S
  | [], _, h, _ => h
  | x :: L, S, h, hs => by
    obtain ⟨S1, S2, rfl, hd, h1, h2⟩ := h
    exact ⟨S1, S2, rfl, hd, h1.same fun k hk => hs k (by simp [hk]), WeakS.same h2 fun k hk => hs k (by simp [hk])⟩
theorem WeakS.lt {w : World} : ∀ {L : Row} {S : List Nat}, WeakS w L S → ∀ k ∈ S, k < w.heap.size
  | [], S, h => by have h : S = [] := h; subst h; intro k hk; cases hk
  | x :: L, S, h => by
    obtain ⟨S1, S2, rfl, hd, h1, h2⟩ := h
    intro k hk
    rcases List.mem_append.1 hk with hk | hk
    · exact h1.lt k hk
    · exact WeakS.lt h2 k hk
theorem WeakS.snoc {w : World} {x : Tm × Option Addr × Nat} {S1 : List Nat} (hx : WeakT w x.1 x.2.1 x.2.2 S1) : ∀ {L : Row} {S : List Nat}, WeakS w L S → (∀ k ∈ S, k ∉ S1) → WeakS w (L ++ [x]) (S ++ S1)
  | [], S, h, _ => by
    have h : S = [] := h
    subst h
    exact ⟨S1, [], by simp, by simp, hx, rfl⟩
  | y :: L, S, h, hd => by
    obtain ⟨A, B, rfl, hd1, h1, h2⟩ := h
    refine ⟨A, B ++ S1, by simp, ?_, h1, WeakS.snoc hx h2 fun k hk => hd k (by simp [hk])⟩
    intro k hk hk2
    rcases List.mem_append.1 hk2 with h | h
    · exact hd1 k hk h
    · exact hd k (by simp [hk]) h
theorem WeakS.get {w : World} : ∀ {L : Row} {S : List Nat}, WeakS w L S → ∀ k (h : k < L.length), ∃ S1, WeakT w L[k].1 L[k].2.1 L[k].2.2 S1 ∧ ∀ x ∈ S1, x ∈ S
  | [], _, _, k, h => by simp at h
  | x :: L, S, h, 0, _ => by
    obtain ⟨S1, S2, rfl, hd, h1, h2⟩ := h
    exact ⟨S1, h1, fun x hx => by simp [hx]⟩
  | x :: L, S, h, k + 1, hk => by
    obtain ⟨S1, S2, rfl, hd, h1, h2⟩ := h
    obtain ⟨S3, h3, h4⟩ := WeakS.get h2 k (by simpa using hk)
    exact ⟨S3, by simpa using h3, fun x hx => by simp [h4 x hx]⟩
theorem WeakR.of_flat {w : World} {b : Nat} : ∀ (L : Row) (o : Nat) (S : List Nat), (∀ j u, (flat L)[j]? = some u → w.cell? ⟨b, o + j, none⟩ = some u) → WeakS w L S → WeakR w (L.map (·.1)) b o S
  | [], _, _, _, h => h
  | x :: L, o, S, hc, h => by
    obtain ⟨S1, S2, rfl, hd, h1, h2⟩ := h
    have hf : flat (x :: L) = cellsT x ++ flat L := rfl
    rw [hf] at hc
    show WeakR w (x.1 :: L.map (·.1)) b o (S1 ++ S2)
    unfold WeakR
    refine ⟨x.2.1, x.2.2, S1, S2, rfl, hd, ⟨hc 0 _ rfl, hc 1 _ rfl, hc 2 _ rfl, hc 3 _ rfl, hc 4 _ rfl, hc 5 _ rfl⟩, h1, WeakR.of_flat L (o + 6) S2 (fun j u hj => ?_) h2⟩
    have h2 := hc (6 + j) u (by rw [List.getElem?_append_right (by simp [cellsT])]; simpa [cellsT] using hj)
    rwa [← Nat.add_assoc] at h2
/-- A list of terms in memory of its own, from a block on. -/
structure WeakL (w : World) (B : Nat) (q : Option Addr) (n c : Nat) (L : Row) (S : List Nat) : Prop where
  row : w.ownsRow B 25 6 (.slice q n c) n (flat L)
  own : WeakS w L S
  far : ∀ k, (Value.slice q n c).ownBlock = some k → k ∉ S
  low : ∀ k ∈ S, B ≤ k
theorem WeakL.length {w : World} {B : Nat} {q : Option Addr} {n c : Nat} {L : Row} {S : List Nat} (h : WeakL w B q n c L S) : L.length = n := by
  have h1 := h.row.1
  rw [flat_length] at h1
  omega
theorem WeakL.nil (w : World) (B : Nat) : WeakL w B none 0 0 [] [] :=
  ⟨World.ownsRow_nil _ _ _ _, rfl, fun k h => by simp [Value.ownBlock] at h, fun k hk => by cases hk⟩
/-- A row that one owns is as it was where its block is. -/
theorem WeakL.same {w w' : World} {B : Nat} {q : Option Addr} {n c : Nat} {L : Row} {S : List Nat} (h : WeakL w B q n c L S) (hb : ∀ k, B ≤ k → k < w.heap.size → w'.heap[k]? = w.heap[k]?) : WeakL w' B q n c L S := by
  refine ⟨⟨h.row.1, ?_⟩, h.own.same fun k hk => hb k (h.low k hk) (h.own.lt k hk), h.far, h.low⟩
  rcases h.row.2 with h1 | ⟨g, cap, cur, e, h1, h2, h3⟩
  · exact .inl h1
  · exact .inr ⟨g, cap, cur, e, h1, (hb g h1 (lt_of_block h2)).trans h2, h3⟩
theorem WeakL.base {w : World} {B B' : Nat} {q : Option Addr} {n c : Nat} {L : Row} {S : List Nat} (h : WeakL w B q n c L S) (hb : B' ≤ B) : WeakL w B' q n c L S := by
  refine ⟨⟨h.row.1, ?_⟩, h.own, h.far, fun k hk => Nat.le_trans hb (h.low k hk)⟩
  rcases h.row.2 with h1 | ⟨g, cap, cur, e, h1, h2⟩
  · exact .inl h1
  · exact .inr ⟨g, cap, cur, e, Nat.le_trans hb h1, h2⟩
/-- Behind an append of one. -/
theorem WeakL.snoc {w w' : World} {B : Nat} {q : Option Addr} {n c g c' : Nat} {L : Row} {S S1 : List Nat} {x : Tm × Option Addr × Nat} (h : WeakL w B q n c L S) (hx : WeakT w x.1 x.2.1 x.2.2 S1)
    (hd : ∀ k ∈ S, k ∉ S1) (hv : ∀ k, (Value.slice q n c).ownBlock = some k → k ∉ S1) (hl : ∀ k ∈ S1, B ≤ k)
    (hr : w'.ownsRow B 25 6 (.slice (some ⟨g, 0, none⟩) (n + 1) c') (n + 1) (flat L ++ cellsT x)) (hg : w.grownBy w' (Value.slice q n c).ownBlock) (hat : (Value.slice q n c).ownBlock = some g ∨ w.heap.size ≤ g) :
    WeakL w' B (some ⟨g, 0, none⟩) (n + 1) c' (L ++ [x]) (S ++ S1) := by
  have hf : flat (L ++ [x]) = flat L ++ cellsT x := by unfold flat; rw [List.flatMap_append]; simp
  have e : ∀ k, k ∈ S ∨ k ∈ S1 → w'.heap[k]? = w.heap[k]? := fun k hk => by
    refine hg.block k ?_ fun e => ?_
    · rcases hk with hk | hk
      · exact h.own.lt k hk
      · exact hx.lt k hk
    · rcases hk with hk | hk
      · exact h.far k e.symm hk
      · exact hv k e.symm hk
  refine ⟨by rw [hf]; exact hr, (h.own.same fun k hk => e k (.inl hk)).snoc (hx.same fun k hk => e k (.inr hk)) hd, fun k hk hk2 => ?_, fun k hk => ?_⟩
  · have hk : g = k := by simpa [Value.ownBlock] using hk
    subst hk
    rcases List.mem_append.1 hk2 with h2 | h2
    · rcases hat with h1 | h1
      · exact h.far _ h1 h2
      · have := h.own.lt _ h2; omega
    · rcases hat with h1 | h1
      · exact hv _ h1 h2
      · have := hx.lt _ h2; omega
  · rcases List.mem_append.1 hk with h2 | h2
    · exact h.low k h2
    · exact hl k h2
/-- As a row of trees. -/
theorem WeakL.rowR {w : World} {B : Nat} {q : Option Addr} {n c : Nat} {L : Row} {S : List Nat} (h : WeakL w B q n c L S) :
    (L = [] ∧ q = none ∧ c = 0 ∧ S = [] ∧ n = 0) ∨ ∃ b arr, q = some ⟨b, 0, none⟩ ∧ B ≤ b ∧ b ∉ S ∧ w.heap[b]? = some (.cells arr 25 (0, 0)) ∧ arr.size = c * 6 ∧ (n ≤ c ∧ c ≤ maxLen) ∧ WeakR w (L.map (·.1)) b 0 S := by
  have hn := h.length
  rcases h.row.2 with ⟨h1, h2⟩ | ⟨g, cap, cur, e, h1, h2, h3, h4, h5, h6⟩
  · simp only [Value.slice.injEq] at h1
    obtain ⟨h1, h3, h4⟩ := h1
    have hL : L = [] := List.length_eq_zero_iff.1 (by omega)
    have hS := h.own
    rw [hL] at hS
    exact .inl ⟨hL, h1, h4, hS, by omega⟩
  · simp only [Value.slice.injEq] at e
    obtain ⟨rfl, -, rfl⟩ := e
    refine .inr ⟨g, cur, rfl, h1, h.far g rfl, h2, h5, ⟨h3, h4⟩, WeakR.of_flat L 0 S (fun j u hj => ?_) h.own⟩
    rw [cells_of h2, Nat.zero_add]
    rw [← h6, List.getElem?_take] at hj
    split at hj
    · simpa using hj
    · cases hj
/-- What stands ahead of an append of one term: the list, the term, and the block of its cells, made just now. -/
structure AppW (W3 W : World) (B : Nat) (q : Option Addr) (k c : Nat) (L : Row) (S : List Nat) (t : Tm) (q2 : Option Addr) (c2 : Nat) (S1 : List Nat) : Prop where
  world : W = W3.alloc (.cells (cellsA t q2 c2) 25)
  list : WeakL W3 B q k c L S
  term : WeakT W3 t q2 c2 S1
  few : k < 1759218604390
  base : B ≤ W3.heap.size
  apart : ∀ x ∈ S, x ∉ S1
  own : ∀ x, (Value.slice q k c).ownBlock = some x → x ∉ S1
  low : ∀ x ∈ S1, B ≤ x
/-- What stands behind it. -/
structure AppV (W3 w5 : World) (B g k c' : Nat) (L : Row) (S : List Nat) (t : Tm) (q2 : Option Addr) (c2 : Nat) (S1 : List Nat) : Prop where
  list : WeakL w5 B (some ⟨g, 0, none⟩) (k + 1) c' (L ++ [(t, q2, c2)]) (S ++ S1)
  below : Below B W3 w5
theorem AppW.done {W3 W w5 : World} {B : Nat} {q : Option Addr} {k c g c' : Nat} {L : Row} {S : List Nat} {t : Tm} {q2 : Option Addr} {c2 : Nat} {S1 : List Nat} (h : AppW W3 W B q k c L S t q2 c2 S1)
    (hown : w5.ownsRow B 25 6 (.slice (some ⟨g, 0, none⟩) (k + 1) c') (k + 1) (flat L ++ cellsT (t, q2, c2))) (hgrow : W.grownBy w5 (Value.slice q k c).ownBlock) (hat : (Value.slice q k c).ownBlock = some g ∨ g = W.heap.size) : AppV W3 w5 B g k c' L S t q2 c2 S1 := by
  have hB := h.base
  have hA : Below W3.heap.size W3 W := by rw [h.world]; exact (Below.refl _ _).alloc (Nat.le_refl _) _
  have hz : W.heap.size = W3.heap.size + 1 := by rw [h.world]; simp
  have hl := h.list.same (w' := W) fun x _ hx => hA.block x hx
  have ht := h.term.same (w' := W) fun x hx => hA.block x (h.term.lt x hx)
  refine ⟨hl.snoc (x := (t, q2, c2)) ht h.apart h.own h.low hown hgrow (hat.imp id fun h => by omega), ?_⟩
  exact (hA.mono hB).grown hgrow (by omega) fun x e => ownBlock_le hl.row e
theorem AppW.run {W3 W : World} {B : Nat} {q : Option Addr} {k c : Nat} {L : Row} {S : List Nat} {t : Tm} {q2 : Option Addr} {c2 : Nat} {S1 : List Nat} (h : AppW W3 W B q k c L S t q2 c2 S1) (ty : TypeId) :
    ∃ g c' w5, (Builtin.append_ #[23, 23] ty #[.slice q k c, .slice (some ⟨W3.heap.size, 0, none⟩) 1 1]).run Tryz.prog W = .ok (.slice (some ⟨g, 0, none⟩) (k + 1) c') w5 ∧ AppV W3 w5 B g k c' L S t q2 c2 S1 := by
  obtain ⟨i0, hi, hz0, hz1, hz2⟩ := info_parts infoTerm
  have hf := h.few
  have hA : Below W3.heap.size W3 W := by rw [h.world]; exact (Below.refl _ _).alloc (Nat.le_refl _) _
  have hz : W.heap.size = W3.heap.size + 1 := by rw [h.world]; simp
  have hl := h.list.same (w' := W) fun x _ hx => hA.block x hx
  have hn : W.heap[W3.heap.size]? = some (.cells (cellsA t q2 c2) 25 (0, 0)) := by rw [h.world]; exact World.alloc_heap_new W3 _
  have hb := h.base
  obtain ⟨g, c', w5, hr, h2, h3, h4, _⟩ := run_append_lies (P := Tryz.prog) W 23 ty B 25 i0 (.agg #[.int .i64 0, .string ⟨#[]⟩, .string ⟨#[]⟩, .int .u64 0, .int .i64 0, .slice none 0 0]) 6 80 Tryz.underlying23 hi hz0 hz1 hz2 rfl (by decide) (.slice q k c) k (flat L) hl.row ⟨W3.heap.size, 0, none⟩ 1 1 (cellsT (t, q2, c2)) rfl (World.news_of_block hn) (cellsT_one _) (by decide) (by unfold maxLen; omega) (by omega) (by omega) W.heap.size rfl
  exact ⟨g, c', w5, hr, h.done h2 h3 h4⟩
end Go.Proofs.YtiaddfedaikaiaaGreatDoor

namespace Go.Proofs.YtiaddfedaikaiaaGreatDoor
open Go.RowKit

abbrev RowB := List (Int × Tm × Option Addr × Nat)
def cellsB (x : Int × Tm × Option Addr × Nat) : List Value := .int .i64 x.1 :: cellsT x.2
def flatB (L : RowB) : List Value := L.flatMap cellsB
theorem flatB_length (L : RowB) : (flatB L).length = L.length * 7 := by
  induction L with
  | nil => rfl
  | cons x L ih =>
    have h : flatB (x :: L) = cellsB x ++ flatB L := rfl
    rw [h, List.length_append, ih]
    simp [cellsB, cellsT]
    omega
theorem flatB_get : ∀ (L : RowB) (k : Nat) (h : k < L.length) (j : Nat), j < 7 → (flatB L)[k * 7 + j]? = (cellsB L[k])[j]?
  | [], k, h, _, _ => by simp at h
  | x :: L, 0, _, j, hj => by
    have h : flatB (x :: L) = cellsB x ++ flatB L := rfl
    rw [h, Nat.zero_mul, Nat.zero_add, List.getElem?_append_left (by simp [cellsB, cellsT]; omega)]
    rfl
  | x :: L, k + 1, hk, j, hj => by
    have h : flatB (x :: L) = cellsB x ++ flatB L := rfl
    have hl : (cellsB x).length = 7 := rfl
    rw [h, List.getElem?_append_right (by omega), hl, show (k + 1) * 7 + j - 7 = k * 7 + j by omega, flatB_get L k (by simpa using hk) j hj]
    rfl
/-- A list of binds, its terms in memory of their own, from a block on. -/
structure BindL (w : World) (B : Nat) (q : Option Addr) (n c : Nat) (L : RowB) (S : List Nat) : Prop where
  row : w.ownsRow B 54 7 (.slice q n c) n (flatB L)
  own : WeakS w (L.map (·.2)) S
  far : ∀ k, (Value.slice q n c).ownBlock = some k → k ∉ S
  low : ∀ k ∈ S, B ≤ k
theorem BindL.length {w : World} {B : Nat} {q : Option Addr} {n c : Nat} {L : RowB} {S : List Nat} (h : BindL w B q n c L S) : L.length = n := by
  have h1 := h.row.1
  rw [flatB_length] at h1
  omega
theorem BindL.nil (w : World) (B : Nat) : BindL w B none 0 0 [] [] :=
  ⟨World.ownsRow_nil _ _ _ _, rfl, fun k h => by simp [Value.ownBlock] at h, fun k hk => by cases hk⟩
theorem BindL.same {w w' : World} {B : Nat} {q : Option Addr} {n c : Nat} {L : RowB} {S : List Nat} (h : BindL w B q n c L S) (hb : ∀ k, B ≤ k → k < w.heap.size → w'.heap[k]? = w.heap[k]?) : BindL w' B q n c L S := by
  refine ⟨⟨h.row.1, ?_⟩, h.own.same fun k hk => hb k (h.low k hk) (h.own.lt k hk), h.far, h.low⟩
  rcases h.row.2 with h1 | ⟨g, cap, cur, e, h1, h2, h3⟩
  · exact .inl h1
  · exact .inr ⟨g, cap, cur, e, h1, (hb g h1 (lt_of_block h2)).trans h2, h3⟩
/-- Behind an append of one. -/
theorem BindL.snoc {w w' : World} {B : Nat} {q : Option Addr} {n c g c' : Nat} {L : RowB} {S S1 : List Nat} {x : Int × Tm × Option Addr × Nat} (h : BindL w B q n c L S) (hx : WeakT w x.2.1 x.2.2.1 x.2.2.2 S1)
    (hd : ∀ k ∈ S, k ∉ S1) (hv : ∀ k, (Value.slice q n c).ownBlock = some k → k ∉ S1) (hl : ∀ k ∈ S1, B ≤ k)
    (hr : w'.ownsRow B 54 7 (.slice (some ⟨g, 0, none⟩) (n + 1) c') (n + 1) (flatB L ++ cellsB x)) (hg : w.grownBy w' (Value.slice q n c).ownBlock) (hat : (Value.slice q n c).ownBlock = some g ∨ w.heap.size ≤ g) :
    BindL w' B (some ⟨g, 0, none⟩) (n + 1) c' (L ++ [x]) (S ++ S1) := by
  have hf : flatB (L ++ [x]) = flatB L ++ cellsB x := by unfold flatB; rw [List.flatMap_append]; simp
  have e : ∀ k, k ∈ S ∨ k ∈ S1 → w'.heap[k]? = w.heap[k]? := fun k hk => by
    refine hg.block k ?_ fun e => ?_
    · rcases hk with hk | hk
      · exact h.own.lt k hk
      · exact hx.lt k hk
    · rcases hk with hk | hk
      · exact h.far k e.symm hk
      · exact hv k e.symm hk
  refine ⟨by rw [hf]; exact hr, by rw [List.map_append]; exact (h.own.same fun k hk => e k (.inl hk)).snoc (x := x.2) (hx.same fun k hk => e k (.inr hk)) hd, fun k hk hk2 => ?_, fun k hk => ?_⟩
  · have hk : g = k := by simpa [Value.ownBlock] using hk
    subst hk
    rcases List.mem_append.1 hk2 with h2 | h2
    · rcases hat with h1 | h1
      · exact h.far _ h1 h2
      · have := h.own.lt _ h2; omega
    · rcases hat with h1 | h1
      · exact hv _ h1 h2
      · have := hx.lt _ h2; omega
  · rcases List.mem_append.1 hk with h2 | h2
    · exact h.low k h2
    · exact hl k h2
/-- As binds that lie somewhere. -/
theorem BindL.at_ {w : World} {B : Nat} {q : Option Addr} {n c : Nat} {L : RowB} {S : List Nat} (h : BindL w B q n c L S) : BindAt w (L.map fun x => (x.1, x.2.1)) q := fun k hk => by
  have hk' : k < L.length := by simpa using hk
  rcases h.row.2 with ⟨h1, h2⟩ | ⟨g, cap, cur, e, h1, h2, h3, h4, h5, h6⟩
  · have := h.length
    simp only [Value.slice.injEq] at h1
    omega
  · simp only [Value.slice.injEq] at e
    obtain ⟨rfl, -, rfl⟩ := e
    have hn := h.length
    have c0 : ∀ j, j < 7 → w.cell? ⟨g, 0 + k * 7 + j, none⟩ = (cellsB L[k])[j]? := fun j hj => by
      rw [cells_of h2, Nat.zero_add, ← flatB_get L k hk' j hj, ← h6, List.getElem?_take, if_pos (by omega)]
      simp
    obtain ⟨S1, hw, _⟩ := h.own.get k (by simpa using hk')
    rw [List.getElem_map] at hw
    rw [List.getElem_map]
    exact ⟨g, 0, rfl, L[k].2.2.1, L[k].2.2.2, (c0 0 (by omega)).trans rfl, ⟨(c0 1 (by omega)).trans rfl, (c0 2 (by omega)).trans rfl, (c0 3 (by omega)).trans rfl, (c0 4 (by omega)).trans rfl, (c0 5 (by omega)).trans rfl, (c0 6 (by omega)).trans rfl⟩, hw.at_⟩
end Go.Proofs.YtiaddfedaikaiaaGreatDoor
