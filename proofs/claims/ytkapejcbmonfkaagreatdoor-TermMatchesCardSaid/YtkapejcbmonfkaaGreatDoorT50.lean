/- Trees that have memory of their own: how they lie, and in which blocks: plain. No condition but those that each theorem names. -/
import Derived.Test.YtkapejcbmonfkaaGreatDoorT2m
namespace Go.Proofs.YtkapejcbmonfkaaGreatDoor
open Go.RowKit

/-- All but one block as they were. -/
structure Held (K : Nat) (W W' : World) : Prop where
  os : W'.os = W.os
  tape : W'.tape = W.tape
  output : W'.output = W.output
  size : W.heap.size ≤ W'.heap.size
  same : ∀ k, k < W.heap.size → k ≠ K → W'.heap[k]? = W.heap[k]?
theorem Held.refl (K : Nat) (W : World) : Held K W W := ⟨rfl, rfl, rfl, Nat.le_refl _, fun _ _ _ => rfl⟩
theorem Held.trans {K : Nat} {A B C : World} (h : Held K A B) (k : Held K B C) : Held K A C :=
  ⟨k.os.trans h.os, k.tape.trans h.tape, k.output.trans h.output, Nat.le_trans h.size k.size, fun i hi h1 => (k.same i (Nat.lt_of_lt_of_le hi h.size) h1).trans (h.same i hi h1)⟩
theorem Held.of_below {K : Nat} {W W' : World} (h : Below W.heap.size W W') : Held K W W' := ⟨h.os, h.tape, h.output, h.size, fun k hk _ => h.block k hk⟩
theorem Held.of_grown {K : Nat} {W W' : World} (h : W.grownBy W' (some K)) : Held K W W' := ⟨h.os, h.tape, h.output, h.size, fun k hk h2 => h.block k hk (by simpa using h2)⟩
theorem Held.block {K : Nat} {W W' : World} (h : Held K W W') {k : Nat} {o : Obj} (ho : W.heap[k]? = some o) (h1 : k ≠ K) : W'.heap[k]? = some o := (h.same k (lt_of_block ho) h1).trans ho
mutual
/-- A term's arguments, and theirs, lie in blocks of their own, each of which is one of S. -/
def MineT (w : World) : Tm → Option Addr → Nat → List Nat → Prop
  | .mk _ _ _ _ _ l, p, cap, S => l.length ≤ 4000 ∧ ((l = [] ∧ p = none ∧ cap = 0 ∧ S = []) ∨ ∃ b arr S', p = some ⟨b, 0, none⟩ ∧ S = b :: S' ∧ w.heap[b]? = some (.cells arr 25 (0, 0)) ∧ arr.size = cap * 6 ∧ (l.length ≤ cap ∧ cap ≤ maxLen) ∧ b ∉ S' ∧ MineR w l b 0 S')
def MineR (w : World) : List Tm → Nat → Nat → List Nat → Prop
  | [], _, _, S => S = []
  | t :: l, b, o, S => ∃ p cap S1 S2, S = S1 ++ S2 ∧ (∀ x ∈ S1, x ∉ S2) ∧ Six w b o t p cap ∧ MineT w t p cap S1 ∧ MineR w l b (o + 6) S2
end
theorem Six.same {w w' : World} {b o : Nat} {t : Tm} {p : Option Addr} {cap : Nat} (h : Six w b o t p cap) (hb : w'.heap[b]? = w.heap[b]?) : Six w' b o t p cap := by
  have e : ∀ k, w'.cell? ⟨b, k, none⟩ = w.cell? ⟨b, k, none⟩ := fun k => World.cell?_of_block hb
  exact ⟨(e _).trans h.c0, (e _).trans h.c1, (e _).trans h.c2, (e _).trans h.c3, (e _).trans h.c4, (e _).trans h.c5⟩
mutual
theorem MineT.same {w w' : World} : ∀ {t : Tm} {p : Option Addr} {cap : Nat} {S : List Nat}, MineT w t p cap S → (∀ k ∈ S, w'.heap[k]? = w.heap[k]?) → MineT w' t p cap S
  | .mk _ _ _ _ _ l, p, cap, S, h, hs => by
    unfold MineT at h ⊢
    refine ⟨h.1, ?_⟩
    rcases h.2 with h | ⟨b, arr, S', rfl, rfl, h1, h2, h3, h4, h5⟩
    · exact .inl h
    · have e := hs b (by simp)
      exact .inr ⟨b, arr, S', rfl, rfl, e.trans h1, h2, h3, h4, MineR.same h5 e fun k hk => hs k (by simp [hk])⟩
theorem MineR.same {w w' : World} : ∀ {l : List Tm} {b o : Nat} {S : List Nat}, MineR w l b o S → w'.heap[b]? = w.heap[b]? → (∀ k ∈ S, w'.heap[k]? = w.heap[k]?) → MineR w' l b o S
  | [], _, _, _, h, _, _ => by unfold MineR at h ⊢; exact h
  | t :: l, b, o, S, h, hb, hs => by
    unfold MineR at h ⊢
    obtain ⟨p, cap, S1, S2, rfl, hd, h1, h2, h3⟩ := h
    exact ⟨p, cap, S1, S2, rfl, hd, h1.same hb, MineT.same h2 fun k hk => hs k (by simp [hk]), MineR.same h3 hb fun k hk => hs k (by simp [hk])⟩
end
mutual
theorem MineT.at_ {w : World} : ∀ {t : Tm} {p : Option Addr} {cap : Nat} {S : List Nat}, MineT w t p cap S → TmAt w t p
  | .mk _ _ _ _ _ l, p, cap, S, h => by
    unfold MineT at h
    unfold TmAt
    refine ⟨by unfold maxLen; omega, ?_⟩
    rcases h.2 with h | ⟨b, arr, S', rfl, rfl, h1, h2, h3, h4, h5⟩
    · exact .inl h.1
    · exact .inr ⟨b, 0, rfl, MineR.at_ h5⟩
theorem MineR.at_ {w : World} : ∀ {l : List Tm} {b o : Nat} {S : List Nat}, MineR w l b o S → RowT w l b o
  | [], _, _, _, _ => by unfold RowT; trivial
  | t :: l, b, o, S, h => by
    unfold MineR at h
    unfold RowT
    obtain ⟨p, cap, S1, S2, rfl, hd, h1, h2, h3⟩ := h
    exact ⟨⟨p, cap, h1, MineT.at_ h2⟩, MineR.at_ h3⟩
end
mutual
theorem MineT.lt {w : World} : ∀ {t : Tm} {p : Option Addr} {cap : Nat} {S : List Nat}, MineT w t p cap S → ∀ k ∈ S, k < w.heap.size
  | .mk _ _ _ _ _ l, p, cap, S, h => by
    unfold MineT at h
    rcases h.2 with ⟨_, _, _, rfl⟩ | ⟨b, arr, S', rfl, rfl, h1, h2, h3, h4, h5⟩
    · intro k hk; cases hk
    · intro k hk
      rcases List.mem_cons.1 hk with rfl | hk
      · exact lt_of_block h1
      · exact MineR.lt h5 k hk
theorem MineR.lt {w : World} : ∀ {l : List Tm} {b o : Nat} {S : List Nat}, MineR w l b o S → ∀ k ∈ S, k < w.heap.size
  | [], _, _, _, h => by unfold MineR at h; subst h; intro k hk; cases hk
  | t :: l, b, o, S, h => by
    unfold MineR at h
    obtain ⟨p, cap, S1, S2, rfl, hd, h1, h2, h3⟩ := h
    intro k hk
    rcases List.mem_append.1 hk with hk | hk
    · exact MineT.lt h2 k hk
    · exact MineR.lt h3 k hk
end
theorem MineR.snoc {w : World} {b : Nat} {t : Tm} {p : Option Addr} {cap : Nat} {S1 : List Nat} : ∀ {l : List Tm} {o : Nat} {S : List Nat}, MineR w l b o S → Six w b (o + l.length * 6) t p cap → MineT w t p cap S1 → (∀ x ∈ S, x ∉ S1) → MineR w (l ++ [t]) b o (S ++ S1)
  | [], o, S, h, h6, hT, hd => by
    unfold MineR at h
    subst h
    show MineR w [t] b o S1
    unfold MineR MineR
    exact ⟨p, cap, S1, [], by simp, by simp, by simpa using h6, hT, rfl⟩
  | u :: l, o, S, h, h6, hT, hd => by
    unfold MineR at h
    obtain ⟨q, c, A, B, rfl, hd1, h1, h2, h3⟩ := h
    show MineR w (u :: (l ++ [t])) b o (A ++ B ++ S1)
    unfold MineR
    refine ⟨q, c, A, B ++ S1, by simp, ?_, h1, h2, MineR.snoc h3 ?_ hT fun x hx => hd x (by simp [hx])⟩
    · intro x hx hx2
      rcases List.mem_append.1 hx2 with h | h
      · exact hd1 x hx h
      · exact hd x (by simp [hx]) h
    · rw [show o + 6 + l.length * 6 = o + (u :: l).length * 6 by simp; omega]; exact h6
/-- A row's cells from elsewhere: what a row holds depends on its cells and on its terms' blocks. -/
theorem MineR.cells {w w' : World} {b b' : Nat} : ∀ {l : List Tm} {o o' : Nat} {S : List Nat}, MineR w l b o S → (∀ j, j < l.length * 6 → w'.cell? ⟨b', o' + j, none⟩ = w.cell? ⟨b, o + j, none⟩) → (∀ k ∈ S, w'.heap[k]? = w.heap[k]?) → MineR w' l b' o' S
  | [], _, _, _, h, _, _ => by unfold MineR at h ⊢; exact h
  | t :: l, o, o', S, h, hc, hs => by
    unfold MineR at h ⊢
    obtain ⟨p, cap, S1, S2, rfl, hd, h1, h2, h3⟩ := h
    have hc' : ∀ j, j < 6 → w'.cell? ⟨b', o' + j, none⟩ = w.cell? ⟨b, o + j, none⟩ := fun j hj => hc j (by simp; omega)
    refine ⟨p, cap, S1, S2, rfl, hd, ⟨?_, ?_, ?_, ?_, ?_, ?_⟩, h2.same fun k hk => hs k (by simp [hk]), MineR.cells h3 (fun j hj => ?_) fun k hk => hs k (by simp [hk])⟩
    · exact (hc' 0 (by omega)).trans h1.c0
    · exact (hc' 1 (by omega)).trans h1.c1
    · exact (hc' 2 (by omega)).trans h1.c2
    · exact (hc' 3 (by omega)).trans h1.c3
    · exact (hc' 4 (by omega)).trans h1.c4
    · exact (hc' 5 (by omega)).trans h1.c5
    · have := hc (6 + j) (by simp; omega)
      rwa [← Nat.add_assoc, ← Nat.add_assoc] at this
theorem MineR.get {w : World} : ∀ {l : List Tm} {b o : Nat} {S : List Nat}, MineR w l b o S → ∀ k (h : k < l.length), ∃ p cap S1, Six w b (o + k * 6) l[k] p cap ∧ MineT w l[k] p cap S1 ∧ ∀ x ∈ S1, x ∈ S
  | [], _, _, _, _, k, h => by simp at h
  | t :: l, b, o, S, h, 0, _ => by
    unfold MineR at h
    obtain ⟨p, cap, S1, S2, rfl, hd, h1, h2, h3⟩ := h
    exact ⟨p, cap, S1, by simpa using h1, h2, fun x hx => by simp [hx]⟩
  | t :: l, b, o, S, h, k + 1, hk => by
    unfold MineR at h
    obtain ⟨p, cap, S1, S2, rfl, hd, h1, h2, h3⟩ := h
    obtain ⟨p, cap, S3, h4, h5, h6⟩ := MineR.get h3 k (by simpa using hk)
    rw [show o + 6 + k * 6 = o + (k + 1) * 6 by omega] at h4
    exact ⟨p, cap, S3, h4, h5, fun x hx => by simp [h6 x hx]⟩
end Go.Proofs.YtkapejcbmonfkaaGreatDoor
