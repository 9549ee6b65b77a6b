/- Trees that have memory of their own: how they lie, and in which blocks: plain. No condition but those that each theorem names. Walk: fill at variable, copyOf: a tree in memory of its own. No condition but those that each theorem names. Lists of trees that have memory of their own: plain. No condition but those that each theorem names. Walk of the document's answer: Own: the same tree in memory of its own. No condition but those that the theorem names. -/
import Derived.Test.YtiaddfedaikaiaaGreatDoorT2m
import Derived.Laws.OwnMore
import Derived.Test.YtiaddfedaikaiaaGreatDoorT17m
import Derived.Deep.AppendLies
namespace Go.Proofs.YtiaddfedaikaiaaGreatDoor
open Go.RowKit

/-- All but one block as they were. -/
structure Held (K : Nat) (W W' : World) : Prop where
  os : W'.os = W.os
  tape : W'.tape = W.tape
  output : W'.output = W.output
  size : W.heap.size ≤ W'.heap.size
  same : ∀ k, k < W.heap.size → k ≠ K → W'.heap[k]? = W.heap[k]?
theorem Held.refl (K : Nat) (W : World) : Held K W W := ⟨rfl, rfl, rfl, Nat.le_refl _, fun _ _ _ => rfl⟩
theorem Held.trans {K : Nat} {A B C : World} (h : Held K A B) (k : Held K B C) : Held K A C :=
  ⟨k.os.trans h.os, k.tape.trans h.tape, k.output.trans h.output, Nat.le_trans h.size k.size, fun i hi h1 => (k.same i (Nat.lt_of_lt_of_le hi h.size) h1).trans (h.same i hi h1)⟩
theorem Held.of_below {K : Nat} {W W' : World} (h : Below W.heap.size W W') : Held K W W' := ⟨h.os, h.tape, h.output, h.size, fun k hk _ => h.block k hk⟩
theorem Held.of_grown {K : Nat} {W W' : World} (h : W.grownBy W' (some K)) : Held K W W' := ⟨h.os, h.tape, h.output, h.size, fun k hk h2 => h.block k hk (by simpa using h2)⟩
theorem Held.block {K : Nat} {W W' : World} (h : Held K W W') {k : Nat} {o : Obj} (ho : W.heap[k]? = some o) (h1 : k ≠ K) : W'.heap[k]? = some o := (h.same k (lt_of_block ho) h1).trans ho
mutual
/-- A term's arguments, and theirs, lie in blocks of their own, each of which is one of S. -/
def MineT (w : World) : Tm → Option Addr → Nat → List Nat → Prop
  | .mk _ _ _ _ _ l, p, cap, S => l.length ≤ 4000 ∧ ((l = [] ∧ p = none ∧ cap = 0 ∧ S = []) ∨ ∃ b arr S', p = some ⟨b, 0, none⟩ ∧ S = b :: S' ∧ w.heap[b]? = some (.cells arr 25 (0, 0)) ∧ arr.size = cap * 6 ∧ (l.length ≤ cap ∧ cap ≤ maxLen) ∧ b ∉ S' ∧ MineR w l b 0 S')
def MineR (w : World) : List Tm → Nat → Nat → List Nat → Prop
  | [], _, _, S => S = []
  | t :: l, b, o, S => ∃ p cap S1 S2, S = S1 ++ S2 ∧ (∀ x ∈ S1, x ∉ S2) ∧ Six w b o t p cap ∧ MineT w t p cap S1 ∧ MineR w l b (o + 6) S2
end
theorem Six.same {w w' : World} {b o : Nat} {t : Tm} {p : Option Addr} {cap : Nat} (h : Six w b o t p cap) (hb : w'.heap[b]? = w.heap[b]?) : Six w' b o t p cap := by
  have e : ∀ k, w'.cell? ⟨b, k, none⟩ = w.cell? ⟨b, k, none⟩ := fun k => World.cell?_of_block hb
  exact ⟨(e _).trans h.c0, (e _).trans h.c1, (e _).trans h.c2, (e _).trans h.c3, (e _).trans h.c4, (e _).trans h.c5⟩
mutual
theorem MineT.same {w w' : World} : ∀ {t : Tm} {p : Option Addr} {cap : Nat} {S : List Nat}, MineT w t p cap S → (∀ k ∈ S, w'.heap[k]? = w.heap[k]?) → MineT w' t p cap S
  | .mk _ _ _ _ _ l, p, cap, S, h, hs => by
    unfold MineT at h ⊢
    refine ⟨h.1, ?_⟩
    rcases h.2 with h | ⟨b, arr, S', rfl, rfl, h1, h2, h3, h4, h5⟩
    · exact .inl h
    · have e := hs b (by simp)
      exact .inr ⟨b, arr, S', rfl, rfl, e.trans h1, h2, h3, h4, MineR.same h5 e fun k hk => hs k (by simp [hk])⟩
theorem MineR.same {w w' : World} : ∀ {l : List Tm} {b o : Nat} {S : List Nat}, MineR w l b o S → w'.heap[b]? = w.heap[b]? → (∀ k ∈ S, w'.heap[k]? = w.heap[k]?) → MineR w' l b o S
  | [], _, _, _, h, _, _ => by unfold MineR at h ⊢; exact h
  | t :: l, b, o, S, h, hb, hs => by
    unfold MineR at h ⊢
    obtain ⟨p, cap, S1, S2, rfl, hd, h1, h2, h3⟩ := h
    exact ⟨p, cap, S1, S2, rfl, hd, h1.same hb, MineT.same h2 fun k hk => hs k (by simp [hk]), MineR.same h3 hb fun k hk => hs k (by simp [hk])⟩
end
mutual
theorem MineT.at_ {w : World} : ∀ {t : Tm} {p : Option Addr} {cap : Nat} {S : List Nat}, MineT w t p cap S → TmAt w t p
  | .mk _ _ _ _ _ l, p, cap, S, h => by
    unfold MineT at h
    unfold TmAt
    refine ⟨by unfold maxLen; omega, ?_⟩
    rcases h.2 with h | ⟨b, arr, S', rfl, rfl, h1, h2, h3, h4, h5⟩
    · exact .inl h.1
    · exact .inr ⟨b, 0, rfl, MineR.at_ h5⟩
theorem MineR.at_ {w : World} : ∀ {l : List Tm} {b o : Nat} {S : List Nat}, MineR w l b o S → RowT w l b o
  | [], _, _, _, _ => by unfold RowT; trivial
  | t :: l, b, o, S, h => by
    unfold MineR at h
    unfold RowT
    obtain ⟨p, cap, S1, S2, rfl, hd, h1, h2, h3⟩ := h
    exact ⟨⟨p, cap, h1, MineT.at_ h2⟩, MineR.at_ h3⟩
end
mutual
theorem MineT.lt {w : World} : ∀ {t : Tm} {p : Option Addr} {cap : Nat} {S : List Nat}, MineT w t p cap S → ∀ k ∈ S, k < w.heap.size
  | .mk _ _ _ _ _ l, p, cap, S, h => by
    unfold MineT at h
    rcases h.2 with ⟨_, _, _, rfl⟩ | ⟨b, arr, S', rfl, rfl, h1, h2, h3, h4, h5⟩
    · intro k hk; cases hk
    · intro k hk
      rcases List.mem_cons.1 hk with rfl | hk
      · exact lt_of_block h1
      · exact MineR.lt h5 k hk
theorem MineR.lt {w : World} : ∀ {l : List Tm} {b o : Nat} {S : List Nat}, MineR w l b o S → ∀ k ∈ S, k < w.heap.size
  | [], _, _, _, h => by unfold MineR at h; subst h; intro k hk; cases hk
  | t :: l, b, o, S, h => by
    unfold MineR at h
    obtain ⟨p, cap, S1, S2, rfl, hd, h1, h2, h3⟩ := h
    intro k hk
    rcases List.mem_append.1 hk with hk | hk
    · exact MineT.lt h2 k hk
    · exact MineR.lt h3 k hk
end
theorem MineR.snoc {w : World} {b : Nat} {t : Tm} {p : Option Addr} {cap : Nat} {S1 : List Nat} : ∀ {l : List Tm} {o : Nat} {S : List Nat}, MineR w l b o S → Six w b (o + l.length * 6) t p cap → MineT w t p cap S1 → (∀ x ∈ S, x ∉ S1) → MineR w (l ++ [t]) b o (S ++ S1)
  | [], o, S, h, h6, hT, hd => by
    unfold MineR at h
    subst h
    show MineR w [t] b o S1
    unfold MineR MineR
    exact ⟨p, cap, S1, [], by simp, by simp, by simpa using h6, hT, rfl⟩
  | u :: l, o, S, h, h6, hT, hd => by
    unfold MineR at h
    obtain ⟨q, c, A, B, rfl, hd1, h1, h2, h3⟩ := h
    show MineR w (u :: (l ++ [t])) b o (A ++ B ++ S1)
    unfold MineR
    refine ⟨q, c, A, B ++ S1, by simp, ?_, h1, h2, MineR.snoc h3 ?_ hT fun x hx => hd x (by simp [hx])⟩
    · intro x hx hx2
      rcases List.mem_append.1 hx2 with h | h
      · exact hd1 x hx h
      · exact hd x (by simp [hx]) h
    · rw [show o + 6 + l.length * 6 = o + (u :: l).length * 6 by simp; omega]; exact h6
/-- A row's cells from elsewhere: what a row holds depends on its cells and on its terms' blocks. -/
theorem MineR.cells {w w' : World} {b b' : Nat} : ∀ {l : List Tm} {o o' : Nat} {S : List Nat}, MineR w l b o S → (∀ j, j < l.length * 6 → w'.cell? ⟨b', o' + j, none⟩ = w.cell? ⟨b, o + j, none⟩) → (∀ k ∈ S, w'.heap[k]? = w.heap[k]?) → MineR w' l b' o' S
  | [], _, _, _, h, _, _ => by unfold MineR at h ⊢; exact h
  | t :: l, o, o', S, h, hc, hs => by
    unfold MineR at h ⊢
    obtain ⟨p, cap, S1, S2, rfl, hd, h1, h2, h3⟩ := h
    have hc' : ∀ j, j < 6 → w'.cell? ⟨b', o' + j, none⟩ = w.cell? ⟨b, o + j, none⟩ := fun j hj => hc j (by simp; omega)
    refine ⟨p, cap, S1, S2, rfl, hd, ⟨?_, ?_, ?_, ?_, ?_, ?_⟩, h2.same fun k hk => hs k (by simp [hk]), MineR.cells h3 (fun j hj => ?_) fun k hk => hs k (by simp [hk])⟩
    · exact (hc' 0 (by omega)).trans h1.c0
    · exact (hc' 1 (by omega)).trans h1.c1
    · exact (hc' 2 (by omega)).trans h1.c2
    · exact (hc' 3 (by omega)).trans h1.c3
    · exact (hc' 4 (by omega)).trans h1.c4
    · exact (hc' 5 (by omega)).trans h1.c5
    · have := hc (6 + j) (by simp; omega)
      rwa [← Nat.add_assoc, ← Nat.add_assoc] at this
theorem MineR.get {w : World} : ∀ {l : List Tm} {b o : Nat} {S : List Nat}, MineR w l b o S → ∀ k (h : k < l.length), ∃ p cap S1, Six w b (o + k * 6) l[k] p cap ∧ MineT w l[k] p cap S1 ∧ ∀ x ∈ S1, x ∈ S
  | [], _, _, _, _, k, h => by simp at h
  | t :: l, b, o, S, h, 0, _ => by
    unfold MineR at h
    obtain ⟨p, cap, S1, S2, rfl, hd, h1, h2, h3⟩ := h
    exact ⟨p, cap, S1, by simpa using h1, h2, fun x hx => by simp [hx]⟩
  | t :: l, b, o, S, h, k + 1, hk => by
    unfold MineR at h
    obtain ⟨p, cap, S1, S2, rfl, hd, h1, h2, h3⟩ := h
    obtain ⟨p, cap, S3, h4, h5, h6⟩ := MineR.get h3 k (by simpa using hk)
    rw [show o + 6 + k * 6 = o + (k + 1) * 6 by omega] at h4
    exact ⟨p, cap, S3, h4, h5, fun x hx => by simp [h6 x hx]⟩
end Go.Proofs.YtiaddfedaikaiaaGreatDoor

namespace Go.Proofs.YtiaddfedaikaiaaGreatDoor
open Go.RowKit

/-- What a tree must be for a copy of it to be the same. -/
def CpOk (t : Tm) : Prop := (t.kind = 1 → t.name = ⟨#[]⟩ ∧ t.num = ⟨#[]⟩ ∧ t.bits = 0 ∧ t.args = []) ∧ t.args.length ≤ 64
theorem put6 {W : World} {b o : Nat} {arr : Array Value} {ty : TypeId} (h : W.heap[b]? = some (.cells arr ty (0, 0))) (ho : o + 6 ≤ arr.size) (d0 d1 d2 d3 d4 d5 : Value) (W9 : World)
    (h9 : W9 = (((((W.setCell ⟨b, o, none⟩ d0).setCell ⟨b, o + 1, none⟩ d1).setCell ⟨b, o + 2, none⟩ d2).setCell ⟨b, o + 3, none⟩ d3).setCell ⟨b, o + 4, none⟩ d4).setCell ⟨b, o + 5, none⟩ d5) :
    W.grownBy W9 (some b) ∧ ∃ arr', W9.heap[b]? = some (.cells arr' ty (0, 0)) ∧ arr'.size = arr.size ∧ (∀ j, j < o ∨ o + 6 ≤ j → arr'[j]? = arr[j]?) ∧ arr'[o]? = some d0 ∧ arr'[o + 1]? = some d1 ∧ arr'[o + 2]? = some d2 ∧ arr'[o + 3]? = some d3 ∧ arr'[o + 4]? = some d4 ∧ arr'[o + 5]? = some d5 := by
  have one : ∀ (V : World) (j : Nat) (d : Value), V.grownBy (V.setCell ⟨b, j, none⟩ d) (some b) := fun V j d =>
    ⟨rfl, rfl, rfl, by simp, fun k _ hk => heap_setCell_other V ⟨b, j, none⟩ k d (fun e => hk (by simp [e]))⟩
  have h0 := heap_setCell_same W b o _ _ d0 h
  have h1 := heap_setCell_same _ b (o + 1) _ _ d1 h0
  have h2 := heap_setCell_same _ b (o + 2) _ _ d2 h1
  have h3 := heap_setCell_same _ b (o + 3) _ _ d3 h2
  have h4 := heap_setCell_same _ b (o + 4) _ _ d4 h3
  have h5 := heap_setCell_same _ b (o + 5) _ _ d5 h4
  subst h9
  refine ⟨(one _ _ _).trans ((one _ _ _).trans ((one _ _ _).trans ((one _ _ _).trans ((one _ _ _).trans (one _ _ _))))), _, h5, by simp, fun j hj => ?_, ?_, ?_, ?_, ?_, ?_, ?_⟩
  · simp only [Array.getElem?_setIfInBounds]
    repeat' (split; omega)
    rfl
  all_goals
    simp only [Array.getElem?_setIfInBounds, Array.size_setIfInBounds]
    simp
    omega
set_option maxRecDepth 100000 in
theorem variable_any (n : Int) (w : World) : Calls Tryz.prog 127 #[.int .i64 n] w fun e w' => e = .returned ((leaf 1 ⟨#[]⟩ ⟨#[]⟩ n).val none 0) ∧ Below w.heap.size w w' := by
  go_enter Tryz.func127, Tryz.ntmps127
  go_wp2
  exact bodyPost_ret (results_tm rfl _ _ w.heap.size (leaf 1 ⟨#[]⟩ ⟨#[]⟩ n) none 0 (by rfl) (heap_alloc_new w _)) rfl ⟨rfl, (Below.refl _ _).alloc (Nat.le_refl _) _⟩
theorem leaf_mine (w : World) (k : Int) (s u : ByteArray) (v : Int) : MineT w (leaf k s u v) none 0 [] := by
  unfold leaf MineT
  exact ⟨by simp, .inl ⟨rfl, rfl, rfl, rfl⟩⟩
set_option maxRecDepth 100000 in
set_option maxHeartbeats 8000000 in
theorem fill_any (d : Nat) : ∀ (t : Tm) (p : Option Addr) (cap : Nat) (w : World), nodes t ≤ d → TmAt w t p → AllT CpOk t →
    Calls Tryz.prog 124 #[t.val p cap, .func (.func 127) #[] #[]] w fun e w' => ∃ q c S, e = .returned (t.val q c) ∧ MineT w' t q c S ∧ (∀ k ∈ S, w.heap.size ≤ k) ∧ Below w.heap.size w w' := by
  induction d with
  | zero => intro t p cap w h; have := nodes_pos t; omega
  | succ d ih =>
    intro t p cap w hd hT hC
    have IH := hid ih
    have HT := hid hT
    have HC := hid hC
    have hlt := hT.len
    unfold maxLen at hlt
    by_cases h1 : t.kind = 1
    · obtain ⟨a1, a2, a3, a4⟩ := hC.head.1 h1
      have ht : t = leaf 1 ⟨#[]⟩ ⟨#[]⟩ t.var := by
        cases t; simp only [Tm.kind, Tm.name, Tm.num, Tm.bits, Tm.args, Tm.var] at *; subst h1 a1 a2 a3 a4; rfl
      generalize t.var = n at ht
      subst ht
      unfold Tm.val
      clear ih IH HT HC hT hC a1 a2 a3 a4 h1 hlt
      show Calls Tryz.prog 124 #[.agg #[.int .i64 1, .string ⟨#[]⟩, .string ⟨#[]⟩, .int .u64 0, .int .i64 n, .slice p 0 cap], .func (.func 127) #[] #[]] w _
      have HF := variable_any n
      rw [show (leaf 1 ⟨#[]⟩ ⟨#[]⟩ n).val none 0 = .agg #[.int .i64 1, .string ⟨#[]⟩, .string ⟨#[]⟩, .int .u64 0, .int .i64 n, .slice none 0 0] from rfl] at HF
      have HF := hid HF
      go_enter Tryz.func124, Tryz.ntmps124
      go_wp2_with (go_at_call 127; (with_reducible refine (HF.out _).mono ?_); rintro e w2 ⟨rfl, hb2⟩; have hg := heap_alloc_new (w.alloc (tobj (leaf 1 ⟨#[]⟩ ⟨#[]⟩ n) p cap)) (tobj (leaf 0 ⟨#[]⟩ ⟨#[]⟩ 0) none 0); rw [World.size_alloc] at hg; have HG := hid (show w2.heap[w.heap.size + 1]? = some (.cells #[.int .i64 0, .string ⟨#[]⟩, .string ⟨#[]⟩, .int .u64 0, .int .i64 0, .slice none 0 0] 25 (0, 0)) from (hb2.block _ (by simp)).trans hg); have B2 := hid ((((Below.refl w.heap.size w).alloc (Nat.le_refl _) _).alloc (by simp) _).trans (hb2.mono (by simp; omega))); obtain ⟨⟨z0, z1, z2, z3, z4, z5⟩, ⟨f0, f1, f2, f3, f4, f5⟩⟩ := six_free HG.out; clear hb2 hg)
      refine bodyPost_ret (results_tm rfl _ _ (w.heap.size + 1) (leaf 1 ⟨#[]⟩ ⟨#[]⟩ n) none 0 (by rfl) (set6 HG.out _ _ _ _ _ _)) rfl ⟨none, 0, [], rfl, ?_, by simp, set6_below B2.out (by omega) _ _ _ _ _ _⟩
      exact leaf_mine _ _ _ _ _
    · have hq1 : (t.kind == 1) = false := beq_eq_false_iff_ne.2 h1
      by_cases hn : t.args.length = 0
      · have ha : t.args = [] := List.length_eq_zero_iff.1 hn
        have hm : ∀ W, MineT W t none 0 [] := fun W => by
          cases t; unfold MineT; simp only [Tm.args] at ha; exact ⟨by simp [ha], .inl ⟨ha, rfl, rfl, rfl⟩⟩
        have HM := hid hm
        have HN := hid hn
        have HV := hid (show t.val none 0 = .agg #[.int .i64 t.kind, .string t.name, .string t.num, .int .u64 t.bits, .int .i64 t.var, .slice none 0 0] by unfold Tm.val; rw [hn])
        unfold Tm.val
        rw [hn]
        clear IH ih HT HC hT hC hlt h1 hm ha hn
        go_enter Tryz.func124, Tryz.ntmps124
        go_wp2_with fail
        refine wp_loop_rounds 1 ?_
        rw [rounds_succ]
        go_wp2
        have hg := heap_alloc_new (w.alloc (.cells #[.int .i64 t.kind, .string t.name, .string t.num, .int .u64 t.bits, .int .i64 t.var, .slice none 0 0] 25)) (.cells #[.int .i64 t.kind, .string t.name, .string t.num, .int .u64 t.bits, .int .i64 t.var, .slice none 0 0] 25)
        rw [World.size_alloc] at hg
        have hg2 : ((w.alloc (.cells #[.int .i64 t.kind, .string t.name, .string t.num, .int .u64 t.bits, .int .i64 t.var, .slice none 0 0] 25)).alloc (.cells #[.int .i64 t.kind, .string t.name, .string t.num, .int .u64 t.bits, .int .i64 t.var, .slice none 0 0] 25)).heap[w.heap.size + 1]? = some (tobj t none 0) := by
          unfold tobj; rw [HN.out]; exact hg
        refine bodyPost_ret ((results_tm rfl _ _ (w.heap.size + 1) t none 0 (by rfl) hg2).trans (by rw [HV.out])) rfl ⟨none, 0, [], rfl, HM.out _, by simp, ((Below.refl _ _).alloc (Nat.le_refl _) _).alloc (by simp) _⟩
      · have hn0 : (0 : Int) < (t.args.length : Int) := by omega
        have hz := hC.head.2
        obtain ⟨i0, hi, hz0, hz1, hz2⟩ := info_parts infoTerm
        obtain ⟨W0, hW0⟩ : ∃ W0, W0 = (w.alloc (.cells #[.int .i64 t.kind, .string t.name, .string t.num, .int .u64 t.bits, .int .i64 t.var, .slice none 0 0] 25)).alloc (tobj (leaf 0 ⟨#[]⟩ ⟨#[]⟩ 0) none 0) := ⟨_, rfl⟩
        have hs0 : W0.heap.size = w.heap.size + 2 := by rw [hW0]; simp
        have hB := hid (show Below w.heap.size w W0 by rw [hW0]; exact ((Below.refl w.heap.size w).alloc (Nat.le_refl _) _).alloc (by simp) _)
        obtain ⟨w1, hrun, hown, hgrow⟩ := run_make_full (P := Tryz.prog) W0 W0.heap.size 23 25 i0 (.agg #[.int .i64 0, .string ⟨#[]⟩, .string ⟨#[]⟩, .int .u64 0, .int .i64 0, .slice none 0 0]) 6 Tryz.underlying23 hi hz0 hz1 .i64 .i64 t.args.length (by rw [hz2]; omega) (by unfold maxLen; omega) (Nat.le_refl _)
        rw [hW0] at hrun
        rw [show tobj (leaf 0 ⟨#[]⟩ ⟨#[]⟩ 0) none 0 = .cells #[.int .i64 0, .string ⟨#[]⟩, .string ⟨#[]⟩, .int .u64 0, .int .i64 0, .slice none 0 0] 25 from rfl] at hrun
        have hne : ∀ k, k ≠ W0.heap.size → w1.heap[k]? = W0.heap[k]? ∨ W0.heap.size ≤ k := fun k _ => by
          by_cases h : k < W0.heap.size
          · exact .inl (hgrow.block k h (by simp))
          · exact .inr (by omega)
        have hg0 : w1.heap[w.heap.size]? = some (.cells #[.int .i64 t.kind, .string t.name, .string t.num, .int .u64 t.bits, .int .i64 t.var, .slice none 0 0] 25 (0, 0)) := by
          refine (hgrow.block _ (by omega) (by simp)).trans ?_
          rw [hW0]
          exact (heap_alloc_old (w.alloc _) _ (by simp)).trans (heap_alloc_new w _)
        have hg1 : w1.heap[w.heap.size + 1]? = some (.cells #[.int .i64 0, .string ⟨#[]⟩, .string ⟨#[]⟩, .int .u64 0, .int .i64 0, .slice none 0 0] 25 (0, 0)) := by
          refine (hgrow.block _ (by omega) (by simp)).trans ?_
          rw [hW0]
          have h := heap_alloc_new (w.alloc (.cells #[.int .i64 t.kind, .string t.name, .string t.num, .int .u64 t.bits, .int .i64 t.var, .slice none 0 0] 25)) (tobj (leaf 0 ⟨#[]⟩ ⟨#[]⟩ 0) none 0)
          rw [World.size_alloc] at h
          exact h
        obtain ⟨cur, hgb, hcs⟩ : ∃ cur, w1.heap[w.heap.size + 1 + 1]? = some (.cells cur 25 (0, 0)) ∧ cur.size = t.args.length * 6 := by
          rcases hown.2 with ⟨h', _⟩ | ⟨g', cap', cur, h', _, hg, _, _, hs, _⟩
          · simp at h'
          · simp only [Value.slice.injEq, Option.some.injEq, Addr.mk.injEq, and_true, true_and] at h'
            obtain ⟨rfl, rfl⟩ := h'
            rw [hs0] at hg
            exact ⟨cur, hg, hs⟩
        have hB1 := hid (show Below w.heap.size w w1 from hB.out.trans (((Below.refl _ _).grown hgrow (Nat.le_refl _) (by intro k hk; simp at hk)).mono hB.out.size))
        have hsz1 : w.heap.size + 1 + 1 < w1.heap.size := lt_of_block hgb
        obtain ⟨⟨z0, z1, z2, z3, z4, z5⟩, ⟨f0, f1, f2, f3, f4, f5⟩⟩ := six_free hg0
        have HG0 := hid hg0
        have HG1 := hid hg1
        have HGB := hid hgb
        unfold Tm.val
        clear ih hne hg0 hg1 hgb hown hgrow hi hz0 hz1 hz2 hW0 hT hC hB
        go_enter Tryz.func124, Tryz.ntmps124
        go_wp2_with fail
        obtain ⟨W2, hW2⟩ : ∃ W2, W2 = w1.setCell ⟨w.heap.size, 5, none⟩ (.slice (some ⟨w.heap.size + 1 + 1, 0, none⟩) t.args.length t.args.length) := ⟨_, rfl⟩
        rw [← hW2]
        have hg0 := heap_setCell_same w1 w.heap.size 5 _ _ (.slice (some ⟨w.heap.size + 1 + 1, 0, none⟩) t.args.length t.args.length) HG0.out
        have hoth : ∀ k, k ≠ w.heap.size → W2.heap[k]? = w1.heap[k]? := fun k hk => by rw [hW2]; exact heap_setCell_other w1 ⟨w.heap.size, 5, none⟩ k _ (fun e => hk e)
        rw [← hW2] at hg0
        have P0 := hid (show W2.heap[w.heap.size]? = some (tobj t (some ⟨w.heap.size + 1 + 1, 0, none⟩) t.args.length) from hg0)
        have P1 := hid ((hoth (w.heap.size + 1) (by omega)).trans HG1.out)
        have PB := hid ((hoth (w.heap.size + 1 + 1) (by omega)).trans HGB.out)
        have B2 := hid (show Below w.heap.size w W2 by rw [hW2]; exact hB1.out.setCell (Nat.le_refl _) _)
        have hcs' := hid hcs
        have hdec : decide (0 < t.args.length) = true := decide_eq_true (by omega)
        (try simp only [hdec])
        clear hdec
        clear hg0 hoth HG0 HG1 HGB z0 z1 z2 z3 z4 z5 f0 f1 f2 f3 f4 f5 hrun hW2 hB1 hsz1 hcs
        go_loopw [27] (fun i wr => ∃ (k : Nat) (S : List Nat) (arr : Array Value), k ≤ t.args.length ∧ i = .int .i64 (k : Int) ∧ Hid (wr.heap[w.heap.size]? = some (tobj t (some ⟨w.heap.size + 1 + 1, 0, none⟩) t.args.length)) ∧ Hid (wr.heap[w.heap.size + 1]? = some (.cells #[.int .i64 0, .string ⟨#[]⟩, .string ⟨#[]⟩, .int .u64 0, .int .i64 0, .slice none 0 0] 25 (0, 0))) ∧ Hid (wr.heap[w.heap.size + 1 + 1]? = some (.cells arr 25 (0, 0))) ∧ Hid (arr.size = t.args.length * 6) ∧ Hid (MineR wr (t.args.take k) (w.heap.size + 1 + 1) 0 S) ∧ Hid (∀ x ∈ S, w.heap.size + 1 + 1 < x) ∧ Hid (Below w.heap.size w wr)) (fun i _ => t.args.length - (intOf i).toNat)
        case atStart => exact ⟨0, [], cur, by omega, rfl, P0, P1, PB, hcs', hid (by unfold MineR; rfl), hid (by simp), B2⟩
        case round =>
          clear P0 P1 PB B2 hcs'
          obtain ⟨k, S, arr, hk, rfl, P0, P1, PB, hcs, HM, HS, hBr⟩ := hrel
          by_cases hlt : k < t.args.length
          · have hk0 : (0 : Int) ≤ (k : Int) := by omega
            have hk1 : (k : Int) < (t.args.length : Int) := by omega
            obtain ⟨b, o, rfl, e1, c1, hs1, ht1⟩ := (HT.out.keep hBr.out).get k hlt
            have HCALL := hid (fun (W : World) (h : Below wr.heap.size wr W) => IH.out t.args[k] e1 c1 W (by have := nodes_lt hlt; omega) (ht1.keep h) (HC.out.arg k hlt))
            have HTK := hid (show t.args.take (k + 1) = t.args.take k ++ [t.args[k]] from (List.take_append_getElem hlt).symm)
            clear ht1
            generalize t.args[k] = t1 at *
            unfold Tm.val at HCALL
            obtain ⟨x0, x1, x2, x3, x4, x5⟩ := hs1
            go_wp2_with fail
            obtain ⟨Wp, hWp⟩ : ∃ Wp, Wp = wr.alloc (tobj t1 e1 c1) := ⟨_, rfl⟩
            have hWp' := hWp
            unfold tobj at hWp'
            rw [← hWp']
            have BP := hid (show Below wr.heap.size wr Wp by rw [hWp]; exact (Below.refl _ _).alloc (Nat.le_refl _) _)
            have hsp : Wp.heap.size = wr.heap.size + 1 := by rw [hWp]; simp
            have hp6 := six_of (show Wp.heap[wr.heap.size]? = some (tobj t1 e1 c1) by rw [hWp]; exact heap_alloc_new wr _)
            have hlw : w.heap.size + 1 + 1 < wr.heap.size := lt_of_block PB.out
            have SX := hid (show ∀ W : World, Held (w.heap.size + 1 + 1) Wp W → W.cell? ⟨w.heap.size, 5, none⟩ = some (.slice (some ⟨w.heap.size + 1 + 1, 0, none⟩) t.args.length t.args.length) ∧ W.cell? ⟨wr.heap.size, 0, none⟩ = some (.int .i64 t1.kind) ∧ W.cell? ⟨wr.heap.size, 1, none⟩ = some (.string t1.name) ∧ W.cell? ⟨wr.heap.size, 2, none⟩ = some (.string t1.num) ∧ W.cell? ⟨wr.heap.size, 3, none⟩ = some (.int .u64 t1.bits) ∧ W.cell? ⟨wr.heap.size, 4, none⟩ = some (.int .i64 t1.var) ∧ W.cell? ⟨wr.heap.size, 5, none⟩ = some (.slice e1 t1.args.length c1) from fun W h =>
              have q := fun j (v : Value) (hh : Wp.cell? ⟨wr.heap.size, j, none⟩ = some v) => ((World.cell?_of_block (a := ⟨wr.heap.size, j, none⟩) (h.same wr.heap.size (by omega) (by omega))).trans hh : W.cell? ⟨wr.heap.size, j, none⟩ = some v)
              ⟨(six_of (h.block ((BP.out.block _ (by omega)).trans P0.out) (by omega))).c5, q _ _ hp6.c0, q _ _ hp6.c1, q _ _ hp6.c2, q _ _ hp6.c3, q _ _ hp6.c4, q _ _ hp6.c5⟩)
            clear x0 x1 x2 x3 x4 x5 hp6 hWp hWp'
            have sd := SX.out Wp.drew (Held.of_below (Below.refl _ _).drew)
            refine wp_region_held_drew (S := fun W => W.cell? ⟨w.heap.size, 5, none⟩ = some (.slice (some ⟨w.heap.size + 1 + 1, 0, none⟩) t.args.length t.args.length) ∧ W.cell? ⟨wr.heap.size, 0, none⟩ = some (.int .i64 t1.kind) ∧ W.cell? ⟨wr.heap.size, 1, none⟩ = some (.string t1.name) ∧ W.cell? ⟨wr.heap.size, 2, none⟩ = some (.string t1.num) ∧ W.cell? ⟨wr.heap.size, 3, none⟩ = some (.int .u64 t1.bits) ∧ W.cell? ⟨wr.heap.size, 4, none⟩ = some (.int .i64 t1.var) ∧ W.cell? ⟨wr.heap.size, 5, none⟩ = some (.slice e1 t1.args.length c1)) (by kernel_rfl) sd (fun hHeld => ?_)
            refine' wpAnyH_take (i := 0) (v := (.pointer (some ⟨w.heap.size, 5, none⟩))) rfl (by decide +kernel) (by decide +kernel) (by decide +kernel) (fun _ _ _ h => h) (Or.inl ⟨by rfl, ?hyA0⟩) (by assumption) ?restA0
            case hyA0 => (intro w5 hSw; (try dsimp only at hSw); go_simp; try with_reducible rfl)
            case' restA0 => (try simp only [Act.put, List.setIfInBounds_toArray])
            refine' wpAnyH_take (i := 1) (v := (.slice (some ⟨w.heap.size + 1 + 1, 0, none⟩) t.args.length t.args.length)) rfl (by decide +kernel) (by decide +kernel) (by decide +kernel) (fun _ _ _ h => h) (Or.inl ⟨by rfl, ?hyA1⟩) (by assumption) ?restA1
            case hyA1 => (intro w5 hSw; (try dsimp only at hSw); go_simp; try with_reducible rfl)
            case' restA1 => (try simp only [Act.put])
            refine' wpAnyH_take (i := 2) (v := (.int .i64 (k : Int))) rfl (by decide +kernel) (by decide +kernel) (by decide +kernel) (fun _ _ _ h => h) (Or.inl ⟨by rfl, ?hyA2⟩) (by assumption) ?restA2
            case hyA2 => (intro w5 hSw; (try dsimp only at hSw); go_simp; try with_reducible rfl)
            case' restA2 => (try simp only [Act.put])
            refine' wpAnyH_take (i := 3) (v := (.agg #[.int .i64 t1.kind, .string t1.name, .string t1.num, .int .u64 t1.bits, .int .i64 t1.var, .slice e1 t1.args.length c1])) rfl (by decide +kernel) (by decide +kernel) (by decide +kernel) (fun _ _ _ h => h) (Or.inl ⟨by rfl, ?hyA3⟩) (by assumption) ?restA3
            case hyA3 => (intro w5 hSw; (try dsimp only at hSw); go_simp; try with_reducible rfl)
            case' restA3 => (try simp only [Act.put])
            refine' wpAnyH_take (i := 4) (v := (.func (.func 127) #[] #[])) rfl (by decide +kernel) (by decide +kernel) (by decide +kernel) (fun _ _ _ h => h) (Or.inl ⟨by rfl, ?hyA4⟩) (by assumption) ?restA4
            case hyA4 => (intro w5 hSw; (try dsimp only at hSw); go_simp; try with_reducible rfl)
            case' restA4 => (try simp only [Act.put])

            refine wpAnyH_ready (rs := [5]) (by decide +kernel) (by simp) ?_
            refine AllReadyH.cons rfl (fun K hK => ?_) AllReadyH.nil
            go_simp
            (with_reducible refine (HCALL.out _ BP.out.drew).mono ?_)
            rintro e w2 ⟨q2, c2, S1, rfl, hm, hS1, hb2⟩
            have hsd : Wp.drew.heap.size = Wp.heap.size := rfl
            have HH2 := hid (show Held (w.heap.size + 1 + 1) Wp w2 from (Held.of_below (Below.refl _ _).drew).trans (Held.of_below hb2))
            have BR2 := hid (show Below wr.heap.size wr w2 from BP.out.drew.trans (hb2.mono (by omega)))
            have PB2 := hid ((BR2.out.block _ hlw).trans PB.out)
            have hz2 := hb2.size
            have ha6 : k * 6 + 6 ≤ arr.size := by have := hcs.out; omega
            have f2 : ∀ j, w2.frozen? ⟨w.heap.size + 1 + 1, j, none⟩ = false := fun j => by simp [World.frozen?, PB2.out]
            have g2 : ∀ j, j < 6 → ∃ v, w2.cell? ⟨w.heap.size + 1 + 1, k * 6 + j, none⟩ = some v := fun j hj => ⟨arr[k * 6 + j], by rw [cells_of PB2.out]; exact Array.getElem?_eq_getElem (by omega)⟩
            obtain ⟨v0, y0'⟩ := g2 0 (by omega)
            have y0 : w2.cell? ⟨w.heap.size + 1 + 1, k * 6, none⟩ = some v0 := y0'
            obtain ⟨v1, y1⟩ := g2 1 (by omega)
            obtain ⟨v2, y2⟩ := g2 2 (by omega)
            obtain ⟨v3, y3⟩ := g2 3 (by omega)
            obtain ⟨v4, y4⟩ := g2 4 (by omega)
            obtain ⟨v5, y5⟩ := g2 5 (by omega)
            have r0 := f2 (k * 6)
            have r1 := f2 (k * 6 + 1)
            have r2 := f2 (k * 6 + 2)
            have r3 := f2 (k * 6 + 3)
            have r4 := f2 (k * 6 + 4)
            have r5 := f2 (k * 6 + 5)
            have HMM := hid hm
            have HS1 := hid hS1
            clear f2 g2 hb2 hm hS1 y0'
            have s2 := SX.out w2 HH2.out
            refine hK.out _ _ s2 (fun hHeld => ?_)
            clear hK K
            (try simp only [Act.put, List.setIfInBounds_toArray, List.set_cons_zero, List.set_cons_succ])
            refine wpAnyH_ready (rs := [6]) (by decide +kernel) (by simp) ?_
            refine AllReadyH.cons rfl (fun K hK => ?_) AllReadyH.nil
            go_simp
            refine hK.out _ _ s2 (fun hHeld => ?_)
            clear hK K
            (try simp only [Act.put, List.setIfInBounds_toArray, List.set_cons_zero, List.set_cons_succ])
            refine wpAnyH_ready (rs := [7]) (by decide +kernel) (by simp) ?_
            refine AllReadyH.cons rfl (fun K hK => ?_) AllReadyH.nil
            go_simp
            obtain ⟨W9, h9⟩ : ∃ W9, W9 = (((((w2.setCell ⟨w.heap.size + 1 + 1, k * 6, none⟩ (.int .i64 t1.kind)).setCell ⟨w.heap.size + 1 + 1, k * 6 + 1, none⟩ (.string t1.name)).setCell ⟨w.heap.size + 1 + 1, k * 6 + 2, none⟩ (.string t1.num)).setCell ⟨w.heap.size + 1 + 1, k * 6 + 3, none⟩ (.int .u64 t1.bits)).setCell ⟨w.heap.size + 1 + 1, k * 6 + 4, none⟩ (.int .i64 t1.var)).setCell ⟨w.heap.size + 1 + 1, k * 6 + 5, none⟩ (.slice q2 t1.args.length c2) := ⟨_, rfl⟩
            rw [← h9]
            obtain ⟨gr9, arr', e9, es, eo, d0, d1, d2, d3, d4, d5⟩ := put6 PB2.out ha6 _ _ _ _ _ _ W9 h9
            have H9 := hid (HH2.out.trans (Held.of_grown gr9))
            have G9 := hid gr9
            have E9 := hid e9
            refine hK.out _ _ (SX.out W9 H9.out) (fun hHeld => ?_)
            clear hK K
            (try simp only [Act.put, List.setIfInBounds_toArray, List.set_cons_zero, List.set_cons_succ])
            refine wpAnyH_done (by kernel_rfl) ?_ _
            have c9 := fun j => cells_of E9.out j
            have N0 := hid (c9 (k * 6) |>.trans d0)
            have N1 := hid (c9 (k * 6 + 1) |>.trans d1)
            have N2 := hid (c9 (k * 6 + 2) |>.trans d2)
            have N3 := hid (c9 (k * 6 + 3) |>.trans d3)
            have N4 := hid (c9 (k * 6 + 4) |>.trans d4)
            have N5 := hid (c9 (k * 6 + 5) |>.trans d5)
            have ES := hid (es.trans hcs.out)
            have EO := hid eo
            have HA2 := hid (cells_of PB2.out)
            have HA9 := hid c9
            clear h9 gr9 e9 es eo d0 d1 d2 d3 d4 d5 c9 y0 y1 y2 y3 y4 y5 r0 r1 r2 r3 r4 r5 hHeld s2 sd
            go_wp2
            go_roundw
            case rel =>
              have hold : ∀ x, x ≠ w.heap.size + 1 + 1 → x < wr.heap.size → W9.heap[x]? = wr.heap[x]? := fun x hx hl => (G9.out.block x (by have := BR2.out.size; omega) (fun e => hx (Option.some.inj e))).trans (BR2.out.block x hl)
              have hnew : ∀ x ∈ S1, W9.heap[x]? = w2.heap[x]? := fun x hx => G9.out.block x (HMM.out.lt x hx) (fun e => by have := HS1.out x hx; have := Option.some.inj e; omega)
              have hlo : ∀ x ∈ S, x ≠ w.heap.size + 1 + 1 ∧ x < wr.heap.size := fun x hx => ⟨by have := HS.out x hx; omega, HM.out.lt x hx⟩
              refine ⟨k + 1, S ++ S1, arr', by omega, by go_num, hid ((hold _ (by omega) (by omega)).trans P0.out), hid ((hold _ (by omega) (by omega)).trans P1.out), E9, ES, hid ?_, hid ?_, hid ?_⟩
              · rw [HTK.out]
                refine MineR.snoc (HM.out.cells (fun j hj => ?_) fun x hx => hold x (hlo x hx).1 (hlo x hx).2) ?_ (HMM.out.same hnew) fun x hx h1 => ?_
                · have hj' : j < k * 6 := by simp at hj; omega
                  rw [HA9.out, EO.out _ (by omega), ← HA2.out]
                  exact World.cell?_of_block (a := ⟨w.heap.size + 1 + 1, 0 + j, none⟩) (BR2.out.block _ hlw)
                · have hl : 0 + (t.args.take k).length * 6 = k * 6 := by simp; omega
                  rw [hl]
                  exact ⟨N0.out, N1.out, N2.out, N3.out, N4.out, N5.out⟩
                · have := (hlo x hx).2
                  have := HS1.out x h1
                  omega
              · intro x hx
                rcases List.mem_append.1 hx with h | h
                · exact HS.out x h
                · have := HS1.out x h; omega
              · exact (hBr.out.trans (BR2.out.mono hBr.out.size)).grown G9.out (by have := BR2.out.size; have := hBr.out.size; omega) (fun x e => by cases e; omega)
            case measure => simp [intOf]; omega
          · obtain rfl : k = t.args.length := by omega
            obtain ⟨⟨z0, z1, z2, z3, z4, z5⟩, ⟨f0, f1, f2, f3, f4, f5⟩⟩ := six_free P1.out
            obtain ⟨x0, x1, x2, x3, x4, x5⟩ := six_of P0.out
            have hMT : MineR wr t.args (w.heap.size + 1 + 1) 0 S := by have h := HM.out; rwa [List.take_length] at h
            have HMT := hid hMT
            clear hMT HM
            go_wp2
            have h1 := set6 P1.out (.int .i64 t.kind) (.string t.name) (.string t.num) (.int .u64 t.bits) (.int .i64 t.var) (.slice (some ⟨w.heap.size + 1 + 1, 0, none⟩) t.args.length t.args.length)
            have hgr := set6_grown wr (w.heap.size + 1) (.int .i64 t.kind) (.string t.name) (.string t.num) (.int .u64 t.bits) (.int .i64 t.var) (.slice (some ⟨w.heap.size + 1 + 1, 0, none⟩) t.args.length t.args.length)
            refine bodyPost_ret (results_tm rfl _ _ (w.heap.size + 1) t (some ⟨w.heap.size + 1 + 1, 0, none⟩) t.args.length (by rfl) h1) rfl ⟨some ⟨w.heap.size + 1 + 1, 0, none⟩, t.args.length, (w.heap.size + 1 + 1) :: S, rfl, ?_, ?_, set6_below hBr.out (by omega) _ _ _ _ _ _⟩
            · have hoth : ∀ x, x < wr.heap.size → x ≠ w.heap.size + 1 → _ := fun x hx hne => hgr.block x hx (fun e => hne (Option.some.inj e))
              have hb := (hoth (w.heap.size + 1 + 1) (lt_of_block PB.out) (by omega)).trans PB.out
              have hr := HMT.out.same (hoth (w.heap.size + 1 + 1) (lt_of_block PB.out) (by omega)) (fun x hx => hoth x (HMT.out.lt x hx) (by have := HS.out x hx; omega))
              generalize hT0 : t = t0 at *
              cases t0 with
              | mk k0 n0 u0 b0 v0 l0 =>
                unfold MineT
                exact ⟨by simpa [Tm.args] using (show l0.length ≤ 4000 by have := hz; simp only [Tm.args] at this; omega), .inr ⟨_, arr, S, rfl, rfl, hb, hcs.out, ⟨Nat.le_refl _, by have := hz; simp only [Tm.args] at this ⊢; unfold maxLen; omega⟩, fun h => by have := HS.out _ h; omega, hr⟩⟩
            · intro x hx
              rcases List.mem_cons.1 hx with rfl | hx
              · omega
              · have := HS.out x hx; omega
set_option maxRecDepth 100000 in
set_option maxHeartbeats 4000000 in
/-- copyOf: the same tree, in memory of its own. -/
theorem copyOf_any (t : Tm) (p : Option Addr) (cap : Nat) (w : World) (hT : TmAt w t p) (hC : AllT CpOk t) :
    Calls Tryz.prog 126 #[t.val p cap] w fun e w' => ∃ q c S, e = .returned (t.val q c) ∧ MineT w' t q c S ∧ (∀ k ∈ S, w.heap.size ≤ k) ∧ Below w.heap.size w w' := by
  obtain ⟨W0, hW0⟩ : ∃ W0, W0 = (w.alloc (tobj t p cap)).alloc (tobj (leaf 0 ⟨#[]⟩ ⟨#[]⟩ 0) none 0) := ⟨_, rfl⟩
  have hB := hid (show Below w.heap.size w W0 by rw [hW0]; exact ((Below.refl w.heap.size w).alloc (Nat.le_refl _) _).alloc (by simp) _)
  have hs0 : W0.heap.size = w.heap.size + 2 := by rw [hW0]; simp
  have hg := heap_alloc_new (w.alloc (tobj t p cap)) (tobj (leaf 0 ⟨#[]⟩ ⟨#[]⟩ 0) none 0)
  rw [World.size_alloc, ← hW0] at hg
  have HG := hid hg
  have HF := hid (fill_any (nodes t) t p cap W0 (Nat.le_refl _) (hT.keep hB.out) hC)
  have HW := hid hW0
  have HV := hid (show ∀ q c, t.val q c = .agg #[.int .i64 t.kind, .string t.name, .string t.num, .int .u64 t.bits, .int .i64 t.var, .slice q t.args.length c] from fun _ _ => rfl)
  unfold tobj leaf at hW0
  unfold Tm.val at HF ⊢
  clear hT hC hg
  go_enter Tryz.func126, Tryz.ntmps126
  go_wp2_with (go_at_call 124; rw [show (w.alloc (.cells #[.int .i64 t.kind, .string t.name, .string t.num, .int .u64 t.bits, .int .i64 t.var, .slice p t.args.length cap] 25)).alloc (.cells #[.int .i64 0, .string ⟨#[]⟩, .string ⟨#[]⟩, .int .u64 0, .int .i64 0, .slice none 0 0] 25) = W0 from HW.out.symm]; (with_reducible refine HF.out.mono ?_); rintro e w2 ⟨q, c, S, rfl, hm, hS, hb2⟩; have HM := hid hm; have HS := hid hS; have HG2 := hid ((hb2.block _ (lt_of_block HG.out)).trans HG.out); have B2 := hid (hB.out.trans (hb2.mono hB.out.size)); obtain ⟨⟨z0, z1, z2, z3, z4, z5⟩, ⟨f0, f1, f2, f3, f4, f5⟩⟩ := six_free HG2.out; clear hb2 hm hS)
  have h1 := set6 HG2.out (.int .i64 t.kind) (.string t.name) (.string t.num) (.int .u64 t.bits) (.int .i64 t.var) (.slice q t.args.length c)
  have hgr := set6_grown w2 (w.heap.size + 1) (.int .i64 t.kind) (.string t.name) (.string t.num) (.int .u64 t.bits) (.int .i64 t.var) (.slice q t.args.length c)
  refine bodyPost_ret (results_tm rfl _ _ (w.heap.size + 1) t q c (by rfl) h1) rfl ⟨q, c, S, rfl, HM.out.same fun x hx => hgr.block x (HM.out.lt x hx) (fun e => by have := HS.out x hx; have := Option.some.inj e; omega), fun x hx => by have := HS.out x hx; omega, set6_below B2.out (by omega) _ _ _ _ _ _⟩
end Go.Proofs.YtiaddfedaikaiaaGreatDoor

namespace Go.Proofs.YtiaddfedaikaiaaGreatDoor
open Go.RowKit

/-- Terms each of which has memory of its own. -/
def MineS (w : World) : Row → List Nat → Prop
  | [], S => S = []
  | x :: L, S => ∃ S1 S2, S = S1 ++ S2 ∧ (∀ k ∈ S1, k ∉ S2) ∧ MineT w x.1 x.2.1 x.2.2 S1 ∧ MineS w L S2
theorem MineS.same {w w' : World} : ∀ {L : Row} {S : List Nat}, MineS w L S → (∀ k ∈ S, w'.heap[k]? = w.heap[k]?) → MineS w' L S
  | [], _, h, _ => h
  | x :: L, S, h, hs => by
    obtain ⟨S1, S2, rfl, hd, h1, h2⟩ := h
    exact ⟨S1, S2, rfl, hd, h1.same fun k hk => hs k (by simp [hk]), MineS.same h2 fun k hk => hs k (by simp [hk])⟩
theorem MineS.lt {w : World} : ∀ {L : Row} {S : List Nat}, MineS w L S → ∀ k ∈ S, k < w.heap.size
  | [], S, h => by have h : S = [] := h; subst h; intro k hk; cases hk
  | x :: L, S, h => by
    obtain ⟨S1, S2, rfl, hd, h1, h2⟩ := h
    intro k hk
    rcases List.mem_append.1 hk with hk | hk
    · exact h1.lt k hk
    · exact MineS.lt h2 k hk
theorem MineS.snoc {w : World} {x : Tm × Option Addr × Nat} {S1 : List Nat} (hx : MineT w x.1 x.2.1 x.2.2 S1) : ∀ {L : Row} {S : List Nat}, MineS w L S → (∀ k ∈ S, k ∉ S1) → MineS w (L ++ [x]) (S ++ S1)
  | [], S, h, _ => by
    have h : S = [] := h
    subst h
    exact ⟨S1, [], by simp, by simp, hx, rfl⟩
  | y :: L, S, h, hd => by
    obtain ⟨A, B, rfl, hd1, h1, h2⟩ := h
    refine ⟨A, B ++ S1, by simp, ?_, h1, MineS.snoc hx h2 fun k hk => hd k (by simp [hk])⟩
    intro k hk hk2
    rcases List.mem_append.1 hk2 with h | h
    · exact hd1 k hk h
    · exact hd k (by simp [hk]) h
theorem MineS.get {w : World} : ∀ {L : Row} {S : List Nat}, MineS w L S → ∀ k (h : k < L.length), ∃ S1, MineT w L[k].1 L[k].2.1 L[k].2.2 S1 ∧ ∀ x ∈ S1, x ∈ S
  | [], _, _, k, h => by simp at h
  | x :: L, S, h, 0, _ => by
    obtain ⟨S1, S2, rfl, hd, h1, h2⟩ := h
    exact ⟨S1, h1, fun x hx => by simp [hx]⟩
  | x :: L, S, h, k + 1, hk => by
    obtain ⟨S1, S2, rfl, hd, h1, h2⟩ := h
    obtain ⟨S3, h3, h4⟩ := MineS.get h2 k (by simpa using hk)
    exact ⟨S3, by simpa using h3, fun x hx => by simp [h4 x hx]⟩
theorem MineR.of_flat {w : World} {b : Nat} : ∀ (L : Row) (o : Nat) (S : List Nat), (∀ j u, (flat L)[j]? = some u → w.cell? ⟨b, o + j, none⟩ = some u) → MineS w L S → MineR w (L.map (·.1)) b o S
  | [], _, _, _, h => h
  | x :: L, o, S, hc, h => by
    obtain ⟨S1, S2, rfl, hd, h1, h2⟩ := h
    have hf : flat (x :: L) = cellsT x ++ flat L := rfl
    rw [hf] at hc
    show MineR w (x.1 :: L.map (·.1)) b o (S1 ++ S2)
    unfold MineR
    refine ⟨x.2.1, x.2.2, S1, S2, rfl, hd, ⟨hc 0 _ rfl, hc 1 _ rfl, hc 2 _ rfl, hc 3 _ rfl, hc 4 _ rfl, hc 5 _ rfl⟩, h1, MineR.of_flat L (o + 6) S2 (fun j u hj => ?_) h2⟩
    have h2 := hc (6 + j) u (by rw [List.getElem?_append_right (by simp [cellsT])]; simpa [cellsT] using hj)
    rwa [← Nat.add_assoc] at h2
/-- A list of terms in memory of its own, from a block on. -/
structure MineL (w : World) (B : Nat) (q : Option Addr) (n c : Nat) (L : Row) (S : List Nat) : Prop where
  row : w.ownsRow B 25 6 (.slice q n c) n (flat L)
  own : MineS w L S
  far : ∀ k, (Value.slice q n c).ownBlock = some k → k ∉ S
  low : ∀ k ∈ S, B ≤ k
theorem MineL.length {w : World} {B : Nat} {q : Option Addr} {n c : Nat} {L : Row} {S : List Nat} (h : MineL w B q n c L S) : L.length = n := by
  have h1 := h.row.1
  rw [flat_length] at h1
  omega
theorem MineL.nil (w : World) (B : Nat) : MineL w B none 0 0 [] [] :=
  ⟨World.ownsRow_nil _ _ _ _, rfl, fun k h => by simp [Value.ownBlock] at h, fun k hk => by cases hk⟩
/-- A row that one owns is as it was where its block is. -/
theorem MineL.same {w w' : World} {B : Nat} {q : Option Addr} {n c : Nat} {L : Row} {S : List Nat} (h : MineL w B q n c L S) (hb : ∀ k, B ≤ k → k < w.heap.size → w'.heap[k]? = w.heap[k]?) : MineL w' B q n c L S := by
  refine ⟨⟨h.row.1, ?_⟩, h.own.same fun k hk => hb k (h.low k hk) (h.own.lt k hk), h.far, h.low⟩
  rcases h.row.2 with h1 | ⟨g, cap, cur, e, h1, h2, h3⟩
  · exact .inl h1
  · exact .inr ⟨g, cap, cur, e, h1, (hb g h1 (lt_of_block h2)).trans h2, h3⟩
theorem MineL.base {w : World} {B B' : Nat} {q : Option Addr} {n c : Nat} {L : Row} {S : List Nat} (h : MineL w B q n c L S) (hb : B' ≤ B) : MineL w B' q n c L S := by
  refine ⟨⟨h.row.1, ?_⟩, h.own, h.far, fun k hk => Nat.le_trans hb (h.low k hk)⟩
  rcases h.row.2 with h1 | ⟨g, cap, cur, e, h1, h2⟩
  · exact .inl h1
  · exact .inr ⟨g, cap, cur, e, Nat.le_trans hb h1, h2⟩
/-- Behind an append of one. -/
theorem MineL.snoc {w w' : World} {B : Nat} {q : Option Addr} {n c g c' : Nat} {L : Row} {S S1 : List Nat} {x : Tm × Option Addr × Nat} (h : MineL w B q n c L S) (hx : MineT w x.1 x.2.1 x.2.2 S1)
    (hd : ∀ k ∈ S, k ∉ S1) (hv : ∀ k, (Value.slice q n c).ownBlock = some k → k ∉ S1) (hl : ∀ k ∈ S1, B ≤ k)
    (hr : w'.ownsRow B 25 6 (.slice (some ⟨g, 0, none⟩) (n + 1) c') (n + 1) (flat L ++ cellsT x)) (hg : w.grownBy w' (Value.slice q n c).ownBlock) (hat : (Value.slice q n c).ownBlock = some g ∨ w.heap.size ≤ g) :
    MineL w' B (some ⟨g, 0, none⟩) (n + 1) c' (L ++ [x]) (S ++ S1) := by
  have hf : flat (L ++ [x]) = flat L ++ cellsT x := by unfold flat; rw [List.flatMap_append]; simp
  have e : ∀ k, k ∈ S ∨ k ∈ S1 → w'.heap[k]? = w.heap[k]? := fun k hk => by
    refine hg.block k ?_ fun e => ?_
    · rcases hk with hk | hk
      · exact h.own.lt k hk
      · exact hx.lt k hk
    · rcases hk with hk | hk
      · exact h.far k e.symm hk
      · exact hv k e.symm hk
  refine ⟨by rw [hf]; exact hr, (h.own.same fun k hk => e k (.inl hk)).snoc (hx.same fun k hk => e k (.inr hk)) hd, fun k hk hk2 => ?_, fun k hk => ?_⟩
  · have hk : g = k := by simpa [Value.ownBlock] using hk
    subst hk
    rcases List.mem_append.1 hk2 with h2 | h2
    · rcases hat with h1 | h1
      · exact h.far _ h1 h2
      · have := h.own.lt _ h2; omega
    · rcases hat with h1 | h1
      · exact hv _ h1 h2
      · have := hx.lt _ h2; omega
  · rcases List.mem_append.1 hk with h2 | h2
    · exact h.low k h2
    · exact hl k h2
/-- As a row of trees. -/
theorem MineL.rowR {w : World} {B : Nat} {q : Option Addr} {n c : Nat} {L : Row} {S : List Nat} (h : MineL w B q n c L S) :
    (L = [] ∧ q = none ∧ c = 0 ∧ S = [] ∧ n = 0) ∨ ∃ b arr, q = some ⟨b, 0, none⟩ ∧ B ≤ b ∧ b ∉ S ∧ w.heap[b]? = some (.cells arr 25 (0, 0)) ∧ arr.size = c * 6 ∧ (n ≤ c ∧ c ≤ maxLen) ∧ MineR w (L.map (·.1)) b 0 S := by
  have hn := h.length
  rcases h.row.2 with ⟨h1, h2⟩ | ⟨g, cap, cur, e, h1, h2, h3, h4, h5, h6⟩
  · simp only [Value.slice.injEq] at h1
    obtain ⟨h1, h3, h4⟩ := h1
    have hL : L = [] := List.length_eq_zero_iff.1 (by omega)
    have hS := h.own
    rw [hL] at hS
    exact .inl ⟨hL, h1, h4, hS, by omega⟩
  · simp only [Value.slice.injEq] at e
    obtain ⟨rfl, -, rfl⟩ := e
    refine .inr ⟨g, cur, rfl, h1, h.far g rfl, h2, h5, ⟨h3, h4⟩, MineR.of_flat L 0 S (fun j u hj => ?_) h.own⟩
    rw [cells_of h2, Nat.zero_add]
    rw [← h6, List.getElem?_take] at hj
    split at hj
    · simpa using hj
    · cases hj
end Go.Proofs.YtiaddfedaikaiaaGreatDoor

namespace Go.Proofs.YtiaddfedaikaiaaGreatDoor
open Go.RowKit

theorem cellsT_one (x : Tm × Option Addr × Nat) : ∀ u ∈ cellsT x, u.oneCell' = true := by
  intro u hu
  simp [cellsT] at hu
  rcases hu with rfl | rfl | rfl | rfl | rfl | rfl <;> rfl
theorem ownBlock_le {w : World} {B : Nat} {ty : TypeId} {s n : Nat} {v : Value} {xs : List Value} (h : w.ownsRow B ty s v n xs) {x : Nat} (e : v.ownBlock = some x) : B ≤ x := by
  rcases h.2 with ⟨rfl, _⟩ | ⟨g, cap, cur, rfl, h1, _⟩
  · simp [Value.ownBlock] at e
  · have : g = x := by simpa [Value.ownBlock] using e
    omega
theorem ownBlock_lt {w : World} {B : Nat} {ty : TypeId} {s n : Nat} {v : Value} {xs : List Value} (h : w.ownsRow B ty s v n xs) {x : Nat} (e : v.ownBlock = some x) : x < w.heap.size := by
  rcases h.2 with ⟨rfl, _⟩ | ⟨g, cap, cur, rfl, h1, h2, _⟩
  · simp [Value.ownBlock] at e
  · have : g = x := by simpa [Value.ownBlock] using e
    subst this
    exact lt_of_block h2
end Go.Proofs.YtiaddfedaikaiaaGreatDoor
