/- Insertion sort, plainly; a row of operators that is written into. No program text. -/
import Derived.Test.YtnbhmgonijlplaaDoorT39
import Derived.Test.YtnbhmgonijlplaaDoorT34
namespace Go.Proofs.YtnbhmgonijlplaaDoor
open Go.Joins

structure InsAt (X L : List Opn) (i k : Nat) : Prop where
  perm : X.Perm L
  cut : ∃ P y S R, X = P ++ (y :: (S ++ R)) ∧ P.length = k ∧ k + S.length = i ∧ (P ++ S).Pairwise olt ∧ ∀ z ∈ S, olt y z
theorem ins_start {X L : List Opn} {i : Nat} (hp : X.Perm L) (hi : i < X.length) (h : (X.take i).Pairwise olt) : InsAt X L i i :=
  ⟨hp, X.take i, X[i], [], X.drop (i + 1), by rw [List.nil_append, ← List.drop_eq_getElem_cons hi, List.take_append_drop], by rw [List.length_take]; omega, rfl, by rw [List.append_nil]; exact h, fun z hz => by cases hz⟩
theorem Apart.perm {L M : List Opn} (h : Apart L) (hp : M.Perm L) : Apart M :=
  (List.Perm.pairwise_iff (fun {x y} h e => h ⟨e.1.symm, e.2.symm⟩) hp).2 h
theorem ins_len {X L : List Opn} {i k : Nat} (h : InsAt X L i k) : k ≤ i ∧ i < X.length := by
  obtain ⟨P, y, S, R, rfl, h1, h2, _⟩ := h.cut
  simp only [List.length_append, List.length_cons]
  omega
theorem ins_step {X L : List Opn} {i j : Nat} (h : InsAt X L i (j + 1)) (h0 : j < X.length) (h1 : j + 1 < X.length) (ho : olt X[j + 1] X[j]) : InsAt ((X.set (j + 1) X[j]).set j X[j + 1]) L i j := by
  obtain ⟨hp, P, y, S, R, hX, hP, hS, hsort, hy⟩ := h
  obtain ⟨P', z, rfl⟩ : ∃ P' z, P = P' ++ [z] := ⟨P.dropLast, P.getLast (by intro e; rw [e] at hP; simp at hP), (List.dropLast_concat_getLast _).symm⟩
  have hP' : P'.length = j := by simpa using hP
  have e : X = P' ++ (z :: (y :: (S ++ R))) := by rw [hX]; simp
  subst e
  subst hP'
  have g0 : (P' ++ (z :: (y :: (S ++ R))))[P'.length] = z := by simp
  have g1 : (P' ++ (z :: (y :: (S ++ R))))[P'.length + 1] = y := by
    rw [List.getElem_append_right (by omega)]
    simp
  rw [g0, g1] at ho ⊢
  have es : ((P' ++ (z :: (y :: (S ++ R)))).set (P'.length + 1) z).set P'.length y = P' ++ (y :: (z :: (S ++ R))) := by
    rw [List.set_append_right _ _ (by omega), List.set_append_right _ _ (by omega)]
    simp
  rw [es]
  refine ⟨?_, P', y, z :: S, R, by simp, rfl, by simp; omega, by simpa using hsort, ?_⟩
  · exact (List.Perm.append_left P' (List.Perm.swap z y _)).trans hp
  · intro u hu
    rcases List.mem_cons.1 hu with rfl | hu
    · exact ho
    · exact hy u hu
theorem ins_done {X L : List Opn} {i k : Nat} (hap : Apart L) (h : InsAt X L i k) (hk : k = 0 ∨ ∃ j, ∃ (h0 : j < X.length) (h1 : j + 1 < X.length), k = j + 1 ∧ ¬ olt X[j + 1] X[j]) : (X.take (i + 1)).Pairwise olt := by
  have hapX := hap.perm h.perm
  obtain ⟨hp, P, y, S, R, hX, hP, hS, hsort, hy⟩ := h
  have et : X.take (i + 1) = P ++ y :: S := by
    rw [hX, show P ++ (y :: (S ++ R)) = (P ++ y :: S) ++ R by simp, List.take_append_of_le_length (by simp; omega), List.take_of_length_le (by simp; omega)]
  rw [et]
  obtain ⟨s1, s2, s3⟩ := List.pairwise_append.1 hsort
  refine List.pairwise_append.2 ⟨s1, List.pairwise_cons.2 ⟨hy, s2⟩, ?_⟩
  rcases hk with rfl | ⟨j, h0, h1, rfl, hno⟩
  · rw [List.length_eq_zero_iff] at hP
    subst hP
    intro a ha
    cases ha
  · obtain ⟨P', z, rfl⟩ : ∃ P' z, P = P' ++ [z] := ⟨P.dropLast, P.getLast (by intro e; rw [e] at hP; simp at hP), (List.dropLast_concat_getLast _).symm⟩
    have hP' : P'.length = j := by simpa using hP
    have e : X = P' ++ (z :: (y :: (S ++ R))) := by rw [hX]; simp
    subst e
    subst hP'
    have g0 : (P' ++ (z :: (y :: (S ++ R))))[P'.length] = z := by simp
    have g1 : (P' ++ (z :: (y :: (S ++ R))))[P'.length + 1] = y := by
      rw [List.getElem_append_right (by omega)]
      simp
    rw [g0, g1] at hno
    have hzy : ¬ (z.name = y.name ∧ cls z.typ = cls y.typ) := (List.pairwise_cons.1 (List.pairwise_append.1 hapX).2.1).1 y List.mem_cons_self
    have hlt : olt z y := by
      rcases olt_tri z y with h | h | ⟨h1, h2⟩
      · exact h
      · exact absurd h hno
      · exact absurd ⟨nm_inj h1, h2⟩ hzy
    intro a ha b hb
    have haz : a = z ∨ olt a z := by
      rcases List.mem_append.1 ha with h | h
      · exact .inr ((List.pairwise_append.1 s1).2.2 a h z (List.mem_singleton.2 rfl))
      · exact .inl (List.mem_singleton.1 h)
    have hay : olt a y := by
      rcases haz with rfl | h
      · exact hlt
      · exact olt_trans h hlt
    rcases List.mem_cons.1 hb with rfl | hb
    · exact hay
    · exact olt_trans hay (hy b hb)
/-- A row of operators, whole. -/
def BlkAt (w : World) (g : Nat) (X : List Opn) : Prop := ∃ cur, w.heap[g]? = some (.cells cur 39 (0, 0)) ∧ ∀ k (h : k < X.length), cur[k * 3]? = some (.string X[k].name) ∧ cur[k * 3 + 1]? = some (.int .i64 X[k].typ) ∧ cur[k * 3 + 2]? = some (.int .i64 X[k].pri)
theorem BlkAt.cells {w : World} {g : Nat} {X : List Opn} (h : BlkAt w g X) (k : Nat) (hk : k < X.length) : w.cell? ⟨g, k * 3, none⟩ = some (.string X[k].name) ∧ w.cell? ⟨g, k * 3 + 1, none⟩ = some (.int .i64 X[k].typ) ∧ w.cell? ⟨g, k * 3 + 2, none⟩ = some (.int .i64 X[k].pri) ∧
    w.frozen? ⟨g, k * 3, none⟩ = false ∧ w.frozen? ⟨g, k * 3 + 1, none⟩ = false ∧ w.frozen? ⟨g, k * 3 + 2, none⟩ = false := by
  obtain ⟨cur, hg, hc⟩ := h
  obtain ⟨h0, h1, h2⟩ := hc k hk
  exact ⟨by simp [World.cell?, hg, h0], by simp [World.cell?, hg, h1], by simp [World.cell?, hg, h2], by simp [World.frozen?, hg], by simp [World.frozen?, hg], by simp [World.frozen?, hg]⟩
theorem BlkAt.of_block {w w' : World} {g : Nat} {X : List Opn} (h : BlkAt w g X) (e : w'.heap[g]? = w.heap[g]?) : BlkAt w' g X := by
  obtain ⟨cur, hg, hc⟩ := h
  exact ⟨cur, e.trans hg, hc⟩
theorem BlkAt.lt {w : World} {g : Nat} {X : List Opn} (h : BlkAt w g X) : g < w.heap.size := lt_of_block h.choose_spec.1
theorem BlkAt.row {w : World} {g : Nat} {X : List Opn} (h : BlkAt w g X) : RowAt w g X := ⟨fun k hk => (h.cells k hk).1, fun k hk => (h.cells k hk).2.1, fun k hk => (h.cells k hk).2.2.1⟩
theorem BlkAt.set {w : World} {g : Nat} {X : List Opn} (h : BlkAt w g X) (j : Nat) (hj : j < X.length) (x : Opn) :
    BlkAt (((w.setCell ⟨g, j * 3, none⟩ (.string x.name)).setCell ⟨g, j * 3 + 1, none⟩ (.int .i64 x.typ)).setCell ⟨g, j * 3 + 2, none⟩ (.int .i64 x.pri)) g (X.set j x) := by
  obtain ⟨cur, hg, hc⟩ := h
  have h0 := heap_setCell_same w g (j * 3) _ _ (.string x.name) hg
  have h1 := heap_setCell_same _ g (j * 3 + 1) _ _ (.int .i64 x.typ) h0
  have h2 := heap_setCell_same _ g (j * 3 + 2) _ _ (.int .i64 x.pri) h1
  have hl : ∀ i, i < 3 → j * 3 + i < cur.size := by
    intro i hi
    obtain ⟨a0, a1, a2⟩ := hc j hj
    rcases (show i = 0 ∨ i = 1 ∨ i = 2 by omega) with rfl | rfl | rfl
    · exact (Array.getElem?_eq_some_iff.1 a0).1
    · exact (Array.getElem?_eq_some_iff.1 a1).1
    · exact (Array.getElem?_eq_some_iff.1 a2).1
  have l0 := hl 0 (by omega)
  have l1 := hl 1 (by omega)
  have l2 := hl 2 (by omega)
  refine ⟨_, h2, fun k hk => ?_⟩
  rw [List.length_set] at hk
  obtain ⟨a0, a1, a2⟩ := hc k hk
  simp only [Array.getElem?_setIfInBounds, Array.size_setIfInBounds, List.getElem_set]
  by_cases hkj : k = j
  · subst hkj
    refine ⟨?_, ?_, ?_⟩
    · rw [if_neg (by omega), if_neg (by omega), if_pos rfl, if_pos (by omega)]; simp
    · rw [if_neg (by omega), if_pos rfl, if_pos (by omega)]; simp
    · rw [if_pos rfl, if_pos (by omega)]; simp
  · refine ⟨?_, ?_, ?_⟩
    · rw [if_neg (by omega), if_neg (by omega), if_neg (by omega), if_neg (Ne.symm hkj)]; exact a0
    · rw [if_neg (by omega), if_neg (by omega), if_neg (by omega), if_neg (Ne.symm hkj)]; exact a1
    · rw [if_neg (by omega), if_neg (by omega), if_neg (by omega), if_neg (Ne.symm hkj)]; exact a2
theorem row_blk {w : World} {base : Nat} {L : List Opn} {g cap : Nat} (h : w.ownsRow base 39 3 (.slice (some ⟨g, 0, none⟩) L.length cap) L.length (rowOf L)) : base ≤ g ∧ BlkAt w g L := by
  rcases h.2 with ⟨h, _⟩ | ⟨g', cap', cur, h, h1, h2, h3, h4, h5, h6⟩
  · cases h
  · cases h
    exact ⟨h1, cur, h2, fun k hk => triple_get h6 rfl hk⟩
end Go.Proofs.YtnbhmgonijlplaaDoor
