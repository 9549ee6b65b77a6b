/- The document's answer on tables of operators, plainly: what Add makes of a table is what the program's table is. No program text. -/
import Derived.Test.YtnbhmgonijlplaaDoorT32
namespace Go.Proofs.YtnbhmgonijlplaaDoor

/-- No place is taken twice. -/
def Apart (L : List Opn) : Prop := L.Pairwise fun x y => ¬ (x.name = y.name ∧ cls x.typ = cls y.typ)
theorem keyIs_iff {c : Int} {s : ByteArray} {x : Opn} : keyIs c s x = true ↔ x.name = s ∧ cls x.typ = c := by simp [keyIs]
theorem look_some {L : List Opn} {c : Int} {s : ByteArray} {x : Opn} (h : look L c s = some x) : x ∈ L ∧ x.name = s ∧ cls x.typ = c :=
  ⟨List.mem_of_find?_eq_some h, keyIs_iff.1 (List.find?_some h)⟩
theorem look_mem : ∀ {L : List Opn}, Apart L → ∀ {x : Opn}, x ∈ L → look L (cls x.typ) x.name = some x
  | y :: L, h, x, hx => by
    obtain ⟨h1, h2⟩ := List.pairwise_cons.1 h
    unfold look
    rw [List.find?_cons]
    rcases List.mem_cons.1 hx with rfl | hx'
    · rw [keyIs_iff.2 ⟨rfl, rfl⟩]
    · have hn : keyIs (cls x.typ) x.name y = false := by
        cases e : keyIs (cls x.typ) x.name y with
        | false => rfl
        | true => exact absurd (keyIs_iff.1 e) (h1 x hx')
      rw [hn]
      exact look_mem h2 hx'
theorem look_append {L M : List Opn} {c : Int} {s : ByteArray} : look (L ++ M) c s = (look L c s).or (look M c s) := by
  unfold look
  rw [List.find?_append]
theorem look_one (x : Opn) (c : Int) (s : ByteArray) : look [x] c s = if c = cls x.typ ∧ s = x.name then some x else none := by
  unfold look
  rw [List.find?_cons]
  by_cases h : c = cls x.typ ∧ s = x.name
  · rw [if_pos h, keyIs_iff.2 ⟨h.2.symm, h.1.symm⟩]
  · rw [if_neg h]
    cases e : keyIs c s x with
    | false => rfl
    | true => exact absurd ⟨(keyIs_iff.1 e).2.symm, (keyIs_iff.1 e).1.symm⟩ h
theorem look_put {L : List Opn} {x : Opn} (h : look L (cls x.typ) x.name = none) : look (L ++ [x]) = fset (look L) (cls x.typ) x.name (some x) := by
  funext c s
  rw [look_append, look_one]
  unfold fset
  by_cases hk : c = cls x.typ ∧ s = x.name
  · rw [if_pos hk, if_pos hk, hk.1, hk.2, h]
    rfl
  · rw [if_neg hk, if_neg hk, Option.or_none]
theorem look_cons (y : Opn) (L : List Opn) (d : Int) (t : ByteArray) : look (y :: L) d t = if keyIs d t y = true then some y else look L d t := by
  unfold look
  rw [List.find?_cons]
  cases keyIs d t y <;> rfl
theorem look_kept (L : List Opn) (c : Int) (s : ByteArray) : look (L.filter (fun x => !keyIs c s x)) = fset (look L) c s none := by
  funext d t
  unfold fset
  induction L with
  | nil => split <;> rfl
  | cons y L ih =>
    rw [List.filter_cons]
    cases hy : keyIs c s y with
    | true =>
      rw [if_neg (by simp), ih]
      by_cases hk : d = c ∧ t = s
      · rw [if_pos hk, if_pos hk]
      · rw [if_neg hk, if_neg hk, look_cons, if_neg]
        intro h
        exact hk ⟨(keyIs_iff.1 h).2.symm.trans (keyIs_iff.1 hy).2, (keyIs_iff.1 h).1.symm.trans (keyIs_iff.1 hy).1⟩
    | false =>
      rw [if_pos (by simp), look_cons, ih]
      by_cases hk : d = c ∧ t = s
      · rw [if_pos hk, if_pos hk, if_neg]
        rw [hk.1, hk.2, hy]
        exact Bool.false_ne_true
      · rw [if_neg hk, if_neg hk, look_cons]
theorem fset_fset (F : Fn) (c : Int) (s : ByteArray) (u v : Option Opn) : fset (fset F c s u) c s v = fset F c s v := by
  funext d t
  unfold fset
  by_cases hk : d = c ∧ t = s
  · rw [if_pos hk, if_pos hk]
  · rw [if_neg hk, if_neg hk, if_neg hk]
/-- The document's table, when one was added to. -/
def grownL (L : List Opn) (p k : Int) (s : ByteArray) : List Opn := if refu (look L) p k s = 0 then L.filter (fun x => !keyIs (cls k) s x) ++ (if 0 < p then [⟨s, k, p⟩] else []) else L
theorem look_grown (L : List Opn) (p k : Int) (s : ByteArray) : look (grownL L p k s) = after (look L) p k s := by
  unfold grownL after
  by_cases hz : refu (look L) p k s = 0
  · rw [if_pos hz, if_pos hz]
    by_cases hp : 0 < p
    · rw [if_pos hp, if_pos hp]
      have h := look_put (L := L.filter (fun x => !keyIs (cls k) s x)) (x := ⟨s, k, p⟩) (by rw [look_kept]; exact fset_same _ _ _ _)
      rw [h, look_kept, fset_fset]
    · rw [if_neg hp, if_neg hp, List.append_nil, look_kept]
  · rw [if_neg hz, if_neg hz]
theorem Apart.grown {L : List Opn} (h : Apart L) (p k : Int) (s : ByteArray) : Apart (grownL L p k s) := by
  unfold grownL
  have h1 : Apart (L.filter (fun x => !keyIs (cls k) s x)) := List.Pairwise.filter _ h
  by_cases hz : refu (look L) p k s = 0
  · rw [if_pos hz]
    by_cases hp : 0 < p
    · rw [if_pos hp]
      refine List.pairwise_append.2 ⟨h1, List.pairwise_singleton _ _, ?_⟩
      intro x hx y hy
      rw [List.mem_singleton] at hy
      subst hy
      intro e
      have := (List.mem_filter.1 hx).2
      rw [keyIs_iff.2 e] at this
      exact absurd this (by simp)
    · rw [if_neg hp, List.append_nil]
      exact h1
  · rw [if_neg hz]
    exact h
theorem grownL_length (L : List Opn) (p k : Int) (s : ByteArray) : (grownL L p k s).length ≤ L.length + 1 := by
  unfold grownL
  have h := List.length_filter_le (fun x => !keyIs (cls k) s x) L
  split
  · split
    · simp only [List.length_append, List.length_cons, List.length_nil]; omega
    · simp only [List.length_append, List.length_nil]; omega
  · omega
def rowL (k : Nat) : List Opn := (nms (row k).2.2).map fun s => ⟨s, (row k).2.1, (row k).1⟩
def firstL : Nat → List Opn
  | 0 => []
  | k + 1 => firstL k ++ rowL k
def newL : List Opn := firstL 15
set_option maxRecDepth 100000 in
theorem newL_apart : Apart newL := by unfold Apart; decide +kernel
theorem newL_length : newL.length = 54 := by decide +kernel
theorem firstL_apart : ∀ j, Apart (firstL j) → ∀ k, k ≤ j → Apart (firstL k)
  | 0, h, k, hk => by obtain rfl : k = 0 := by omega
                      exact h
  | j + 1, h, k, hk => by
    rcases Nat.lt_or_ge j k with h1 | h1
    · obtain rfl : k = j + 1 := by omega
      exact h
    · exact firstL_apart j (List.pairwise_append.1 h).1 k h1
theorem look_addAll (p k : Int) : ∀ (l : List ByteArray) (L : List Opn), Apart (L ++ l.map fun s => ⟨s, k, p⟩) → look (L ++ l.map fun s => ⟨s, k, p⟩) = addAll (look L) p k l
  | [], L, _ => by rw [List.map_nil, List.append_nil]; rfl
  | s :: l, L, h => by
    have e : L ++ (s :: l).map (fun s => (⟨s, k, p⟩ : Opn)) = (L ++ [⟨s, k, p⟩]) ++ l.map (fun s => ⟨s, k, p⟩) := by simp
    rw [e] at h ⊢
    rw [look_addAll p k l _ h]
    have hn : look L (cls k) s = none := by
      cases hx : look L (cls k) s with
      | none => rfl
      | some x =>
        obtain ⟨h1, h2, h3⟩ := look_some hx
        exact absurd ⟨h2, h3⟩ ((List.pairwise_append.1 (List.pairwise_append.1 h).1).2.2 x h1 ⟨s, k, p⟩ (List.mem_singleton.2 rfl))
    rw [look_put (x := ⟨s, k, p⟩) hn]
    rfl
theorem look_first : ∀ k, k ≤ 15 → look (firstL k) = firstF k
  | 0, _ => rfl
  | k + 1, hk => by
    have h := firstL_apart 15 newL_apart (k + 1) hk
    show look (firstL k ++ rowL k) = addAll (firstF k) (row k).1 (row k).2.1 (nms (row k).2.2)
    rw [← look_first k (by omega)]
    exact look_addAll _ _ _ _ h
theorem look_new : look newL = newF := look_first 15 (Nat.le_refl _)
/-- The document's operators in order are what the table tells. -/
theorem told_look {L M : List Opn} (h : Apart L) (hp : M.Perm L) (ha : M.Pairwise olt) : Told (look L) M :=
  ⟨fun x => by
    rw [hp.mem_iff]
    exact ⟨fun hx => look_mem h hx, fun hx => (look_some hx).1⟩, ha⟩
end Go.Proofs.YtnbhmgonijlplaaDoor
