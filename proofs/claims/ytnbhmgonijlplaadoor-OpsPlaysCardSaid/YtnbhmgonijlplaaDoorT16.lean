/- Plain: the order in which operators are told, tables that may be, what they tell in order. No condition but those that each theorem names. -/
import Derived.Test.YtnbhmgonijlplaaDoorT7
import Derived.Sort.Statements
namespace Go.Proofs.YtnbhmgonijlplaaDoor
open Go.RowKit

def nm (x : Opn) : List UInt8 := x.name.data.toList
def olt (x y : Opn) : Prop := nm x < nm y ∨ (nm x = nm y ∧ cls x.typ < cls y.typ)
theorem olt_irrefl (x : Opn) : ¬ olt x x := by
  rintro (h | ⟨_, h⟩)
  · exact List.lt_irrefl _ h
  · omega
theorem olt_trans {x y z : Opn} (h : olt x y) (k : olt y z) : olt x z := by
  rcases h with h | ⟨h1, h2⟩ <;> rcases k with k | ⟨k1, k2⟩
  · exact .inl (List.lt_trans h k)
  · exact .inl (k1 ▸ h)
  · exact .inl (by rw [h1]; exact k)
  · exact .inr ⟨h1.trans k1, by omega⟩
theorem names_tri (a b : List UInt8) : a < b ∨ b < a ∨ a = b := by
  by_cases h : a < b
  · exact .inl h
  · by_cases k : b < a
    · exact .inr (.inl k)
    · exact .inr (.inr (List.le_antisymm (List.not_lt.1 k) (List.not_lt.1 h)))
theorem olt_tri (x y : Opn) : olt x y ∨ olt y x ∨ (nm x = nm y ∧ cls x.typ = cls y.typ) := by
  rcases names_tri (nm x) (nm y) with h | h | h
  · exact .inl (.inl h)
  · exact .inr (.inl (.inl h))
  · rcases (show cls x.typ < cls y.typ ∨ cls y.typ < cls x.typ ∨ cls x.typ = cls y.typ by omega) with k | k | k
    · exact .inl (.inr ⟨h, k⟩)
    · exact .inr (.inl (.inr ⟨h.symm, k⟩))
    · exact .inr (.inr ⟨h, k⟩)
theorem nm_inj {x y : Opn} (h : nm x = nm y) : x.name = y.name := ByteArray.ext (Array.toList_inj.1 h)

def cmpS (a b : List UInt8) : Int := if a < b then -1 else if b < a then 1 else 0
def cmpI (a b : Int) : Int := if a < b then -1 else if b < a then 1 else 0
def cfo (x y : Opn) : Int := if cmpS (nm x) (nm y) = 0 then cmpI (cls x.typ) (cls y.typ) else cmpS (nm x) (nm y)
theorem cmpS_neg (a b : List UInt8) : cmpS a b < 0 ↔ a < b := by
  unfold cmpS
  by_cases h : a < b
  · simp [h]
  · rw [if_neg h]
    by_cases k : b < a <;> simp [h, k]
theorem cmpS_zero (a b : List UInt8) : cmpS a b = 0 ↔ a = b := by
  unfold cmpS
  rcases names_tri a b with h | h | h
  · rw [if_pos h]
    exact ⟨fun e => absurd e (by decide), fun e => absurd (e ▸ h) (List.lt_irrefl _)⟩
  · rw [if_neg (fun k => List.lt_irrefl _ (List.lt_trans h k)), if_pos h]
    exact ⟨fun e => absurd e (by decide), fun e => absurd (e ▸ h) (List.lt_irrefl _)⟩
  · subst h
    rw [if_neg (List.lt_irrefl _), if_neg (List.lt_irrefl _)]
    simp
theorem cmpI_neg (a b : Int) : cmpI a b < 0 ↔ a < b := by unfold cmpI; split <;> (try split) <;> omega
theorem cfo_neg (x y : Opn) : cfo x y < 0 ↔ olt x y := by
  unfold cfo olt
  by_cases h : cmpS (nm x) (nm y) = 0
  · rw [if_pos h, cmpI_neg]
    have e := (cmpS_zero _ _).1 h
    rw [e]
    exact ⟨fun k => .inr ⟨rfl, k⟩, fun k => k.elim (fun k => absurd k (List.lt_irrefl _)) (fun k => k.2)⟩
  · rw [if_neg h, cmpS_neg]
    exact ⟨.inl, fun k => k.elim id (fun k => absurd ((cmpS_zero _ _).2 k.1) h)⟩

/-- A table that may be. -/
structure Good (F : Fn) : Prop where
  key : ∀ c s x, F c s = some x → x.name = s ∧ cls x.typ = c
  pri : ∀ c s x, F c s = some x → 1 ≤ x.pri ∧ x.pri ≤ 1200
  len : ∀ c s x, F c s = some x → s.size ≤ maxLen
  apart : ∀ s x y, F 2 s = some x → F 3 s = some y → False
  comma : F 2 ⟨#[44]⟩ = some ⟨⟨#[44]⟩, 4, 1000⟩
  cl : ∀ c s x, F c s = some x → c = 1 ∨ c = 2 ∨ c = 3
theorem cls_range (k : Int) : cls k = 0 ∨ cls k = 1 ∨ cls k = 2 ∨ cls k = 3 := by unfold cls; split <;> (try split) <;> (try split) <;> omega

section
variable {F : Fn} {p k : Int} {s : ByteArray}
theorem refu_ok (h : refu F p k s = 0) : (0 ≤ p ∧ p ≤ 1200) ∧ cls k ≠ 0 ∧ s ≠ ⟨#[44]⟩ ∧ ((F (riv (cls k)) s).isSome = true → p ≤ 0) := by
  unfold refu at h
  split at h
  · cases h
  · rename_i h1
    split at h
    · cases h
    · rename_i h2
      split at h
      · cases h
      · rename_i h3
        split at h
        · cases h
        · split at h
          · cases h
          · rename_i h5
            exact ⟨by omega, h2, h3, fun e => by
              rcases Int.lt_or_le 0 p with q | q
              · exact absurd ⟨e, q⟩ h5
              · exact q⟩
theorem fset_same (F : Fn) (c : Int) (s : ByteArray) (v : Option Opn) : fset F c s v c s = v := by unfold fset; rw [if_pos ⟨rfl, rfl⟩]
theorem fset_other (F : Fn) {c d : Int} {s t : ByteArray} (v : Option Opn) (h : ¬ (d = c ∧ t = s)) : fset F c s v d t = F d t := by unfold fset; rw [if_neg h]
theorem fset_some {c d : Int} {t : ByteArray} {v : Option Opn} {x : Opn} (h : fset F c s v d t = some x) : (d = c ∧ t = s ∧ v = some x) ∨ (¬ (d = c ∧ t = s) ∧ F d t = some x) := by
  unfold fset at h
  split at h
  · rename_i e; exact .inl ⟨e.1, e.2, h⟩
  · rename_i e; exact .inr ⟨e, h⟩
theorem Good.put (g : Good F) (hs : s.size ≤ maxLen) (h : refu F p k s = 0) (hp : 0 < p) : Good (fset F (cls k) s (some ⟨s, k, p⟩)) := by
  obtain ⟨h1, h2, h3, h4⟩ := refu_ok h
  have hr : F (riv (cls k)) s = none := by
    cases e : F (riv (cls k)) s with
    | none => rfl
    | some x => have := h4 (by rw [e]; rfl); omega
  refine ⟨fun c t x hx => ?_, fun c t x hx => ?_, fun c t x hx => ?_, fun t x y hx hy => ?_, ?_, fun c t x hx => ?_⟩
  · rcases fset_some hx with ⟨rfl, rfl, e⟩ | ⟨_, e⟩
    · cases e; exact ⟨rfl, rfl⟩
    · exact g.key _ _ _ e
  · rcases fset_some hx with ⟨rfl, rfl, e⟩ | ⟨_, e⟩
    · cases e; exact ⟨by simp only; omega, by simp only; omega⟩
    · exact g.pri _ _ _ e
  · rcases fset_some hx with ⟨rfl, rfl, e⟩ | ⟨_, e⟩
    · exact hs
    · exact g.len _ _ _ e
  · rcases fset_some hx with ⟨e1, rfl, _⟩ | ⟨_, e⟩
    · rcases fset_some hy with ⟨e2, _, _⟩ | ⟨_, e'⟩
      · omega
      · rw [← e1] at hr
        rw [show riv 2 = 3 from rfl] at hr
        rw [hr] at e'; cases e'
    · rcases fset_some hy with ⟨e2, rfl, _⟩ | ⟨_, e'⟩
      · rw [← e2] at hr
        rw [show riv 3 = 2 from rfl] at hr
        rw [hr] at e; cases e
      · exact g.apart _ _ _ e e'
  · rw [fset_other _ _ (fun e => h3 e.2.symm)]; exact g.comma
  · rcases fset_some hx with ⟨rfl, _, _⟩ | ⟨_, e⟩
    · have := cls_range k; omega
    · exact g.cl _ _ _ e
theorem Good.del (g : Good F) (h : refu F p k s = 0) : Good (fset F (cls k) s none) := by
  obtain ⟨_, _, h3, _⟩ := refu_ok h
  have old : ∀ {c t x}, fset F (cls k) s none c t = some x → F c t = some x := fun hx => by
    rcases fset_some hx with ⟨_, _, e⟩ | ⟨_, e⟩
    · cases e
    · exact e
  exact ⟨fun c t x hx => g.key _ _ _ (old hx), fun c t x hx => g.pri _ _ _ (old hx), fun c t x hx => g.len _ _ _ (old hx), fun t x y hx hy => g.apart _ _ _ (old hx) (old hy),
    by rw [fset_other _ _ (fun e => h3 e.2.symm)]; exact g.comma, fun c t x hx => g.cl _ _ _ (old hx)⟩
end

/-- What the first rows make. -/
structure Begun (F : Fn) : Prop where
  key : ∀ c s x, F c s = some x → x.name = s ∧ cls x.typ = c ∧ (1 ≤ x.pri ∧ x.pri ≤ 1200) ∧ s.size ≤ maxLen ∧ (c = 1 ∨ c = 2)
theorem Begun.addAll {p k : Int} (hk : cls k = 1 ∨ cls k = 2) (hp : 1 ≤ p ∧ p ≤ 1200) : ∀ (l : List ByteArray) (F : Fn), Begun F → (∀ s ∈ l, s.size ≤ maxLen) → Begun (addAll F p k l)
  | [], F, h, _ => h
  | s :: l, F, h, hl => by
    show Begun (YtnbhmgonijlplaaDoor.addAll (fset F (cls k) s (some ⟨s, k, p⟩)) p k l)
    refine Begun.addAll hk hp l _ ⟨fun c t x hx => ?_⟩ (fun t ht => hl t (List.mem_cons_of_mem _ ht))
    rcases fset_some hx with ⟨rfl, rfl, e⟩ | ⟨_, e⟩
    · cases e; exact ⟨rfl, rfl, hp, hl _ List.mem_cons_self, hk⟩
    · exact h.key _ _ _ e
theorem row_good : ∀ k, k < 15 → (cls (row k).2.1 = 1 ∨ cls (row k).2.1 = 2) ∧ (1 ≤ (row k).1 ∧ (row k).1 ≤ 1200) := by decide +kernel
theorem begun : ∀ k, k ≤ 15 → Begun (firstF k)
  | 0, _ => ⟨fun c s x h => by cases h⟩
  | k + 1, h => by
    obtain ⟨h1, h2⟩ := row_good k (by omega)
    have h3 := (row_names k (by omega)).1
    exact Begun.addAll h1 h2 _ _ (begun k (by omega)) (fun s hs => by have := List.all_eq_true.1 h3 s hs; simp at this; unfold maxLen; omega)
theorem comma_in : newF 2 ⟨#[44]⟩ = some ⟨⟨#[44]⟩, 4, 1000⟩ := by kernel_rfl
theorem good_new : Good newF := by
  have b := begun 15 (by omega)
  exact ⟨fun c s x h => ⟨(b.key c s x h).1, (b.key c s x h).2.1⟩, fun c s x h => (b.key c s x h).2.2.1, fun c s x h => (b.key c s x h).2.2.2.1, fun s x y _ hy => by have := (b.key 3 s y hy).2.2.2.2; omega, comma_in,
    fun c s x h => by have := (b.key c s x h).2.2.2.2; omega⟩

/-- What a table tells, in order. -/
structure Told (F : Fn) (L : List Opn) : Prop where
  mem : ∀ x, x ∈ L ↔ F (cls x.typ) x.name = some x
  asc : L.Pairwise olt
theorem pair_nodup {L : List Opn} (h : L.Pairwise olt) : L.Nodup := List.Pairwise.imp (S := fun a b => a ≠ b) (fun h e => by subst e; exact olt_irrefl _ h) h
theorem Told.nodup {F : Fn} {L : List Opn} (h : Told F L) : L.Nodup := pair_nodup h.asc
theorem Told.one {F : Fn} {L M : List Opn} (h : Told F L) (k : Told F M) : L = M := by
  have hp : L.Perm M := (List.perm_ext_iff_of_nodup h.nodup k.nodup).2 fun x => (h.mem x).trans (k.mem x).symm
  exact List.Perm.eq_of_pairwise (le := olt) (fun a b _ _ h1 h2 => absurd (olt_trans h1 h2) (olt_irrefl _)) h.asc k.asc hp

theorem nodup_sub {α : Type} [DecidableEq α] : ∀ {l m : List α}, l.Nodup → (∀ x ∈ l, x ∈ m) → l.length ≤ m.length
  | [], _, _, _ => Nat.zero_le _
  | a :: l, m, h, hs => by
    obtain ⟨h1, h2⟩ := List.nodup_cons.1 h
    have hm : a ∈ m := hs a List.mem_cons_self
    have := nodup_sub (m := m.erase a) h2 fun x hx => (List.mem_erase_of_ne (fun (e : x = a) => h1 (e ▸ hx))).2 (hs x (List.mem_cons_of_mem _ hx))
    rw [List.length_erase_of_mem hm] at this
    have : 0 < m.length := List.length_pos_of_mem hm
    simp; omega
end Go.Proofs.YtnbhmgonijlplaaDoor
