/- Orders by -1, 0, 1: of numbers, of texts, of integers' texts, of floats by their bits: plain. No condition but those that each theorem names. The standard order of trees that may be: it is one: plain. No condition but those that each theorem names. Terms that may be: plain. No condition but those that each theorem names. -/
import Derived.Sort.Walk0
import Derived.Sort.Grow
import Derived.WalkLawsBesides
import Derived.Test.YtiaddfedaikaiaaGreatDoorT31m
import Derived.Test.YtiaddfedaikaiaaGreatDoorT34
namespace Go.Proofs.YtiaddfedaikaiaaGreatDoor

/-- It turns about, and goes through. -/
structure Ordr {α : Type} (S : α → Prop) (f : α → α → Int) : Prop where
  anti : ∀ a b, S a → S b → f b a = -f a b
  trans : ∀ a b c, S a → S b → S c → f a b ≤ 0 → f b c ≤ 0 → f a c ≤ 0
section
variable {α β : Type} {S : α → Prop} {f g : α → α → Int}
theorem Ordr.eq (h : Ordr S f) {a b c : α} (ha : S a) (hb : S b) (hc : S c) (h1 : f a b ≤ 0) (h2 : f b c ≤ 0) (h3 : f a c = 0) : f a b = 0 ∧ f b c = 0 := by
  have e1 := h.anti a b ha hb
  have e2 := h.anti b c hb hc
  have e3 := h.anti a c ha hc
  have t1 := h.trans b c a hb hc ha h2 (by omega)
  have t2 := h.trans c a b hc ha hb (by omega) h1
  omega
theorem Ordr.mono (h : Ordr S f) {T : α → Prop} (hT : ∀ a, T a → S a) : Ordr T f :=
  ⟨fun a b ha hb => h.anti a b (hT a ha) (hT b hb), fun a b c ha hb hc => h.trans a b c (hT a ha) (hT b hb) (hT c hc)⟩
end
theorem bytes_ext {a b : ByteArray} (h : a.data.toList = b.data.toList) : a = b := ByteArray.ext (Array.toList_inj.1 h)
/-! ### floats -/
def FinB (n : Nat) : Prop := n % 9223372036854775808 < 9218868437227405312
theorem bits_fin (n : Nat) (_h1 : n < 18446744073709551616) (h : bitsOk n = true) : FinB n ∧ n ≠ 9223372036854775808 := by
  unfold bitsOk at h
  simp at h
  unfold FinB
  omega
end Go.Proofs.YtiaddfedaikaiaaGreatDoor

namespace Go.Proofs.YtiaddfedaikaiaaGreatDoor

/-- A tree that may be. -/
def Good (t : Tm) : Prop := AllT DomA t ∧ treeErr vName numOk bitsOk t = 0
theorem Good.node {t : Tm} (h : Good t) : nodeErr vName numOk bitsOk t = 0 := by
  have := h.2
  rw [treeErr_args] at this
  by_cases h0 : nodeErr vName numOk bitsOk t = 0
  · exact h0
  · rw [if_neg h0] at this; exact this
theorem rowErr_zero {l : List Tm} (h : rowErr vName numOk bitsOk l = 0) : ∀ t ∈ l, treeErr vName numOk bitsOk t = 0 := by
  induction l with
  | nil => intro t ht; cases ht
  | cons u l ih =>
    unfold rowErr at h
    by_cases h0 : treeErr vName numOk bitsOk u = 0
    · rw [if_pos h0] at h
      intro t ht
      rcases List.mem_cons.1 ht with rfl | ht
      · exact h0
      · exact ih h t ht
    · rw [if_neg h0] at h; exact absurd h h0
theorem Good.arg {t : Tm} (h : Good t) : ∀ u ∈ t.args, Good u ∧ nodes u < nodes t := by
  intro u hu
  have h1 := h.2
  rw [treeErr_args, if_pos h.node] at h1
  obtain ⟨k, hk, rfl⟩ := List.getElem_of_mem hu
  exact ⟨⟨h.1.arg k hk, rowErr_zero h1 _ hu⟩, nodes_lt hk⟩
/-- What a node that may be holds, by its kind. -/
structure NodeOk (t : Tm) : Prop where
  kind : 1 ≤ t.kind ∧ t.kind ≤ 5
  name : t.kind = 2 ∨ t.kind = 5 ∨ t.name = ⟨#[]⟩
  num : t.kind = 3 ∨ t.num = ⟨#[]⟩
  bits : t.kind = 4 ∨ t.bits = 0
  var : t.kind = 1 ∨ t.var = 0
  args : t.kind = 5 ∨ t.args = []
  fin : t.kind = 4 → FinB t.bits.toNat ∧ t.bits.toNat ≠ 9223372036854775808 ∧ t.bits.toNat < 18446744073709551616 ∧ 0 ≤ t.bits
theorem empty_of {s : ByteArray} (h : s.toList.isEmpty = true) : s = ⟨#[]⟩ := by
  rw [ByteArray.toList_eq, List.isEmpty_iff] at h
  exact bytes_ext (by rw [h])
theorem Good.ok {t : Tm} (h : Good t) : NodeOk t := by
  have hn := h.node
  have hd := h.1.head
  unfold nodeErr at hn
  have hf : fieldsOk t = true := by
    cases e : fieldsOk t with
    | true => rfl
    | false => rw [e] at hn; simp at hn
  rw [hf] at hn
  simp only [Bool.true_eq_false, if_false] at hn
  unfold fieldsOk at hf
  simp only [Bool.and_eq_true, Bool.or_eq_true, decide_eq_true_eq] at hf
  obtain ⟨⟨⟨⟨⟨⟨⟨k1, k2⟩, hnm⟩, hnu⟩, hbi⟩, hva⟩, _⟩, har⟩ := hf
  refine ⟨⟨k1, k2⟩, ?_, hnu.imp id empty_of, hbi, hva, ?_, fun h4 => ?_⟩
  · rcases hnm with (h | h) | h
    · exact .inl h
    · exact .inr (.inl h)
    · exact .inr (.inr (empty_of h))
  · by_cases h5 : t.kind = 5
    · exact .inl h5
    · rw [if_neg h5] at har
      exact .inr (List.length_eq_zero_iff.1 (by simpa using har))
  · have hb : bitsOk t.bits = true := by
      cases e : bitsOk t.bits with
      | true => rfl
      | false =>
        exfalso
        split at hn
        · cases hn
        · rw [if_neg (by omega), if_pos ⟨h4, e⟩] at hn; cases hn
    have h0 := hd.lo
    have h1 := hd.hi
    obtain ⟨n, hn⟩ : ∃ n : Nat, t.bits = (n : Int) := ⟨t.bits.toNat, by omega⟩
    rw [hn] at hb h1 ⊢
    rw [Int.toNat_natCast]
    obtain ⟨f1, f2⟩ := bits_fin n (by omega) hb
    exact ⟨f1, f2, by omega, by omega⟩
end Go.Proofs.YtiaddfedaikaiaaGreatDoor

namespace Go.Proofs.YtiaddfedaikaiaaGreatDoor

theorem rowErr_of {l : List Tm} (h : ∀ t ∈ l, treeErr vName numOk bitsOk t = 0) : rowErr vName numOk bitsOk l = 0 := by
  induction l with
  | nil => rfl
  | cons u l ih =>
    unfold rowErr
    rw [if_pos (h u (by simp))]
    exact ih fun t ht => h t (by simp [ht])
theorem Good.leaf1 {t : Tm} (h : Good t) (h1 : t.kind = 1) : t = leaf 1 ⟨#[]⟩ ⟨#[]⟩ t.var := by
  have o := h.ok
  have a1 : t.name = ⟨#[]⟩ := by
    rcases o.name with h | h | h
    · omega
    · omega
    · exact h
  have a2 : t.num = ⟨#[]⟩ := o.num.resolve_left (by omega)
  have a3 : t.bits = 0 := o.bits.resolve_left (by omega)
  have a4 : t.args = [] := o.args.resolve_left (by omega)
  cases t
  simp only [Tm.kind, Tm.name, Tm.num, Tm.bits, Tm.args, Tm.var] at *
  subst h1 a1 a2 a3 a4
  rfl
theorem Good.var0 {t : Tm} (h : Good t) : 0 ≤ t.var := by
  have hn := h.node
  unfold nodeErr at hn
  have hf : fieldsOk t = true := by
    cases e : fieldsOk t with
    | true => rfl
    | false => rw [e] at hn; simp at hn
  unfold fieldsOk at hf
  simp only [Bool.and_eq_true, decide_eq_true_eq] at hf
  exact hf.1.2
theorem leafV_good {v : Int} (h0 : 0 ≤ v) (hw : (Lit.int .i64 v).wf = true) : Good (leaf 1 ⟨#[]⟩ ⟨#[]⟩ v) := by
  have hs : (⟨#[]⟩ : ByteArray).size = 0 := rfl
  refine ⟨?_, ?_⟩
  · unfold leaf AllT AllR
    exact ⟨⟨by simp [Tm.name, hs], by simp [Tm.num, hs], by simp [Tm.bits], by simp [Tm.bits], hw, by show (Lit.int .i64 1).wf = true; decide +kernel⟩, trivial⟩
  · have hv : vName ⟨#[]⟩ = true := by decide +kernel
    have he : (⟨#[]⟩ : ByteArray).toList = [] := by decide +kernel
    rw [treeErr_args]
    unfold leaf
    simp [nodeErr, fieldsOk, Tm.kind, Tm.name, Tm.num, Tm.bits, Tm.var, Tm.args, hv, he, hs, rowErr, h0]
theorem Good.check {t : Tm} (h : Good t) (hn : nodes t ≤ 4000) : checkErr vName numOk bitsOk t = 0 := by
  unfold checkErr
  rw [if_neg (by omega)]
  exact h.2
theorem Good.nameOk {t : Tm} (h : Good t) : t.name.size ≤ 1000 ∧ vName t.name = true := by
  have hn := h.node
  unfold nodeErr at hn
  split at hn
  · cases hn
  · split at hn
    · cases hn
    · rename_i h1 h2
      have h3 : (decide (t.name.size ≤ 1000) && vName t.name) = true := by
        cases e : (decide (t.name.size ≤ 1000) && vName t.name) with
        | true => rfl
        | false => exact absurd e h2
      rw [Bool.and_eq_true, decide_eq_true_eq] at h3
      exact h3
theorem AllR.each {D : Tm → Prop} : ∀ {l : List Tm}, (∀ u ∈ l, AllT D u) → AllR D l
  | [], _ => by unfold AllR; trivial
  | u :: l, h => by unfold AllR; exact ⟨h u (by simp), AllR.each fun v hv => h v (by simp [hv])⟩
/-- A compound of good terms is good, if it has a name that may be, and neither none nor too many of them. -/
theorem Good.comp {s : ByteArray} {l : List Tm} (hs : s.size ≤ 1000) (hv : vName s = true) (h0 : 0 < l.length) (h1 : l.length ≤ 64) (hl : ∀ u ∈ l, Good u) : Good (.mk 5 s ⟨#[]⟩ 0 0 l) := by
  have hz : (⟨#[]⟩ : ByteArray).size = 0 := rfl
  refine ⟨?_, ?_⟩
  · unfold AllT
    exact ⟨⟨by show s.size ≤ _; omega, by simp [Tm.num, hz], by simp [Tm.bits], by simp [Tm.bits], by show (Lit.int .i64 0).wf = true; decide +kernel, by show (Lit.int .i64 5).wf = true; decide +kernel⟩, AllR.each fun u hu => (hl u hu).1⟩
  · have he : (⟨#[]⟩ : ByteArray).toList = [] := by decide +kernel
    rw [treeErr_args, if_pos (by simp [nodeErr, fieldsOk, Tm.kind, Tm.name, Tm.num, Tm.bits, Tm.var, Tm.args, hv, he, hs, h0, h1])]
    exact rowErr_of fun u hu => (hl u hu).2
theorem Good.atom {s : ByteArray} (hs : s.size ≤ 1000) (hv : vName s = true) : Good (leaf 2 s ⟨#[]⟩ 0) := by
  have hz : (⟨#[]⟩ : ByteArray).size = 0 := rfl
  refine ⟨?_, ?_⟩
  · unfold leaf AllT AllR
    exact ⟨⟨by show s.size ≤ _; omega, by simp [Tm.num, hz], by simp [Tm.bits], by simp [Tm.bits], by show (Lit.int .i64 0).wf = true; decide +kernel, by show (Lit.int .i64 2).wf = true; decide +kernel⟩, trivial⟩
  · have he : (⟨#[]⟩ : ByteArray).toList = [] := by decide +kernel
    rw [treeErr_args]
    unfold leaf
    simp [nodeErr, fieldsOk, Tm.kind, Tm.name, Tm.num, Tm.bits, Tm.var, Tm.args, hv, he, hs, rowErr]
end Go.Proofs.YtiaddfedaikaiaaGreatDoor
