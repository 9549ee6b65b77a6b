/- What a grammar's body comes to, as the program reckons it, and which variables stand in it: plain. No condition but those that each theorem names. What a grammar's body comes to is a term that may be, but for its nodes: plain. No condition but those that each theorem names. What a grammar rule comes to, as the program reckons it, and which variables stand in it: plain. No condition but those that each theorem names. -/
import Derived.Test.YtiaddfedaikaiaaGreatDoorT56m
import Derived.Test.YtiaddfedaikaiaaGreatDoorT38qm
namespace Go.Proofs.YtiaddfedaikaiaaGreatDoor

mutual
/-- A variable stands in a term. -/
def occT : Tm → Int → Prop
  | .mk k _ _ _ v l, x => (k = 1 ∧ v = x) ∨ occR l x
def occR : List Tm → Int → Prop
  | [], _ => False
  | t :: l, x => occT t x ∨ occR l x
end
theorem mem_addN (S : List Int) (n x : Int) : x ∈ addN S n ↔ x ∈ S ∨ n = x := by
  unfold addN
  split
  · rename_i h
    constructor
    · exact .inl
    · rintro (h1 | rfl)
      · exact h1
      · exact h
  · rw [List.mem_append, List.mem_singleton]
    constructor
    · rintro (h1 | h1)
      · exact .inl h1
      · exact .inr h1.symm
    · rintro (h1 | h1)
      · exact .inl h1
      · exact .inr h1.symm
mutual
theorem mem_varsT : ∀ (t : Tm) (S : List Int) (x : Int), x ∈ varsT t S ↔ x ∈ S ∨ occT t x
  | .mk k n u b v l, S, x => by
    rw [varsT, mem_varsR, occT]
    by_cases h : k = 1
    · rw [if_pos h, mem_addN]
      constructor
      · rintro ((h1 | h1) | h1)
        · exact .inl h1
        · exact .inr (.inl ⟨h, h1⟩)
        · exact .inr (.inr h1)
      · rintro (h1 | ⟨_, h1⟩ | h1)
        · exact .inl (.inl h1)
        · exact .inl (.inr h1)
        · exact .inr h1
    · rw [if_neg h]
      constructor
      · rintro (h1 | h1)
        · exact .inl h1
        · exact .inr (.inr h1)
      · rintro (h1 | ⟨h2, _⟩ | h1)
        · exact .inl h1
        · exact absurd h2 h
        · exact .inr h1
theorem mem_varsR : ∀ (l : List Tm) (S : List Int) (x : Int), x ∈ varsR l S ↔ x ∈ S ∨ occR l x
  | [], S, x => by rw [varsR, occR]; simp
  | t :: l, S, x => by
    rw [varsR, mem_varsR, mem_varsT, occR, or_assoc]
end
theorem occR_append : ∀ (l m : List Tm) (x : Int), occR (l ++ m) x ↔ occR l x ∨ occR m x
  | [], m, x => by simp [occR]
  | t :: l, m, x => by rw [List.cons_append, occR, occR, occR_append, or_assoc]
theorem occT_not {t : Tm} {x : Int} (h : t.kind ≠ 1) : occT t x ↔ occR t.args x := by
  cases t
  rw [occT]
  constructor
  · rintro (⟨h1, _⟩ | h1)
    · exact absurd h1 h
    · exact h1
  · exact .inr
theorem occR_get {l : List Tm} {x : Int} (h : 1 = l.length) (h0 : 0 < l.length) : occR l x ↔ occT l[0] x := by
  match l, h with
  | [a], _ => simp [occR]
theorem occR_two {l : List Tm} {x : Int} (h : 2 = l.length) (h0 : 0 < l.length) (h1 : 1 < l.length) : occR l x ↔ occT l[0] x ∨ occT l[1] x := by
  match l, h with
  | [a, b], _ => simp [occR]
theorem nodesL_one {l : List Tm} (h : l.length = 1) (h0 : 0 < l.length) : nodesL l = nodes l[0] := by
  match l, h with
  | [a], _ => simp [nodesL]
theorem nodesL_two {l : List Tm} (h : l.length = 2) (h0 : 0 < l.length) (h1 : 1 < l.length) : nodesL l = nodes l[0] + nodes l[1] := by
  match l, h with
  | [a, b], _ => simp [nodesL]
/-- A compound, an atom, a variable. -/
def cT (s : ByteArray) (l : List Tm) : Tm := .mk 5 s ⟨#[]⟩ 0 0 l
def vrT (n : Int) : Tm := leaf 1 ⟨#[]⟩ ⟨#[]⟩ n
def aT (s : ByteArray) : Tm := leaf 2 s ⟨#[]⟩ 0
theorem occ_cT (s : ByteArray) (l : List Tm) (x : Int) : occT (cT s l) x ↔ occR l x := by
  unfold cT
  exact occT_not (by show (5 : Int) ≠ 1; decide)
theorem occ_vrT (n x : Int) : occT (vrT n) x ↔ n = x := by
  unfold vrT leaf
  rw [occT]
  simp [occR]
theorem occ_listT : ∀ (l : List Tm) (e : Tm) (x : Int), occT (listT l e) x ↔ occR l x ∨ occT e x
  | [], e, x => by simp [listT, occR]
  | t :: l, e, x => by
    show occT (.mk 5 ⟨#[46]⟩ ⟨#[]⟩ 0 0 [t, listT l e]) x ↔ _
    rw [occT_not (by show (5 : Int) ≠ 1; decide)]
    show occR [t, listT l e] x ↔ _
    rw [occR, occR, occR, occ_listT l e x, occR]
    simp [or_assoc]
theorem isCons_kind {t : Tm} (h : isCons t = true) : t.kind = 5 := by
  unfold isCons at h
  simp only [Bool.and_eq_true] at h
  simpa using h.1.1
theorem occ_elems : ∀ (d : Nat) (t : Tm) (x : Int), nodes t ≤ d → (occT t x ↔ occR (elems t).1 x ∨ occT (elems t).2 x)
  | 0, t, x, h => by have := nodes_pos t; omega
  | d + 1, t, x, h => by
    by_cases hc : isCons t = true
    · have hl := isCons_len hc
      have hk := isCons_kind hc
      rw [elems_cons hc (by omega) (by omega), occT_not (by omega), occR_two hl.symm (by omega) (by omega)]
      have hn : nodes (t.args[1]'(by omega)) ≤ d := by have := nodes_lt (t := t) (k := 1) (by omega); omega
      rw [occ_elems d _ x hn]
      simp only [occR]
      rw [or_assoc]
    · have hf : isCons t = false := by
        cases e : isCons t with
        | true => exact absurd e hc
        | false => rfl
      rw [elems_not hf]
      simp [occR]
/-- Is a term an atom or a compound of a name, with so many arguments? -/
def isOfT (t : Tm) (s : ByteArray) (k : Int) : Bool := (decide (t.kind = 2) || decide (t.kind = 5)) && ((t.name.toList == s.toList) && ((t.args.length : Int) == k))
theorem isOfT_len {t : Tm} {s : ByteArray} {k : Nat} (h : isOfT t s k = true) : t.args.length = k := by
  unfold isOfT at h
  simp only [Bool.and_eq_true, beq_iff_eq] at h
  omega
theorem isOfT_name {t : Tm} {s : ByteArray} {k : Int} (h : isOfT t s k = true) : t.name = s := by
  unfold isOfT at h
  simp only [Bool.and_eq_true, beq_iff_eq] at h
  have h1 := h.2.1
  rw [ByteArray.toList_eq, ByteArray.toList_eq] at h1
  exact bytes_ext h1
/-- What a body comes to: a goal, and the number of the next variable; or a ball. -/
inductive Got where
  | ok (g : Tm) (n : Int)
  | ball (b : Tm)
def nComma : ByteArray := ⟨#[44]⟩
def nArrow : ByteArray := ⟨#[45, 62]⟩
def nSemi : ByteArray := ⟨#[59]⟩
def nBar : ByteArray := ⟨#[124]⟩
def nNot : ByteArray := ⟨#[92, 43]⟩
def nBraces : ByteArray := ⟨#[123, 125]⟩
def nCut : ByteArray := ⟨#[33]⟩
def nEmpty : ByteArray := ⟨#[91, 93]⟩
def nDot : ByteArray := ⟨#[46]⟩
def nEq : ByteArray := ⟨#[61]⟩
def nPhrase : ByteArray := ⟨#[112, 104, 114, 97, 115, 101]⟩
def nTrue : ByteArray := ⟨#[116, 114, 117, 101]⟩
def bType (s : ByteArray) (t : Tm) : Tm := cT ⟨#[116, 121, 112, 101, 95, 101, 114, 114, 111, 114]⟩ [aT s, t]
def nCallable : ByteArray := ⟨#[99, 97, 108, 108, 97, 98, 108, 101]⟩
def nList : ByteArray := ⟨#[108, 105, 115, 116]⟩
def bArity : Tm := cT ⟨#[114, 101, 112, 114, 101, 115, 101, 110, 116, 97, 116, 105, 111, 110, 95, 101, 114, 114, 111, 114]⟩ [aT ⟨#[109, 97, 120, 95, 97, 114, 105, 116, 121]⟩]
def andT (a b : Tm) : Tm := cT nComma [a, b]
def eqT (a b : Tm) : Tm := cT nEq [a, b]
/-- A list with something else at its end. -/
def endT (t e : Tm) : Option Tm := if isOfT (elems t).2 nEmpty 0 then some (listT (elems t).1 e) else none
/-- A nonterminal to which two lists are put. -/
def betT (t from' to' : Tm) : Option Tm := if t.args.length + 2 ≤ 64 then some (cT t.name (t.args ++ [from', to'])) else none
def argT (t : Tm) (k : Nat) : Tm := t.args.getD k (leaf 0 ⟨#[]⟩ ⟨#[]⟩ 0)
def bodyN : Nat → Tm → Tm → Tm → Int → Got
  | 0, t, _, _, n => .ok t n
  | d + 1, t, f, e, n =>
    if t.kind = 1 then .ok (cT nPhrase [t, f, e]) n
    else if isOfT t nComma 2 || isOfT t nArrow 2 then
      match bodyN d (argT t 0) f (vrT n) (n + 1) with
      | .ball b => .ball b
      | .ok ga n1 => match bodyN d (argT t 1) (vrT n) e n1 with
        | .ball b => .ball b
        | .ok gb n2 => .ok (cT t.name [ga, gb]) n2
    else if isOfT t nSemi 2 || isOfT t nBar 2 then
      match bodyN d (argT t 0) f e n with
      | .ball b => .ball b
      | .ok ga n1 => match bodyN d (argT t 1) f e n1 with
        | .ball b => .ball b
        | .ok gb n2 => .ok (cT nSemi [ga, gb]) n2
    else if isOfT t nNot 1 then
      match bodyN d (argT t 0) f (vrT n) (n + 1) with
      | .ball b => .ball b
      | .ok ga n1 => .ok (andT (cT t.name [ga]) (eqT f e)) n1
    else if isOfT t nBraces 0 then .ok (andT (aT nTrue) (eqT f e)) n
    else if isOfT t nBraces 1 then .ok (andT (argT t 0) (eqT f e)) n
    else if isOfT t nCut 0 then .ok (andT t (eqT f e)) n
    else if isOfT t nEmpty 0 || isOfT t nDot 2 then
      match endT t e with
      | none => .ball (bType nList t)
      | some r => .ok (eqT f r) n
    else if t.kind = 3 ∨ t.kind = 4 then .ball (bType nCallable t)
    else match betT t f e with
      | none => .ball bArity
      | some g => .ok g n
theorem occ_eqT (a b : Tm) (x : Int) : occT (eqT a b) x ↔ occT a x ∨ occT b x := by
  unfold eqT
  rw [occ_cT, occR, occR, occR]
  simp
theorem occ_andT (a b : Tm) (x : Int) : occT (andT a b) x ↔ occT a x ∨ occT b x := by
  unfold andT
  rw [occ_cT, occR, occR, occR]
  simp
theorem argT_get {t : Tm} {k : Nat} (h : k < t.args.length) : argT t k = t.args[k] := by
  unfold argT
  rw [List.getD_eq_getElem?_getD, List.getElem?_eq_getElem h]
  rfl
theorem elems_good : ∀ (d : Nat) (t : Tm), nodes t ≤ d → Good t → Good (elems t).2 ∧ ∀ u ∈ (elems t).1, Good u
  | 0, t, h, _ => by have := nodes_pos t; omega
  | d + 1, t, h, hg => by
    by_cases hc : isCons t = true
    · have hl := isCons_len hc
      rw [elems_cons hc (by omega) (by omega)]
      have h0 := hg.arg (t.args[0]'(by omega)) (List.getElem_mem _)
      have h1 := hg.arg (t.args[1]'(by omega)) (List.getElem_mem _)
      obtain ⟨a1, a2⟩ := elems_good d (t.args[1]'(by omega)) (by omega) h1.1
      refine ⟨a1, fun u hu => ?_⟩
      rcases List.mem_cons.1 hu with rfl | hu
      · exact h0.1
      · exact a2 u hu
    · have hf : isCons t = false := by
        cases e : isCons t with
        | true => exact absurd e hc
        | false => rfl
      rw [elems_not hf]
      exact ⟨hg, fun u hu => by cases hu⟩
theorem Good.named {t : Tm} (h : Good t) (hn : t.name ≠ ⟨#[]⟩) : t.kind ≠ 1 := by
  rcases h.ok.name with h1 | h1 | h1
  · omega
  · omega
  · exact absurd h1 hn
theorem endT_occ {t e r : Tm} (hg : Good t) (h : endT t e = some r) (x : Int) : occT r x ↔ occT t x ∨ occT e x := by
  unfold endT at h
  split at h
  · rename_i hi
    obtain rfl := Option.some.inj h
    rw [occ_listT, occ_elems (nodes t) t x (Nat.le_refl _)]
    have hz : ¬ occT (elems t).2 x := by
      have hl := isOfT_len (k := 0) hi
      have hnm := isOfT_name hi
      have hk : (elems t).2.kind ≠ 1 := by
        refine (elems_good (nodes t) t (Nat.le_refl _) hg).1.named ?_
        rw [hnm]
        decide +kernel
      rw [occT_not hk, List.length_eq_zero_iff.1 hl, occR]
      exact id
    constructor
    · rintro (h1 | h1)
      · exact .inl (.inl h1)
      · exact .inr h1
    · rintro ((h1 | h1) | h1)
      · exact .inl h1
      · exact absurd h1 hz
      · exact .inr h1
  · cases h
/-- Which variables stand in what a body comes to. -/
theorem body_occ : ∀ (d : Nat) (t f e : Tm) (n : Int) (g : Tm) (m : Int), nodes t ≤ d → Good t → bodyN d t f e n = .ok g m → n ≤ m ∧ m ≤ n + nodes t ∧ ∀ x, occT g x ↔ occT t x ∨ occT f x ∨ occT e x ∨ (n ≤ x ∧ x < m)
  | 0, t, _, _, _, _, _, h, _, _ => by have := nodes_pos t; omega
  | d + 1, t, f, e, n, g, m, h, hg, hb => by
    have hp := nodes_pos t
    unfold bodyN at hb
    by_cases h1 : t.kind = 1
    · rw [if_pos h1] at hb
      injection hb with e1 e2
      subst e1 e2
      refine ⟨by omega, by omega, fun x => ?_⟩
      rw [occ_cT, occR, occR, occR, occR]
      constructor
      · rintro (a | a | a | a)
        · exact .inl a
        · exact .inr (.inl a)
        · exact .inr (.inr (.inl a))
        · exact a.elim
      · rintro (a | a | a | a)
        · exact .inl a
        · exact .inr (.inl a)
        · exact .inr (.inr (.inl a))
        · omega
    rw [if_neg h1] at hb
    have two : ∀ {s : ByteArray}, isOfT t s 2 = true → ∃ (h0 : 0 < t.args.length) (h2 : 1 < t.args.length), argT t 0 = t.args[0] ∧ argT t 1 = t.args[1] ∧ Good t.args[0] ∧ Good t.args[1] ∧ nodes t = nodes t.args[0] + nodes t.args[1] + 1 ∧ ∀ x, occT t x ↔ occT t.args[0] x ∨ occT t.args[1] x := by
      intro s hi
      have hl := isOfT_len (k := 2) hi
      refine ⟨by omega, by omega, argT_get (by omega), argT_get (by omega), (hg.arg _ (List.getElem_mem _)).1, (hg.arg _ (List.getElem_mem _)).1, ?_, fun x => by rw [occT_not h1, occR_two hl.symm (by omega) (by omega)]⟩
      rw [nodes_args t, nodesL_two hl (by omega) (by omega)]
    have one : ∀ {s : ByteArray}, isOfT t s 1 = true → ∃ (h0 : 0 < t.args.length), argT t 0 = t.args[0] ∧ Good t.args[0] ∧ nodes t = nodes t.args[0] + 1 ∧ ∀ x, occT t x ↔ occT t.args[0] x := by
      intro s hi
      have hl := isOfT_len (k := 1) hi
      refine ⟨by omega, argT_get (by omega), (hg.arg _ (List.getElem_mem _)).1, ?_, fun x => by rw [occT_not h1, occR_get hl.symm (by omega)]⟩
      rw [nodes_args t, nodesL_one hl (by omega)]
    have none0 : ∀ {s : ByteArray}, isOfT t s 0 = true → ∀ x, ¬ occT t x := by
      intro s hi x
      have hl := isOfT_len (k := 0) hi
      rw [occT_not h1, List.length_eq_zero_iff.1 hl, occR]
      exact id
    by_cases c1 : (isOfT t nComma 2 || isOfT t nArrow 2) = true
    · rw [if_pos c1] at hb
      obtain ⟨h0, h2, a0, a1, g0, g1, hn, ho⟩ : ∃ (h0 : 0 < t.args.length) (h2 : 1 < t.args.length), argT t 0 = t.args[0] ∧ argT t 1 = t.args[1] ∧ Good t.args[0] ∧ Good t.args[1] ∧ nodes t = nodes t.args[0] + nodes t.args[1] + 1 ∧ ∀ x, occT t x ↔ occT t.args[0] x ∨ occT t.args[1] x := by
        have c9 := c1
        rw [Bool.or_eq_true] at c9
        rcases c9 with hh | hh
        · exact two hh
        · exact two hh
      rw [a0, a1] at hb
      have p0 := nodes_pos t.args[0]
      have p1 := nodes_pos t.args[1]
      cases r0 : bodyN d t.args[0] f (vrT n) (n + 1) with
      | ball b => rw [r0] at hb; cases hb
      | ok ga n1 =>
        rw [r0] at hb
        simp only at hb
        cases r1 : bodyN d t.args[1] (vrT n) e n1 with
        | ball b => rw [r1] at hb; cases hb
        | ok gb n2 =>
          rw [r1] at hb
          injection hb with e1 e2
          subst e1 e2
          obtain ⟨k1, k2, k3⟩ := body_occ d _ _ _ _ _ _ (by omega) g0 r0
          obtain ⟨q1, q2, q3⟩ := body_occ d _ _ _ _ _ _ (by omega) g1 r1
          refine ⟨by omega, by omega, fun x => ?_⟩
          rw [occ_cT, occR, occR, occR, k3, q3, ho, occ_vrT]
          constructor
          · rintro ((a | a | a | a) | (a | a | a | a) | a)
            · exact .inl (.inl a)
            · exact .inr (.inl a)
            · exact .inr (.inr (.inr (by omega)))
            · exact .inr (.inr (.inr (by omega)))
            · exact .inl (.inr a)
            · exact .inr (.inr (.inr (by omega)))
            · exact .inr (.inr (.inl a))
            · exact .inr (.inr (.inr (by omega)))
            · exact a.elim
          · rintro ((a | a) | a | a | a)
            · exact .inl (.inl a)
            · exact .inr (.inl (.inl a))
            · exact .inl (.inr (.inl a))
            · exact .inr (.inl (.inr (.inr (.inl a))))
            · rcases Int.lt_or_le x n1 with b | b
              · rcases Int.lt_or_le n x with c | c
                · exact .inl (.inr (.inr (.inr (by omega))))
                · exact .inl (.inr (.inr (.inl (by omega))))
              · exact .inr (.inl (.inr (.inr (.inr (by omega)))))
    rw [if_neg c1] at hb
    by_cases c2 : (isOfT t nSemi 2 || isOfT t nBar 2) = true
    · rw [if_pos c2] at hb
      obtain ⟨h0, h2, a0, a1, g0, g1, hn, ho⟩ : ∃ (h0 : 0 < t.args.length) (h2 : 1 < t.args.length), argT t 0 = t.args[0] ∧ argT t 1 = t.args[1] ∧ Good t.args[0] ∧ Good t.args[1] ∧ nodes t = nodes t.args[0] + nodes t.args[1] + 1 ∧ ∀ x, occT t x ↔ occT t.args[0] x ∨ occT t.args[1] x := by
        have c9 := c2
        rw [Bool.or_eq_true] at c9
        rcases c9 with hh | hh
        · exact two hh
        · exact two hh
      rw [a0, a1] at hb
      have p0 := nodes_pos t.args[0]
      have p1 := nodes_pos t.args[1]
      cases r0 : bodyN d t.args[0] f e n with
      | ball b => rw [r0] at hb; cases hb
      | ok ga n1 =>
        rw [r0] at hb
        simp only at hb
        cases r1 : bodyN d t.args[1] f e n1 with
        | ball b => rw [r1] at hb; cases hb
        | ok gb n2 =>
          rw [r1] at hb
          injection hb with e1 e2
          subst e1 e2
          obtain ⟨k1, k2, k3⟩ := body_occ d _ _ _ _ _ _ (by omega) g0 r0
          obtain ⟨q1, q2, q3⟩ := body_occ d _ _ _ _ _ _ (by omega) g1 r1
          refine ⟨by omega, by omega, fun x => ?_⟩
          rw [occ_cT, occR, occR, occR, k3, q3, ho]
          constructor
          · rintro ((a | a | a | a) | (a | a | a | a) | a)
            · exact .inl (.inl a)
            · exact .inr (.inl a)
            · exact .inr (.inr (.inl a))
            · exact .inr (.inr (.inr (by omega)))
            · exact .inl (.inr a)
            · exact .inr (.inl a)
            · exact .inr (.inr (.inl a))
            · exact .inr (.inr (.inr (by omega)))
            · exact a.elim
          · rintro ((a | a) | a | a | a)
            · exact .inl (.inl a)
            · exact .inr (.inl (.inl a))
            · exact .inl (.inr (.inl a))
            · exact .inl (.inr (.inr (.inl a)))
            · rcases Int.lt_or_le x n1 with b | b
              · exact .inl (.inr (.inr (.inr (by omega))))
              · exact .inr (.inl (.inr (.inr (.inr (by omega)))))
    rw [if_neg c2] at hb
    by_cases c3 : isOfT t nNot 1 = true
    · rw [if_pos c3] at hb
      obtain ⟨h0, a0, g0, hn, ho⟩ := one c3
      rw [a0] at hb
      cases r0 : bodyN d t.args[0] f (vrT n) (n + 1) with
      | ball b => rw [r0] at hb; cases hb
      | ok ga n1 =>
        rw [r0] at hb
        injection hb with e1 e2
        subst e1 e2
        obtain ⟨k1, k2, k3⟩ := body_occ d _ _ _ _ _ _ (by omega) g0 r0
        refine ⟨by omega, by omega, fun x => ?_⟩
        rw [occ_andT, occ_eqT, occ_cT, occR, occR, k3, ho, occ_vrT]
        constructor
        · rintro (((a | a | a | a) | a) | a | a)
          · exact .inl a
          · exact .inr (.inl a)
          · exact .inr (.inr (.inr (by omega)))
          · exact .inr (.inr (.inr (by omega)))
          · exact a.elim
          · exact .inr (.inl a)
          · exact .inr (.inr (.inl a))
        · rintro (a | a | a | a)
          · exact .inl (.inl (.inl a))
          · exact .inr (.inl a)
          · exact .inr (.inr a)
          · rcases Int.lt_or_le n x with c | c
            · exact .inl (.inl (.inr (.inr (.inr (by omega)))))
            · exact .inl (.inl (.inr (.inr (.inl (by omega)))))
    rw [if_neg c3] at hb
    have fin : ∀ (G : Tm), (∀ x, occT G x ↔ occT t x ∨ occT f x ∨ occT e x) → Got.ok G n = .ok g m → n ≤ m ∧ m ≤ n + nodes t ∧ ∀ x, occT g x ↔ occT t x ∨ occT f x ∨ occT e x ∨ (n ≤ x ∧ x < m) := by
      intro G hG hh
      injection hh with e1 e2
      subst e1 e2
      refine ⟨by omega, by omega, fun x => ?_⟩
      rw [hG]
      constructor
      · rintro (a | a | a)
        · exact .inl a
        · exact .inr (.inl a)
        · exact .inr (.inr (.inl a))
      · rintro (a | a | a | a)
        · exact .inl a
        · exact .inr (.inl a)
        · exact .inr (.inr a)
        · omega
    by_cases c4 : isOfT t nBraces 0 = true
    · rw [if_pos c4] at hb
      refine fin _ (fun x => ?_) hb
      have hz := none0 c4 x
      rw [occ_andT, occ_eqT]
      have ha : ¬ occT (aT nTrue) x := by
        unfold aT leaf
        rw [occT]
        simp [occR]
      constructor
      · rintro (a | a)
        · exact absurd a ha
        · exact .inr a
      · rintro (a | a)
        · exact absurd a hz
        · exact .inr a
    rw [if_neg c4] at hb
    by_cases c5 : isOfT t nBraces 1 = true
    · rw [if_pos c5] at hb
      obtain ⟨h0, a0, g0, hn, ho⟩ := one c5
      rw [a0] at hb
      exact fin _ (fun x => by rw [occ_andT, occ_eqT, ho]) hb
    rw [if_neg c5] at hb
    by_cases c6 : isOfT t nCut 0 = true
    · rw [if_pos c6] at hb
      exact fin _ (fun x => by rw [occ_andT, occ_eqT]) hb
    rw [if_neg c6] at hb
    by_cases c7 : (isOfT t nEmpty 0 || isOfT t nDot 2) = true
    · rw [if_pos c7] at hb
      cases r0 : endT t e with
      | none => rw [r0] at hb; cases hb
      | some r =>
        rw [r0] at hb
        refine fin _ (fun x => ?_) hb
        rw [occ_eqT, endT_occ hg r0]
        constructor
        · rintro (a | a | a)
          · exact .inr (.inl a)
          · exact .inl a
          · exact .inr (.inr a)
        · rintro (a | a | a)
          · exact .inr (.inl a)
          · exact .inl a
          · exact .inr (.inr a)
    rw [if_neg c7] at hb
    by_cases c8 : t.kind = 3 ∨ t.kind = 4
    · rw [if_pos c8] at hb; cases hb
    rw [if_neg c8] at hb
    cases r0 : betT t f e with
    | none => rw [r0] at hb; cases hb
    | some r =>
      rw [r0] at hb
      refine fin _ (fun x => ?_) hb
      unfold betT at r0
      split at r0
      · obtain rfl := Option.some.inj r0
        rw [occ_cT, occR_append, occR, occR, occR, occT_not h1]
        constructor
        · rintro (a | a | a | a)
          · exact .inl a
          · exact .inr (.inl a)
          · exact .inr (.inr a)
          · exact a.elim
        · rintro (a | a | a)
          · exact .inl a
          · exact .inr (.inl a)
          · exact .inr (.inr (.inl a))
      · cases r0
end Go.Proofs.YtiaddfedaikaiaaGreatDoor

namespace Go.Proofs.YtiaddfedaikaiaaGreatDoor

theorem wf_big {v : Int} (h0 : 0 ≤ v) (h1 : v ≤ 9223372036854775807) : (Lit.int .i64 v).wf = true := by
  have h2 : IntKind.i64.min = -9223372036854775808 := by decide +kernel
  have h3 : IntKind.i64.max = 9223372036854775807 := by decide +kernel
  simp [Lit.wf, h2, h3]
  omega
theorem vrT_good {n : Int} (h0 : 0 ≤ n) (h1 : n ≤ 9223372036854775807) : Good (vrT n) := leafV_good h0 (wf_big h0 h1)
theorem listT_goodD : ∀ {l : List Tm} {e : Tm}, (∀ t ∈ l, Good t) → Good e → Good (listT l e)
  | [], _, _, h => h
  | t :: l, e, hl, h => Good.comp (s := ⟨#[46]⟩) (l := [t, listT l e]) (by decide) (by decide +kernel) (by simp) (by simp) fun u hu => by
    simp only [List.mem_cons, List.not_mem_nil, or_false] at hu
    rcases hu with rfl | rfl
    · exact hl _ (by simp)
    · exact listT_goodD (fun v hv => hl v (List.mem_cons_of_mem _ hv)) h
theorem two_good {s : ByteArray} {a b : Tm} (hs : s.size ≤ 1000) (hv : vName s = true) (ha : Good a) (hb : Good b) : Good (cT s [a, b]) := Good.comp hs hv (by simp) (by simp) fun u hu => by
  simp only [List.mem_cons, List.not_mem_nil, or_false] at hu
  rcases hu with rfl | rfl
  · exact ha
  · exact hb
theorem eqT_good {a b : Tm} (ha : Good a) (hb : Good b) : Good (eqT a b) := two_good (by decide) (by decide +kernel) ha hb
theorem andT_good {a b : Tm} (ha : Good a) (hb : Good b) : Good (andT a b) := two_good (by decide) (by decide +kernel) ha hb
theorem body_good : ∀ (d : Nat) (t f e : Tm) (n : Int) (g : Tm) (m : Int), nodes t ≤ d → Good t → Good f → Good e → 0 ≤ n → n + nodes t ≤ 9223372036854775807 → bodyN d t f e n = .ok g m → Good g
  | 0, t, _, _, _, _, _, h, _, _, _, _, _, _ => by have := nodes_pos t; omega
  | d + 1, t, f, e, n, g, m, h, hg, hf, he, hn0, hn1, hb => by
    have hp := nodes_pos t
    unfold bodyN at hb
    have two : ∀ {s : ByteArray}, isOfT t s 2 = true → ∃ (h0 : 0 < t.args.length) (h2 : 1 < t.args.length), argT t 0 = t.args[0] ∧ argT t 1 = t.args[1] ∧ Good t.args[0] ∧ Good t.args[1] ∧ nodes t = nodes t.args[0] + nodes t.args[1] + 1 := by
      intro s hi
      have hl := isOfT_len (k := 2) hi
      exact ⟨by omega, by omega, argT_get (by omega), argT_get (by omega), (hg.arg _ (List.getElem_mem _)).1, (hg.arg _ (List.getElem_mem _)).1, by rw [nodes_args t, nodesL_two hl (by omega) (by omega)]⟩
    have one : ∀ {s : ByteArray}, isOfT t s 1 = true → ∃ (h0 : 0 < t.args.length), argT t 0 = t.args[0] ∧ Good t.args[0] ∧ nodes t = nodes t.args[0] + 1 := by
      intro s hi
      have hl := isOfT_len (k := 1) hi
      exact ⟨by omega, argT_get (by omega), (hg.arg _ (List.getElem_mem _)).1, by rw [nodes_args t, nodesL_one hl (by omega)]⟩
    by_cases h1 : t.kind = 1
    · rw [if_pos h1] at hb
      injection hb with e1 e2
      subst e1
      refine Good.comp (by decide) (by decide +kernel) (by simp) (by simp) fun u hu => ?_
      simp only [List.mem_cons, List.not_mem_nil, or_false] at hu
      rcases hu with rfl | rfl | rfl
      · exact hg
      · exact hf
      · exact he
    rw [if_neg h1] at hb
    by_cases c1 : (isOfT t nComma 2 || isOfT t nArrow 2) = true
    · rw [if_pos c1] at hb
      obtain ⟨h0, h2, a0, a1, g0, g1, hn⟩ : ∃ (h0 : 0 < t.args.length) (h2 : 1 < t.args.length), argT t 0 = t.args[0] ∧ argT t 1 = t.args[1] ∧ Good t.args[0] ∧ Good t.args[1] ∧ nodes t = nodes t.args[0] + nodes t.args[1] + 1 := by
        have c9 := c1
        rw [Bool.or_eq_true] at c9
        rcases c9 with hh | hh
        · exact two hh
        · exact two hh
      rw [a0, a1] at hb
      have p0 := nodes_pos t.args[0]
      have p1 := nodes_pos t.args[1]
      cases r0 : bodyN d t.args[0] f (vrT n) (n + 1) with
      | ball b => rw [r0] at hb; cases hb
      | ok ga n1 =>
        rw [r0] at hb
        simp only at hb
        cases r1 : bodyN d t.args[1] (vrT n) e n1 with
        | ball b => rw [r1] at hb; cases hb
        | ok gb n2 =>
          rw [r1] at hb
          injection hb with e1 e2
          subst e1
          obtain ⟨k1, k2, -⟩ := body_occ d _ _ _ _ _ _ (by omega) g0 r0
          have v0 := vrT_good hn0 (by omega : n ≤ 9223372036854775807)
          have ha := body_good d _ _ _ _ _ _ (by omega) g0 hf v0 (by omega) (by omega) r0
          have hb2 := body_good d _ _ _ _ _ _ (by omega) g1 v0 he (by omega) (by omega) r1
          exact two_good hg.nameOk.1 hg.nameOk.2 ha hb2
    rw [if_neg c1] at hb
    by_cases c2 : (isOfT t nSemi 2 || isOfT t nBar 2) = true
    · rw [if_pos c2] at hb
      obtain ⟨h0, h2, a0, a1, g0, g1, hn⟩ : ∃ (h0 : 0 < t.args.length) (h2 : 1 < t.args.length), argT t 0 = t.args[0] ∧ argT t 1 = t.args[1] ∧ Good t.args[0] ∧ Good t.args[1] ∧ nodes t = nodes t.args[0] + nodes t.args[1] + 1 := by
        have c9 := c2
        rw [Bool.or_eq_true] at c9
        rcases c9 with hh | hh
        · exact two hh
        · exact two hh
      rw [a0, a1] at hb
      have p0 := nodes_pos t.args[0]
      have p1 := nodes_pos t.args[1]
      cases r0 : bodyN d t.args[0] f e n with
      | ball b => rw [r0] at hb; cases hb
      | ok ga n1 =>
        rw [r0] at hb
        simp only at hb
        cases r1 : bodyN d t.args[1] f e n1 with
        | ball b => rw [r1] at hb; cases hb
        | ok gb n2 =>
          rw [r1] at hb
          injection hb with e1 e2
          subst e1
          obtain ⟨k1, k2, -⟩ := body_occ d _ _ _ _ _ _ (by omega) g0 r0
          have ha := body_good d _ _ _ _ _ _ (by omega) g0 hf he (by omega) (by omega) r0
          have hb2 := body_good d _ _ _ _ _ _ (by omega) g1 hf he (by omega) (by omega) r1
          exact two_good (by decide) (by decide +kernel) ha hb2
    rw [if_neg c2] at hb
    by_cases c3 : isOfT t nNot 1 = true
    · rw [if_pos c3] at hb
      obtain ⟨h0, a0, g0, hn⟩ := one c3
      rw [a0] at hb
      cases r0 : bodyN d t.args[0] f (vrT n) (n + 1) with
      | ball b => rw [r0] at hb; cases hb
      | ok ga n1 =>
        rw [r0] at hb
        injection hb with e1 e2
        subst e1
        have v0 := vrT_good hn0 (by omega : n ≤ 9223372036854775807)
        have ha := body_good d _ _ _ _ _ _ (by omega) g0 hf v0 (by omega) (by omega) r0
        refine andT_good (Good.comp hg.nameOk.1 hg.nameOk.2 (by simp) (by simp) fun u hu => ?_) (eqT_good hf he)
        simp only [List.mem_cons, List.not_mem_nil, or_false] at hu
        subst hu
        exact ha
    rw [if_neg c3] at hb
    by_cases c4 : isOfT t nBraces 0 = true
    · rw [if_pos c4] at hb
      injection hb with e1 e2
      subst e1
      exact andT_good (Good.atom (by decide) (by decide +kernel)) (eqT_good hf he)
    rw [if_neg c4] at hb
    by_cases c5 : isOfT t nBraces 1 = true
    · rw [if_pos c5] at hb
      obtain ⟨h0, a0, g0, hn⟩ := one c5
      rw [a0] at hb
      injection hb with e1 e2
      subst e1
      exact andT_good g0 (eqT_good hf he)
    rw [if_neg c5] at hb
    by_cases c6 : isOfT t nCut 0 = true
    · rw [if_pos c6] at hb
      injection hb with e1 e2
      subst e1
      exact andT_good hg (eqT_good hf he)
    rw [if_neg c6] at hb
    by_cases c7 : (isOfT t nEmpty 0 || isOfT t nDot 2) = true
    · rw [if_pos c7] at hb
      cases r0 : endT t e with
      | none => rw [r0] at hb; cases hb
      | some r =>
        rw [r0] at hb
        injection hb with e1 e2
        subst e1
        unfold endT at r0
        split at r0
        · obtain rfl := Option.some.inj r0
          exact eqT_good hf (listT_goodD (elems_good (nodes t) t (Nat.le_refl _) hg).2 he)
        · cases r0
    rw [if_neg c7] at hb
    by_cases c8 : t.kind = 3 ∨ t.kind = 4
    · rw [if_pos c8] at hb; cases hb
    rw [if_neg c8] at hb
    cases r0 : betT t f e with
    | none => rw [r0] at hb; cases hb
    | some r =>
      rw [r0] at hb
      injection hb with e1 e2
      subst e1
      unfold betT at r0
      split at r0
      · obtain rfl := Option.some.inj r0
        refine Good.comp hg.nameOk.1 hg.nameOk.2 (by simp) (by simpa using ‹t.args.length + 2 ≤ 64›) fun u hu => ?_
        rcases List.mem_append.1 hu with hu | hu
        · exact (hg.arg u hu).1
        · simp only [List.mem_cons, List.not_mem_nil, or_false] at hu
          rcases hu with rfl | rfl
          · exact hf
          · exact he
      · cases r0
end Go.Proofs.YtiaddfedaikaiaaGreatDoor

namespace Go.Proofs.YtiaddfedaikaiaaGreatDoor

/-- One more than the greatest of some numbers; 0, if there is none. -/
def aboveL : List Int → Int
  | [] => 0
  | x :: l => max (x + 1) (aboveL l)
theorem aboveL_nonneg : ∀ (l : List Int), 0 ≤ aboveL l
  | [] => by simp [aboveL]
  | x :: l => by have := aboveL_nonneg l; simp only [aboveL]; omega
theorem aboveL_lt : ∀ (l : List Int) (x : Int), x ∈ l → x < aboveL l
  | [], x, h => by cases h
  | y :: l, x, h => by
    simp only [aboveL]
    rcases List.mem_cons.1 h with rfl | h
    · omega
    · have := aboveL_lt l x h; omega
theorem aboveL_le : ∀ (l : List Int) (b : Int), 0 ≤ b → (∀ x ∈ l, x < b) → aboveL l ≤ b
  | [], b, h, _ => by simpa [aboveL] using h
  | y :: l, b, h, hl => by
    simp only [aboveL]
    have h1 := hl y (by simp)
    have h2 := aboveL_le l b h fun x hx => hl x (by simp [hx])
    omega
/-- The number of the first variable that a tree has not. -/
def aboveT (t : Tm) : Int := aboveL (varsT t [])
theorem occ_above {t : Tm} {x : Int} (h : occT t x) : x < aboveT t := aboveL_lt _ _ ((mem_varsT t [] x).2 (.inr h))
def nRule : ByteArray := ⟨#[45, 45, 62]⟩
def nIf : ByteArray := ⟨#[58, 45]⟩
def nDcg : ByteArray := ⟨#[100, 99, 103, 95, 114, 117, 108, 101]⟩
def bInst : Tm := aT ⟨#[105, 110, 115, 116, 97, 110, 116, 105, 97, 116, 105, 111, 110, 95, 101, 114, 114, 111, 114]⟩
def bNodes : Tm := cT ⟨#[114, 101, 115, 111, 117, 114, 99, 101, 95, 101, 114, 114, 111, 114]⟩ [aT ⟨#[110, 111, 100, 101, 115]⟩]
/-- What is wrong with what should be an atom or a compound. -/
def callE (t : Tm) : Option Tm := if t.kind = 1 then some bInst else if t.kind = 3 ∨ t.kind = 4 then some (bType nCallable t) else none
/-- What a rule comes to: a clause, and the number of the next variable; or a ball. -/
def ruleP (t : Tm) (n : Int) : Got :=
  if isOfT t nRule 2 = false then .ball (bType nDcg t)
  else if isOfT (argT t 0) nComma 2 = false then
    match callE (argT t 0) with
    | some b => .ball b
    | none => match betT (argT t 0) (vrT n) (vrT (n + 1)) with
      | none => .ball bArity
      | some hd => match bodyN (nodes (argT t 1)) (argT t 1) (vrT n) (vrT (n + 1)) (n + 2) with
        | .ball b => .ball b
        | .ok g m => .ok (cT nIf [hd, g]) m
  else match callE (argT (argT t 0) 0) with
    | some b => .ball b
    | none => match endT (argT (argT t 0) 1) (vrT (n + 2)) with
      | none => .ball (bType nList (argT (argT t 0) 1))
      | some p => match betT (argT (argT t 0) 0) (vrT n) (vrT (n + 1)) with
        | none => .ball bArity
        | some hd => match bodyN (nodes (argT t 1)) (argT t 1) (vrT n) (vrT (n + 2)) (n + 3) with
          | .ball b => .ball b
          | .ok g m => .ok (cT nIf [hd, andT g (eqT (vrT (n + 1)) p)]) m
/-- What is made: a term of not too many nodes, or a ball. -/
def madeP : Got → Got
  | .ball b => .ball b
  | .ok g m => if nodes g ≤ 4000 then .ok g m else .ball bNodes
theorem two_of {t : Tm} {s : ByteArray} (_hg : Good t) (hi : isOfT t s 2 = true) : argT t 0 ∈ t.args ∧ argT t 1 ∈ t.args ∧ nodes t = nodes (argT t 0) + nodes (argT t 1) + 1 ∧ (t.kind ≠ 1 → ∀ x, occT t x ↔ occT (argT t 0) x ∨ occT (argT t 1) x) := by
  have hl := isOfT_len (k := 2) hi
  have h0 : 0 < t.args.length := by omega
  have h1 : 1 < t.args.length := by omega
  rw [argT_get h0, argT_get h1]
  exact ⟨List.getElem_mem _, List.getElem_mem _, by rw [nodes_args t, nodesL_two hl h0 h1], fun hk x => by rw [occT_not hk, occR_two hl.symm h0 h1]⟩
theorem betT_occ {t f e g : Tm} (h1 : t.kind ≠ 1) (h : betT t f e = some g) (x : Int) : occT g x ↔ occT t x ∨ occT f x ∨ occT e x := by
  unfold betT at h
  split at h
  · obtain rfl := Option.some.inj h
    rw [occ_cT, occR_append, occR, occR, occR, occT_not h1]
    constructor
    · rintro (a | a | a | a)
      · exact .inl a
      · exact .inr (.inl a)
      · exact .inr (.inr a)
      · exact a.elim
    · rintro (a | a | a)
      · exact .inl a
      · exact .inr (.inl a)
      · exact .inr (.inr (.inl a))
  · cases h
theorem betT_good {t f e g : Tm} (ht : Good t) (hf : Good f) (he : Good e) (h : betT t f e = some g) : Good g := by
  unfold betT at h
  split at h
  · obtain rfl := Option.some.inj h
    refine Good.comp ht.nameOk.1 ht.nameOk.2 (by simp) (by simpa using ‹t.args.length + 2 ≤ 64›) fun u hu => ?_
    rcases List.mem_append.1 hu with hu | hu
    · exact (ht.arg u hu).1
    · simp only [List.mem_cons, List.not_mem_nil, or_false] at hu
      rcases hu with rfl | rfl
      · exact hf
      · exact he
  · cases h
theorem endT_good {t e r : Tm} (ht : Good t) (he : Good e) (h : endT t e = some r) : Good r := by
  unfold endT at h
  split at h
  · obtain rfl := Option.some.inj h
    exact listT_goodD (elems_good (nodes t) t (Nat.le_refl _) ht).2 he
  · cases h
theorem callE_kind {t : Tm} (h : callE t = none) : t.kind ≠ 1 ∧ t.kind ≠ 3 ∧ t.kind ≠ 4 := by
  unfold callE at h
  split at h
  · cases h
  · split at h
    · cases h
    · omega
/-- The clause of a rule: it is good, has a head and a body, and just the rule's variables, the two lists' and new ones that rise one by one. -/
theorem rule_clause {t : Tm} {n : Int} {g : Tm} {m : Int} (ht : Good t) (h0 : 0 ≤ n) (h1 : n + nodes t + 3 ≤ 9223372036854775807) (h : ruleP t n = .ok g m) :
    Good g ∧ n + 2 ≤ m ∧ m ≤ n + nodes t + 3 ∧ (∃ a b, g = cT nIf [a, b] ∧ 2 ≤ a.args.length) ∧ ∀ x, occT g x ↔ occT t x ∨ (n ≤ x ∧ x < m) := by
  unfold ruleP at h
  have kind : ∀ {u : Tm} {s : ByteArray} {k : Int}, Good u → s ≠ ⟨#[]⟩ → isOfT u s k = true → u.kind ≠ 1 := fun hu hs hi => hu.named (by rw [isOfT_name hi]; exact hs)
  by_cases c0 : isOfT t nRule 2 = false
  · rw [if_pos c0] at h; cases h
  rw [if_neg c0] at h
  have c0' : isOfT t nRule 2 = true := by simpa using c0
  obtain ⟨m0, m1, hn, ho⟩ := two_of ht c0'
  have ho := ho (kind ht (by decide) c0')
  have g0 := (ht.arg _ m0).1
  have g1 := (ht.arg _ m1).1
  have p0 := nodes_pos (argT t 0)
  have p1 := nodes_pos (argT t 1)
  have v0 := vrT_good h0 (by omega : n ≤ 9223372036854775807)
  have v1 := vrT_good (show 0 ≤ n + 1 by omega) (by omega : n + 1 ≤ 9223372036854775807)
  have v2 := vrT_good (show 0 ≤ n + 2 by omega) (by omega : n + 2 ≤ 9223372036854775807)
  by_cases c1 : isOfT (argT t 0) nComma 2 = false
  · rw [if_pos c1] at h
    cases e1 : callE (argT t 0) with
    | some b => rw [e1] at h; cases h
    | none =>
      rw [e1] at h
      simp only at h
      cases e2 : betT (argT t 0) (vrT n) (vrT (n + 1)) with
      | none => rw [e2] at h; cases h
      | some hd =>
        rw [e2] at h
        simp only at h
        cases e3 : bodyN (nodes (argT t 1)) (argT t 1) (vrT n) (vrT (n + 1)) (n + 2) with
        | ball b => rw [e3] at h; cases h
        | ok gb k =>
          rw [e3] at h
          injection h with q1 q2
          subst q1 q2
          obtain ⟨k1, k2, k3⟩ := body_occ _ _ _ _ _ _ _ (Nat.le_refl _) g1 e3
          have gg := body_good _ _ _ _ _ _ _ (Nat.le_refl _) g1 v0 v1 (by omega) (by omega) e3
          refine ⟨two_good (by decide) (by decide +kernel) (betT_good g0 v0 v1 e2) gg, by omega, by omega, ⟨hd, gb, rfl, ?_⟩, fun x => ?_⟩
          · unfold betT at e2
            split at e2
            · obtain rfl := Option.some.inj e2
              simp [cT, Tm.args]
            · cases e2
          · rw [occ_cT, occR, occR, occR, betT_occ (callE_kind e1).1 e2, k3, ho, occ_vrT, occ_vrT]
            constructor
            · rintro ((a | a | a) | (a | a | a | a) | a)
              · exact .inl (.inl a)
              · exact .inr (by omega)
              · exact .inr (by omega)
              · exact .inl (.inr a)
              · exact .inr (by omega)
              · exact .inr (by omega)
              · exact .inr (by omega)
              · exact a.elim
            · rintro ((a | a) | a)
              · exact .inl (.inl a)
              · exact .inr (.inl (.inl a))
              · rcases Int.lt_or_le n x with b | b
                · rcases Int.lt_or_le (n + 1) x with c | c
                  · exact .inr (.inl (.inr (.inr (.inr (by omega)))))
                  · exact .inl (.inr (.inr (by omega)))
                · exact .inl (.inr (.inl (by omega)))
  · rw [if_neg c1] at h
    have c1' : isOfT (argT t 0) nComma 2 = true := by simpa using c1
    obtain ⟨m2, m3, hn2, ho2⟩ := two_of g0 c1'
    have ho2 := ho2 (kind g0 (by decide) c1')
    have g2 := (g0.arg _ m2).1
    have g3 := (g0.arg _ m3).1
    cases e1 : callE (argT (argT t 0) 0) with
    | some b => rw [e1] at h; cases h
    | none =>
      rw [e1] at h
      simp only at h
      cases e4 : endT (argT (argT t 0) 1) (vrT (n + 2)) with
      | none => rw [e4] at h; cases h
      | some p =>
        rw [e4] at h
        simp only at h
        cases e2 : betT (argT (argT t 0) 0) (vrT n) (vrT (n + 1)) with
        | none => rw [e2] at h; cases h
        | some hd =>
          rw [e2] at h
          simp only at h
          cases e3 : bodyN (nodes (argT t 1)) (argT t 1) (vrT n) (vrT (n + 2)) (n + 3) with
          | ball b => rw [e3] at h; cases h
          | ok gb k =>
            rw [e3] at h
            injection h with q1 q2
            subst q1 q2
            obtain ⟨k1, k2, k3⟩ := body_occ _ _ _ _ _ _ _ (Nat.le_refl _) g1 e3
            have gg := body_good _ _ _ _ _ _ _ (Nat.le_refl _) g1 v0 v2 (by omega) (by omega) e3
            refine ⟨two_good (by decide) (by decide +kernel) (betT_good g2 v0 v1 e2) (andT_good gg (eqT_good v1 (endT_good g3 v2 e4))), by omega, by omega, ⟨hd, _, rfl, ?_⟩, fun x => ?_⟩
            · unfold betT at e2
              split at e2
              · obtain rfl := Option.some.inj e2
                simp [cT, Tm.args]
              · cases e2
            · rw [occ_cT, occR, occR, occR, betT_occ (callE_kind e1).1 e2, occ_andT, occ_eqT, endT_occ g3 e4, k3, ho, ho2, occ_vrT, occ_vrT, occ_vrT]
              constructor
              · rintro ((a | a | a) | ((a | a | a | a) | a | a | a) | a)
                · exact .inl (.inl (.inl a))
                · exact .inr (by omega)
                · exact .inr (by omega)
                · exact .inl (.inr a)
                · exact .inr (by omega)
                · exact .inr (by omega)
                · exact .inr (by omega)
                · exact .inr (by omega)
                · exact .inl (.inl (.inr a))
                · exact .inr (by omega)
                · exact a.elim
              · rintro (((a | a) | a) | a)
                · exact .inl (.inl a)
                · exact .inr (.inl (.inr (.inr (.inl a))))
                · exact .inr (.inl (.inl (.inl a)))
                · rcases Int.lt_or_le n x with b | b
                  · rcases Int.lt_or_le (n + 1) x with c | c
                    · rcases Int.lt_or_le (n + 2) x with c2 | c2
                      · exact .inr (.inl (.inl (.inr (.inr (.inr (by omega))))))
                      · exact .inr (.inl (.inl (.inr (.inr (.inl (by omega))))))
                    · exact .inl (.inr (.inr (by omega)))
                  · exact .inl (.inr (.inl (by omega)))
end Go.Proofs.YtiaddfedaikaiaaGreatDoor
