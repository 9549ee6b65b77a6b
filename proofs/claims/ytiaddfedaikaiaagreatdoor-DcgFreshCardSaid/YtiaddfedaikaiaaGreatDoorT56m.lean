/- A list's elements and rest: plain; isCompound; trees that may be are copied as they are. No condition but those that each theorem names. Walk: isCompound. No condition but those that the theorem names. Walk: append of one term to a list in memory of its own. No condition but those that each theorem names. Walk: marked writes over what a tree owns, and nothing else. No condition but those that each theorem names. Walk of the document's Same: are two trees the same? No condition but those that each theorem names. Walk of the document's SameList: are two lists of trees the same? No condition but those that each theorem names. Walk: again: a list of trees is written over by its owner, and another one is not touched. No condition but those that each theorem names. Walk: Elements of a term that may be, the program's. No condition but those that each theorem names. Walks: Elements of a term that may not be; the document's Elements. No condition but those that each theorem names. -/
import Derived.Test.YtiaddfedaikaiaaGreatDoorT53m
import Derived.Test.YtiaddfedaikaiaaGreatDoorT41
namespace Go.Proofs.YtiaddfedaikaiaaGreatDoor
open Go.RowKit

/-- Is it a list's cell? -/
def isCons (t : Tm) : Bool := (t.kind == 5) && (t.name.toList == (⟨#[46]⟩ : ByteArray).toList) && ((t.args.length : Int) == 2)
theorem isCons_len {t : Tm} (h : isCons t = true) : t.args.length = 2 := by
  unfold isCons at h
  simp only [Bool.and_eq_true, beq_iff_eq] at h
  omega
def elemsN : Nat → Tm → List Tm × Tm
  | 0, t => ([], t)
  | d + 1, t => if isCons t = true then (match t.args with | [a, b] => (a :: (elemsN d b).1, (elemsN d b).2) | _ => ([], t)) else ([], t)
/-- A list's elements, and what stands at its end. -/
def elems (t : Tm) : List Tm × Tm := elemsN (nodes t) t
theorem elemsN_same : ∀ (d d' : Nat) (t : Tm), nodes t ≤ d → nodes t ≤ d' → elemsN d t = elemsN d' t
  | 0, _, t, h, _ => by have := nodes_pos t; omega
  | _ + 1, 0, t, _, h => by have := nodes_pos t; omega
  | d + 1, d' + 1, t, h, h' => by
    unfold elemsN
    by_cases hc : isCons t = true
    · rw [if_pos hc, if_pos hc]
      have hl := isCons_len hc
      have hn := nodes_args t
      match e : t.args, hl with
      | [a, b], _ =>
        rw [e] at hn
        simp only [nodesL] at hn
        have := nodes_pos a
        simp only []
        rw [elemsN_same d d' b (by omega) (by omega)]
    · rw [if_neg hc, if_neg hc]
theorem elems_not {t : Tm} (h : isCons t = false) : elems t = ([], t) := by
  unfold elems
  have := nodes_pos t
  obtain ⟨d, hd⟩ : ∃ d, nodes t = d + 1 := ⟨nodes t - 1, by omega⟩
  rw [hd]
  unfold elemsN
  rw [if_neg (by simp [h])]
theorem elems_cons {t : Tm} (h : isCons t = true) (h0 : 0 < t.args.length) (h1 : 1 < t.args.length) : elems t = (t.args[0] :: (elems t.args[1]).1, (elems t.args[1]).2) := by
  have hl := isCons_len h
  have hn := nodes_args t
  obtain ⟨d, hd⟩ : ∃ d, nodes t = d + 1 := ⟨nodes t - 1, by have := nodes_pos t; omega⟩
  have hu : elems t = elemsN (d + 1) t := by unfold elems; rw [hd]
  rw [hu]
  unfold elemsN
  rw [if_pos h]
  revert h0 h1
  match e : t.args, hl with
  | [a, b], _ =>
    intro h0 h1
    rw [e] at hn
    simp only [nodesL] at hn
    have := nodes_pos a
    have := nodes_pos b
    simp only [List.getElem_cons_zero, List.getElem_cons_succ]
    unfold elems
    rw [elemsN_same d (nodes b) b (by omega) (Nat.le_refl _)]
/-- Some elements, and what is at the end, as a list. -/
def listT (l : List Tm) (e : Tm) : Tm := l.foldr (fun a b => .mk 5 ⟨#[46]⟩ ⟨#[]⟩ 0 0 [a, b]) e
theorem AllT.of {D : Tm → Prop} {t : Tm} (h : D t) (ha : ∀ u ∈ t.args, AllT D u) : AllT D t := by
  cases t with
  | mk k n u b v l =>
    unfold AllT
    refine ⟨h, ?_⟩
    simp only [Tm.args] at ha
    clear h
    induction l with
    | nil => unfold AllR; trivial
    | cons x l ih => unfold AllR; exact ⟨ha x (by simp), ih fun y hy => ha y (by simp [hy])⟩
theorem Good.few {t : Tm} (h : Good t) : t.args.length ≤ 64 := by
  have hn := h.node
  unfold nodeErr at hn
  have hf : fieldsOk t = true := by
    cases e : fieldsOk t with
    | true => rfl
    | false => rw [e] at hn; simp at hn
  unfold fieldsOk at hf
  simp only [Bool.and_eq_true, decide_eq_true_eq] at hf
  have har := hf.2
  split at har
  · simp at har; omega
  · simp at har; simp [har]
theorem Good.copies : ∀ (d : Nat) (t : Tm), nodes t ≤ d → Good t → AllT CpOk t
  | 0, t, h, _ => by have := nodes_pos t; omega
  | d + 1, t, h, g => by
    have ok := g.ok
    refine AllT.of ⟨fun h1 => ⟨?_, ?_, ?_, ?_⟩, g.few⟩ fun u hu => Good.copies d u (by have := (g.arg u hu).2; omega) (g.arg u hu).1
    · rcases ok.name with h | h | h
      · omega
      · omega
      · exact h
    · exact ok.num.resolve_left (by omega)
    · exact ok.bits.resolve_left (by omega)
    · exact ok.args.resolve_left (by omega)
theorem Good.cp {t : Tm} (h : Good t) : AllT CpOk t := Good.copies (nodes t) t (Nat.le_refl _) h
end Go.Proofs.YtiaddfedaikaiaaGreatDoor

namespace Go.Proofs.YtiaddfedaikaiaaGreatDoor
open Go.RowKit

set_option maxRecDepth 100000 in
set_option maxHeartbeats 2000000 in
theorem isCompound_any (t : Tm) (p : Option Addr) (cap : Nat) (s : ByteArray) (n : Int) (w : World) (_hl : t.args.length ≤ maxLen) :
    Calls Tryz.prog 160 #[t.val p cap, .string s, .int .i64 n] w fun e w' => e = .returned (.bool ((t.kind == 5) && (t.name.toList == s.toList) && ((t.args.length : Int) == n))) ∧ Below w.heap.size w w' := by
  have hB := hid (show Below w.heap.size w (w.alloc (tobj t p cap)) from (Below.refl w.heap.size w).alloc (Nat.le_refl _) (tobj t p cap))
  unfold tobj at hB
  unfold Tm.val
  unfold maxLen at _hl
  obtain ⟨r, hr⟩ : ∃ r, r = ((t.kind == 5) && (t.name.toList == s.toList) && ((t.args.length : Int) == n)) := ⟨_, rfl⟩
  rw [← hr]
  have HR := hid hr
  clear hr
  by_cases h1 : t.kind = 5
  · rw [h1] at hB HR ⊢
    by_cases h2 : t.name = s
    · subst h2
      by_cases h3 : (t.args.length : Int) = n
      · have HF := hid (show r = true by rw [HR.out, h3]; simp)
        subst h3
        clear HR h1
        go_enter Tryz.func160, Tryz.ntmps160
        go_wp2
        go_ret
        exact ⟨by rw [HF.out]; rfl, hB.out⟩
      · have hc : ((t.args.length : Int) == n) = false := beq_eq_false_iff_ne.2 h3
        have HF := hid (show r = false by rw [HR.out, hc]; simp)
        clear HR h1 h3
        go_enter Tryz.func160, Tryz.ntmps160
        go_wp2
        go_ret
        exact ⟨by rw [HF.out]; rfl, hB.out⟩
    · have hb : (t.name.toList == s.toList) = false := (names_eq _ _).trans (decide_eq_false h2)
      have HF := hid (show r = false by rw [HR.out, hb]; simp)
      clear HR h1 h2
      go_enter Tryz.func160, Tryz.ntmps160
      go_wp2
      go_ret
      exact ⟨by rw [HF.out]; rfl, hB.out⟩
  · have ha : (t.kind == 5) = false := beq_eq_false_iff_ne.2 h1
    have HF := hid (show r = false by rw [HR.out, ha]; rfl)
    clear HR h1
    go_enter Tryz.func160, Tryz.ntmps160
    go_wp2
    go_ret
    exact ⟨by rw [HF.out]; rfl, hB.out⟩
end Go.Proofs.YtiaddfedaikaiaaGreatDoor

namespace Go.Proofs.YtiaddfedaikaiaaGreatDoor
open Go.RowKit

/-- A term's cells. -/
def cellsA (t : Tm) (q : Option Addr) (c : Nat) : Array Value := #[.int .i64 t.kind, .string t.name, .string t.num, .int .u64 t.bits, .int .i64 t.var, .slice q t.args.length c]
/-- What stands ahead of an append of one term: the list, the term, and the block of its cells, made just now. -/
structure AppT (W3 W : World) (B : Nat) (q : Option Addr) (k c : Nat) (L : Row) (S : List Nat) (t : Tm) (q2 : Option Addr) (c2 : Nat) (S1 : List Nat) : Prop where
  world : W = W3.alloc (.cells (cellsA t q2 c2) 25)
  list : MineL W3 B q k c L S
  term : MineT W3 t q2 c2 S1
  few : k ≤ 4000
  base : B ≤ W3.heap.size
  apart : ∀ x ∈ S, x ∉ S1
  own : ∀ x, (Value.slice q k c).ownBlock = some x → x ∉ S1
  low : ∀ x ∈ S1, B ≤ x
/-- What stands behind it. -/
structure AppD (W3 w5 : World) (B g k c' : Nat) (L : Row) (S : List Nat) (t : Tm) (q2 : Option Addr) (c2 : Nat) (S1 : List Nat) : Prop where
  list : MineL w5 B (some ⟨g, 0, none⟩) (k + 1) c' (L ++ [(t, q2, c2)]) (S ++ S1)
  below : Below B W3 w5
theorem AppT.done {W3 W w5 : World} {B : Nat} {q : Option Addr} {k c g c' : Nat} {L : Row} {S : List Nat} {t : Tm} {q2 : Option Addr} {c2 : Nat} {S1 : List Nat} (h : AppT W3 W B q k c L S t q2 c2 S1)
    (hown : w5.ownsRow B 25 6 (.slice (some ⟨g, 0, none⟩) (k + 1) c') (k + 1) (flat L ++ cellsT (t, q2, c2))) (hgrow : W.grownBy w5 (Value.slice q k c).ownBlock) (hat : (Value.slice q k c).ownBlock = some g ∨ g = W.heap.size) : AppD W3 w5 B g k c' L S t q2 c2 S1 := by
  have hB := h.base
  have hA : Below W3.heap.size W3 W := by rw [h.world]; exact (Below.refl _ _).alloc (Nat.le_refl _) _
  have hz : W.heap.size = W3.heap.size + 1 := by rw [h.world]; simp
  have hl := h.list.same (w' := W) fun x _ hx => hA.block x hx
  have ht := h.term.same (w' := W) fun x hx => hA.block x (h.term.lt x hx)
  refine ⟨hl.snoc (x := (t, q2, c2)) ht h.apart h.own h.low hown hgrow (hat.imp id fun h => by omega), ?_⟩
  exact (hA.mono hB).grown hgrow (by omega) fun x e => ownBlock_le hl.row e
theorem AppT.run {W3 W : World} {B : Nat} {q : Option Addr} {k c : Nat} {L : Row} {S : List Nat} {t : Tm} {q2 : Option Addr} {c2 : Nat} {S1 : List Nat} (h : AppT W3 W B q k c L S t q2 c2 S1) (ty : TypeId) :
    ∃ g c' w5, (Builtin.append_ #[23, 23] ty #[.slice q k c, .slice (some ⟨W3.heap.size, 0, none⟩) 1 1]).run Tryz.prog W = .ok (.slice (some ⟨g, 0, none⟩) (k + 1) c') w5 ∧ AppD W3 w5 B g k c' L S t q2 c2 S1 := by
  obtain ⟨i0, hi, hz0, hz1, hz2⟩ := info_parts infoTerm
  have hf := h.few
  have hA : Below W3.heap.size W3 W := by rw [h.world]; exact (Below.refl _ _).alloc (Nat.le_refl _) _
  have hz : W.heap.size = W3.heap.size + 1 := by rw [h.world]; simp
  have hl := h.list.same (w' := W) fun x _ hx => hA.block x hx
  have hn : W.heap[W3.heap.size]? = some (.cells (cellsA t q2 c2) 25 (0, 0)) := by rw [h.world]; exact World.alloc_heap_new W3 _
  have hb := h.base
  obtain ⟨g, c', w5, hr, h2, h3, h4, _⟩ := run_append_lies (P := Tryz.prog) W 23 ty B 25 i0 (.agg #[.int .i64 0, .string ⟨#[]⟩, .string ⟨#[]⟩, .int .u64 0, .int .i64 0, .slice none 0 0]) 6 80 Tryz.underlying23 hi hz0 hz1 hz2 rfl (by decide) (.slice q k c) k (flat L) hl.row ⟨W3.heap.size, 0, none⟩ 1 1 (cellsT (t, q2, c2)) rfl (World.news_of_block hn) (cellsT_one _) (by decide) (by unfold maxLen; omega) (by omega) (by omega) W.heap.size rfl
  exact ⟨g, c', w5, hr, h.done h2 h3 h4⟩
/-- At the list of a plain region's operations. -/
theorem wpList_appT (W : World) {ops : Array Oper} {rest : List Oper} {o : Oper} {a : Act} {Q : Exit → Act → World → Prop} (hgd : o.guard = none) (s x : Operand)
    (ho : o.op = .call { callee := .builtin .append, args := #[s, x], argTypes := #[23, 23] })
    (h : ∃ (W3 : World) (B : Nat) (q : Option Addr) (k c : Nat) (L : Row) (S : List Nat) (t : Tm) (q2 : Option Addr) (c2 : Nat) (S1 : List Nat), a.eval s = .slice q k c ∧ a.eval x = .slice (some ⟨W3.heap.size, 0, none⟩) 1 1 ∧ AppT W3 W B q k c L S t q2 c2 S1 ∧
      ∀ g c' w5, AppD W3 w5 B g k c' L S t q2 c2 S1 → wpList Tryz.prog ops Q rest (a.put o.dst (.slice (some ⟨g, 0, none⟩) (k + 1) c')) w5) : wpList Tryz.prog ops Q (o :: rest) a W := by
  obtain ⟨W3, B, q, k, c, L, S, t, q2, c2, S1, hs, hx, hA, hk⟩ := h
  refine wpList_plain hgd fun K hK => ?_
  obtain ⟨g, c', w5, hr, hd⟩ := hA.run o.type
  unfold Oper.wp execOp
  simp only [ho, resolve, invoke, builtin, Sem.run_bind, Sem.run_pure, Result.andThen_ok, List.map_toArray, List.map_cons, List.map_nil, hs, hx, hr]
  exact hK _ _ (hk g c' w5 hd)
end Go.Proofs.YtiaddfedaikaiaaGreatDoor

namespace Go.Proofs.YtiaddfedaikaiaaGreatDoor
open Go.RowKit

/-- Nothing but some blocks has been written over. -/
structure Chg (S : List Nat) (w w' : World) : Prop where
  os : w'.os = w.os
  tape : w'.tape = w.tape
  output : w'.output = w.output
  size : w.heap.size ≤ w'.heap.size
  same : ∀ x, x < w.heap.size → x ∉ S → w'.heap[x]? = w.heap[x]?
theorem Chg.refl (S : List Nat) (w : World) : Chg S w w := ⟨rfl, rfl, rfl, Nat.le_refl _, fun _ _ _ => rfl⟩
theorem Chg.trans {S : List Nat} {A B C : World} (h : Chg S A B) (k : Chg S B C) : Chg S A C :=
  ⟨k.os.trans h.os, k.tape.trans h.tape, k.output.trans h.output, Nat.le_trans h.size k.size, fun x hx hn => (k.same x (Nat.lt_of_lt_of_le hx h.size) hn).trans (h.same x hx hn)⟩
theorem Chg.mono {S S' : List Nat} {w w' : World} (h : Chg S w w') (hs : ∀ x ∈ S, x ∈ S') : Chg S' w w' := ⟨h.os, h.tape, h.output, h.size, fun x hx hn => h.same x hx fun k => hn (hs x k)⟩
theorem Chg.of_below {S : List Nat} {w w' : World} (h : Below w.heap.size w w') : Chg S w w' := ⟨h.os, h.tape, h.output, h.size, fun x hx _ => h.block x hx⟩
theorem Chg.of_grown {S : List Nat} {w w' : World} {row : Option Nat} (h : w.grownBy w' row) (hr : ∀ x, row = some x → x ∈ S) : Chg S w w' := ⟨h.os, h.tape, h.output, h.size, fun x hx hn => h.block x hx fun e => hn (hr x e.symm)⟩
/-- A store into a block of one's own, or made since. -/
theorem Chg.set {S : List Nat} {w w' : World} (h : Chg S w w') (a : Addr) (v : Value) (ha : w.heap.size ≤ a.block ∨ a.block ∈ S) : Chg S w (w'.setCell a v) :=
  ⟨h.os, h.tape, h.output, by have := h.size; simpa using this, fun x hx hn => (Below.heap_setCell w' a v x (fun e => ha.elim (fun h => by omega) (fun h => hn (by rw [e]; exact h)))).trans (h.same x hx hn)⟩
theorem MineR.head {w : World} {l : List Tm} {b o : Nat} {S : List Nat} (k : Nat) (hk : k < l.length) (h : MineR w (l.drop k) b o S) : ∃ p cap S1 S2, S = S1 ++ S2 ∧ (∀ x ∈ S1, x ∉ S2) ∧ Six w b o l[k] p cap ∧ MineT w l[k] p cap S1 ∧ MineR w (l.drop (k + 1)) b (o + 6) S2 := by
  rw [List.drop_eq_getElem_cons hk] at h
  unfold MineR at h
  exact h
end Go.Proofs.YtiaddfedaikaiaaGreatDoor

namespace Go.Proofs.YtiaddfedaikaiaaGreatDoor
open Go.RowKit

/-- Are two nodes alike but for their arguments? -/
def likeT (t u : Tm) : Bool := (t.kind == u.kind) && (t.name.toList == u.name.toList) && (t.num.toList == u.num.toList) && (t.bits == u.bits) && (t.var == u.var) && ((t.args.length : Int) == (u.args.length : Int))
mutual
def sameT : Tm → Tm → Bool
  | .mk k n x b v l, u => likeT (.mk k n x b v l) u && sameL l u.args
def sameL : List Tm → List Tm → Bool
  | [], _ => true
  | _ :: _, [] => true
  | t :: l, u :: m => sameT t u && sameL l m
end
theorem sameT_eq (t u : Tm) : sameT t u = (likeT t u && sameL t.args u.args) := by cases t; rw [sameT]; rfl
theorem likeT_iff (t u : Tm) : likeT t u = true ↔ t.kind = u.kind ∧ t.name = u.name ∧ t.num = u.num ∧ t.bits = u.bits ∧ t.var = u.var ∧ t.args.length = u.args.length := by
  unfold likeT
  rw [names_eq, names_eq]
  simp only [Bool.and_eq_true, beq_iff_eq, decide_eq_true_eq]
  constructor
  · rintro ⟨⟨⟨⟨⟨h1, h2⟩, h3⟩, h4⟩, h5⟩, h6⟩; exact ⟨h1, h2, h3, h4, h5, by omega⟩
  · rintro ⟨h1, h2, h3, h4, h5, h6⟩; exact ⟨⟨⟨⟨⟨h1, h2⟩, h3⟩, h4⟩, h5⟩, by omega⟩
mutual
theorem sameT_iff : ∀ (t u : Tm), sameT t u = true ↔ t = u
  | .mk k n x b v l, u => by
    have hL := sameL_iff l u.args
    rw [sameT_eq, Bool.and_eq_true, likeT_iff]
    cases u with
    | mk k' n' x' b' v' l' =>
      simp only [Tm.kind, Tm.name, Tm.num, Tm.bits, Tm.var, Tm.args] at *
      constructor
      · rintro ⟨⟨rfl, rfl, rfl, rfl, rfl, h⟩, h2⟩
        rw [(hL h).1 h2]
      · intro h
        injection h with h1 h2 h3 h4 h5 h6
        subst h1 h2 h3 h4 h5 h6
        exact ⟨⟨rfl, rfl, rfl, rfl, rfl, rfl⟩, (hL rfl).2 rfl⟩
theorem sameL_iff : ∀ (l m : List Tm), l.length = m.length → (sameL l m = true ↔ l = m)
  | [], [], _ => by simp [sameL]
  | [], _ :: _, e => by simp at e
  | _ :: _, [], e => by simp at e
  | t :: l, u :: m, e => by
    have h1 := sameT_iff t u
    have h2 := sameL_iff l m (by simpa using e)
    show (sameT t u && sameL l m) = true ↔ _
    rw [Bool.and_eq_true, h1, h2]
    simp
end
theorem sameL_drop : ∀ (l m : List Tm) (k : Nat) (h : k < l.length) (h' : k < m.length), sameL (l.drop k) (m.drop k) = (sameT l[k] m[k] && sameL (l.drop (k + 1)) (m.drop (k + 1)))
  | [], _, k, h, _ => by simp at h
  | _ :: _, [], k, _, h => by simp at h
  | t :: l, u :: m, 0, _, _ => by simp [sameL]
  | t :: l, u :: m, k + 1, h, h' => by
    have := sameL_drop l m k (by simpa using h) (by simpa using h')
    simpa using this
set_option maxRecDepth 100000 in
set_option maxHeartbeats 8000000 in
theorem same_any (d : Nat) : ∀ (t u : Tm) (p q : Option Addr) (cp cq : Nat) (w : World), nodes t ≤ d → TmAt w t p → TmAt w u q →
    Calls Tryz.prog 18 #[t.val p cp, u.val q cq] w fun e w' => e = .returned (.bool (sameT t u)) ∧ Below w.heap.size w w' := by
  induction d with
  | zero => intro t u p q cp cq w h; have := nodes_pos t; omega
  | succ d ih =>
    intro t u p q cp cq w hd hT hU
    obtain ⟨W0, hW0⟩ : ∃ W0, W0 = (w.alloc (tobj t p cp)).alloc (tobj u q cq) := ⟨_, rfl⟩
    have hB := hid (show Below w.heap.size w W0 by rw [hW0]; exact ((Below.refl w.heap.size w).alloc (Nat.le_refl _) _).alloc (by simp) _)
    have HS2 := hid (show W0.heap[w.heap.size + 1]? = some (tobj u q cq) by rw [hW0]; have h := heap_alloc_new (w.alloc (tobj t p cp)) (tobj u q cq); rwa [World.size_alloc] at h)
    have HS1 := hid (show W0.heap[w.heap.size]? = some (tobj t p cp) by rw [hW0]; exact (heap_alloc_old (w.alloc (tobj t p cp)) _ (by simp)).trans (heap_alloc_new w _))
    have HT := hid (hT.keep hB.out)
    have HU := hid (hU.keep hB.out)
    have HNE := hid (fun k (h : k < t.args.length) => (show nodes t.args[k] ≤ d by have := nodes_lt h; omega))
    have hlt := hT.len
    have hlu := hU.len
    unfold maxLen at hlt hlu
    obtain ⟨x0, x1, x2, x3, x4, x5⟩ := six_of HS1.out
    obtain ⟨y0, y1, y2, y3, y4, y5⟩ := six_of HS2.out
    have SX := hid (show ∀ W : World, Below W0.heap.size W0 W → (W.cell? ⟨w.heap.size, 5, none⟩ = some (.slice p t.args.length cp) ∧ W.cell? ⟨w.heap.size + 1, 5, none⟩ = some (.slice q u.args.length cq)) from fun W h =>
      ⟨(six_of (obj_keep HS1.out h)).c5, (six_of (obj_keep HS2.out h)).c5⟩)
    obtain ⟨r, hr⟩ : ∃ r, r = sameT t u := ⟨_, rfl⟩
    rw [← hr]
    have HR := hid (hr.trans (sameT_eq t u))
    clear hr hT hU HS1 HS2
    unfold tobj at hW0
    unfold Tm.val at ih ⊢
    have IH := hid ih
    clear ih
    by_cases n0 : t.kind = u.kind
    rotate_left
    · have hl : likeT t u = false := by
        cases h : likeT t u with
        | false => rfl
        | true => exact absurd ((likeT_iff t u).1 h).1 n0
      have HF := hid (show r = false by rw [HR.out, hl]; rfl)
      have c0 : (t.kind == u.kind) = false := beq_eq_false_iff_ne.2 n0
      have k0 : (t.kind != u.kind) = true := by rw [bne, c0]; rfl
      clear HR HNE IH HT HU SX hl n0
      go_enter Tryz.func18, Tryz.ntmps18
      go_wp2_with fail
      go_ret
      exact ⟨by rw [HF.out]; rfl, ((Below.refl w.heap.size w).alloc (Nat.le_refl _) _).alloc (by simp) _⟩
    have E0 := hid n0
    clear n0
    rw [← E0.out] at y0 hW0 ⊢
    by_cases n1 : t.name = u.name
    rotate_left
    · have hl : likeT t u = false := by
        cases h : likeT t u with
        | false => rfl
        | true => exact absurd ((likeT_iff t u).1 h).2.1 n1
      have HF := hid (show r = false by rw [HR.out, hl]; rfl)
      have c1 : (t.name.toList == u.name.toList) = false := (names_eq _ _).trans (decide_eq_false n1)
      have k1 : (t.name.toList != u.name.toList) = true := by rw [bne, c1]; rfl
      clear HR HNE IH HT HU SX hl n1
      go_enter Tryz.func18, Tryz.ntmps18
      go_wp2_with fail
      go_ret
      exact ⟨by rw [HF.out]; rfl, ((Below.refl w.heap.size w).alloc (Nat.le_refl _) _).alloc (by simp) _⟩
    have E1 := hid n1
    clear n1
    rw [← E1.out] at y1 hW0 ⊢
    by_cases n2 : t.num = u.num
    rotate_left
    · have hl : likeT t u = false := by
        cases h : likeT t u with
        | false => rfl
        | true => exact absurd ((likeT_iff t u).1 h).2.2.1 n2
      have HF := hid (show r = false by rw [HR.out, hl]; rfl)
      have c2 : (t.num.toList == u.num.toList) = false := (names_eq _ _).trans (decide_eq_false n2)
      have k2 : (t.num.toList != u.num.toList) = true := by rw [bne, c2]; rfl
      clear HR HNE IH HT HU SX hl n2
      go_enter Tryz.func18, Tryz.ntmps18
      go_wp2_with fail
      go_ret
      exact ⟨by rw [HF.out]; rfl, ((Below.refl w.heap.size w).alloc (Nat.le_refl _) _).alloc (by simp) _⟩
    have E2 := hid n2
    clear n2
    rw [← E2.out] at y2 hW0 ⊢
    by_cases n3 : t.bits = u.bits
    rotate_left
    · have hl : likeT t u = false := by
        cases h : likeT t u with
        | false => rfl
        | true => exact absurd ((likeT_iff t u).1 h).2.2.2.1 n3
      have HF := hid (show r = false by rw [HR.out, hl]; rfl)
      have c3 : (t.bits == u.bits) = false := beq_eq_false_iff_ne.2 n3
      have k3 : (t.bits != u.bits) = true := by rw [bne, c3]; rfl
      clear HR HNE IH HT HU SX hl n3
      go_enter Tryz.func18, Tryz.ntmps18
      go_wp2_with fail
      go_ret
      exact ⟨by rw [HF.out]; rfl, ((Below.refl w.heap.size w).alloc (Nat.le_refl _) _).alloc (by simp) _⟩
    have E3 := hid n3
    clear n3
    rw [← E3.out] at y3 hW0 ⊢
    by_cases n4 : t.var = u.var
    rotate_left
    · have hl : likeT t u = false := by
        cases h : likeT t u with
        | false => rfl
        | true => exact absurd ((likeT_iff t u).1 h).2.2.2.2.1 n4
      have HF := hid (show r = false by rw [HR.out, hl]; rfl)
      have c4 : (t.var == u.var) = false := beq_eq_false_iff_ne.2 n4
      have k4 : (t.var != u.var) = true := by rw [bne, c4]; rfl
      clear HR HNE IH HT HU SX hl n4
      go_enter Tryz.func18, Tryz.ntmps18
      go_wp2_with fail
      go_ret
      exact ⟨by rw [HF.out]; rfl, ((Below.refl w.heap.size w).alloc (Nat.le_refl _) _).alloc (by simp) _⟩
    have E4 := hid n4
    clear n4
    rw [← E4.out] at y4 hW0 ⊢
    by_cases n5 : t.args.length = u.args.length
    rotate_left
    · have hl : likeT t u = false := by
        cases h : likeT t u with
        | false => rfl
        | true => exact absurd ((likeT_iff t u).1 h).2.2.2.2.2 n5
      have HF := hid (show r = false by rw [HR.out, hl]; rfl)
      have c5 : ((t.args.length : Int) == (u.args.length : Int)) = false := beq_eq_false_iff_ne.2 (by omega)
      have k5 : ((t.args.length : Int) != (u.args.length : Int)) = true := by rw [bne, c5]; rfl
      clear HR HNE IH HT HU SX hl n5
      go_enter Tryz.func18, Tryz.ntmps18
      go_wp2_with fail
      go_ret
      exact ⟨by rw [HF.out]; rfl, ((Below.refl w.heap.size w).alloc (Nat.le_refl _) _).alloc (by simp) _⟩
    have E5 := hid n5
    clear n5
    rw [← E5.out] at y5 hW0 ⊢
    have hlen := E5
    have HR2 := hid (show r = sameL (t.args.drop 0) (u.args.drop 0) by rw [HR.out, (likeT_iff t u).2 ⟨E0.out, E1.out, E2.out, E3.out, E4.out, E5.out⟩]; rfl)
    clear HR
    go_enter Tryz.func18, Tryz.ntmps18
    go_wp2_with fail
    rw [← hW0]
    have R0 := hid (Below.refl W0.heap.size W0)
    clear hW0 x0 x1 x2 x3 x4 x5 y0 y1 y2 y3 y4 y5
    go_loopw [5] (fun i wr => ∃ k : Nat, k ≤ t.args.length ∧ i = .int .i64 (k : Int) ∧ Hid (r = sameL (t.args.drop k) (u.args.drop k)) ∧ Hid (Below W0.heap.size W0 wr)) (fun i _ => t.args.length - (intOf i).toNat)
    case atStart => exact ⟨0, by omega, rfl, HR2, R0⟩
    case round =>
            clear HR2 R0
            obtain ⟨k, hk, rfl, hr, hBr⟩ := hrel
            obtain ⟨g5, k5⟩ := SX.out wr hBr.out
            by_cases hlt : k < t.args.length
            · have hlt2 : k < u.args.length := by rw [← hlen.out]; exact hlt
              have hk0 : (0 : Int) ≤ (k : Int) := by omega
              have hk1 : (k : Int) < (t.args.length : Int) := by omega
              have hk2 : (k : Int) < (u.args.length : Int) := by omega
              obtain ⟨b, o, rfl, e1, c1', hs1, ht1⟩ := (HT.out.keep hBr.out).get k hlt
              obtain ⟨b2, o2, rfl, e2, c2', hs2, ht2⟩ := (HU.out.keep hBr.out).get k hlt2
              have HCALL := hid (fun (W : World) (h : Below wr.heap.size wr W) => IH.out t.args[k] u.args[k] e1 e2 c1' c2' W (HNE.out k hlt) (ht1.keep h) (ht2.keep h))
              have HRK := hid (hr.out.trans (sameL_drop t.args u.args k hlt hlt2))
              have RR := hid (Below.refl wr.heap.size wr)
              clear hr ht1 ht2
              generalize t.args[k] = t1 at *
              generalize u.args[k] = u1 at *
              generalize sameT t1 u1 = z at *
              have SR := hid (show ∀ W : World, Below wr.heap.size wr W → (W.cell? ⟨w.heap.size, 5, none⟩ = some (.slice (some ⟨b, o, none⟩) t.args.length cp) ∧ W.cell? ⟨w.heap.size + 1, 5, none⟩ = some (.slice (some ⟨b2, o2, none⟩) u.args.length cq) ∧ W.cell? ⟨b, o + k * 6, none⟩ = some (.int .i64 t1.kind) ∧ W.cell? ⟨b, o + k * 6 + 1, none⟩ = some (.string t1.name) ∧ W.cell? ⟨b, o + k * 6 + 2, none⟩ = some (.string t1.num) ∧ W.cell? ⟨b, o + k * 6 + 3, none⟩ = some (.int .u64 t1.bits) ∧ W.cell? ⟨b, o + k * 6 + 4, none⟩ = some (.int .i64 t1.var) ∧ W.cell? ⟨b, o + k * 6 + 5, none⟩ = some (.slice e1 t1.args.length c1') ∧ W.cell? ⟨b2, o2 + k * 6, none⟩ = some (.int .i64 u1.kind) ∧ W.cell? ⟨b2, o2 + k * 6 + 1, none⟩ = some (.string u1.name) ∧ W.cell? ⟨b2, o2 + k * 6 + 2, none⟩ = some (.string u1.num) ∧ W.cell? ⟨b2, o2 + k * 6 + 3, none⟩ = some (.int .u64 u1.bits) ∧ W.cell? ⟨b2, o2 + k * 6 + 4, none⟩ = some (.int .i64 u1.var) ∧ W.cell? ⟨b2, o2 + k * 6 + 5, none⟩ = some (.slice e2 u1.args.length c2')) from fun W h =>
                have m1 := hs1.keep h
                have m2 := hs2.keep h
                have n := SX.out W (bl_call hBr.out h)
                ⟨n.1, n.2, m1.c0, m1.c1, m1.c2, m1.c3, m1.c4, m1.c5, m2.c0, m2.c1, m2.c2, m2.c3, m2.c4, m2.c5⟩)
              have sr := SR.out wr RR.out
              clear hs1 hs2
              cases z
              · have HRN := hid (show r = false from HRK.out)
                clear HRK
                go_wp2_with fail
                go_region_held3 (fun w' => w'.cell? ⟨w.heap.size, 5, none⟩ = some (.slice (some ⟨b, o, none⟩) t.args.length cp) ∧ w'.cell? ⟨w.heap.size + 1, 5, none⟩ = some (.slice (some ⟨b2, o2, none⟩) u.args.length cq) ∧ w'.cell? ⟨b, o + k * 6, none⟩ = some (.int .i64 t1.kind) ∧ w'.cell? ⟨b, o + k * 6 + 1, none⟩ = some (.string t1.name) ∧ w'.cell? ⟨b, o + k * 6 + 2, none⟩ = some (.string t1.num) ∧ w'.cell? ⟨b, o + k * 6 + 3, none⟩ = some (.int .u64 t1.bits) ∧ w'.cell? ⟨b, o + k * 6 + 4, none⟩ = some (.int .i64 t1.var) ∧ w'.cell? ⟨b, o + k * 6 + 5, none⟩ = some (.slice e1 t1.args.length c1') ∧ w'.cell? ⟨b2, o2 + k * 6, none⟩ = some (.int .i64 u1.kind) ∧ w'.cell? ⟨b2, o2 + k * 6 + 1, none⟩ = some (.string u1.name) ∧ w'.cell? ⟨b2, o2 + k * 6 + 2, none⟩ = some (.string u1.num) ∧ w'.cell? ⟨b2, o2 + k * 6 + 3, none⟩ = some (.int .u64 u1.bits) ∧ w'.cell? ⟨b2, o2 + k * 6 + 4, none⟩ = some (.int .i64 u1.var) ∧ w'.cell? ⟨b2, o2 + k * 6 + 5, none⟩ = some (.slice e2 u1.args.length c2'))
                  (first
                    | (with_reducible exact sr)
                    | (with_reducible exact SR.out _ (bl_drew RR.out))
                    | (with_reducible exact SR.out _ C2.out)
                    | fail)
                  ((first
                    | (go_at_call 18; (with_reducible refine (HCALL.out _ (bl_drew RR.out)).mono ?_); rintro e w2 ⟨rfl, hb2⟩; have C2 := hid (bl_call (bl_drew RR.out) hb2); clear hb2)))
                go_wp2
                go_ret
                exact ⟨by rw [HRN.out]; rfl, hB.out.trans ((bl_call hBr.out C2.out).mono hB.out.size)⟩
              · have HRN := hid (show r = sameL (t.args.drop (k + 1)) (u.args.drop (k + 1)) from HRK.out)
                clear HRK
                go_wp2_with fail
                go_region_held3 (fun w' => w'.cell? ⟨w.heap.size, 5, none⟩ = some (.slice (some ⟨b, o, none⟩) t.args.length cp) ∧ w'.cell? ⟨w.heap.size + 1, 5, none⟩ = some (.slice (some ⟨b2, o2, none⟩) u.args.length cq) ∧ w'.cell? ⟨b, o + k * 6, none⟩ = some (.int .i64 t1.kind) ∧ w'.cell? ⟨b, o + k * 6 + 1, none⟩ = some (.string t1.name) ∧ w'.cell? ⟨b, o + k * 6 + 2, none⟩ = some (.string t1.num) ∧ w'.cell? ⟨b, o + k * 6 + 3, none⟩ = some (.int .u64 t1.bits) ∧ w'.cell? ⟨b, o + k * 6 + 4, none⟩ = some (.int .i64 t1.var) ∧ w'.cell? ⟨b, o + k * 6 + 5, none⟩ = some (.slice e1 t1.args.length c1') ∧ w'.cell? ⟨b2, o2 + k * 6, none⟩ = some (.int .i64 u1.kind) ∧ w'.cell? ⟨b2, o2 + k * 6 + 1, none⟩ = some (.string u1.name) ∧ w'.cell? ⟨b2, o2 + k * 6 + 2, none⟩ = some (.string u1.num) ∧ w'.cell? ⟨b2, o2 + k * 6 + 3, none⟩ = some (.int .u64 u1.bits) ∧ w'.cell? ⟨b2, o2 + k * 6 + 4, none⟩ = some (.int .i64 u1.var) ∧ w'.cell? ⟨b2, o2 + k * 6 + 5, none⟩ = some (.slice e2 u1.args.length c2'))
                  (first
                    | (with_reducible exact sr)
                    | (with_reducible exact SR.out _ (bl_drew RR.out))
                    | (with_reducible exact SR.out _ C2.out)
                    | fail)
                  ((first
                    | (go_at_call 18; (with_reducible refine (HCALL.out _ (bl_drew RR.out)).mono ?_); rintro e w2 ⟨rfl, hb2⟩; have C2 := hid (bl_call (bl_drew RR.out) hb2); clear hb2)))
                go_wp2
                go_roundw
                case rel => exact ⟨k + 1, by omega, by go_num, HRN, hid (bl_call hBr.out C2.out)⟩
                case measure => simp [intOf]; omega
            · obtain rfl : k = t.args.length := by omega
              have HRN := hid (show r = true by rw [hr.out, List.drop_length]; simp [sameL])
              clear hr hlt
              go_wp2_with fail
              go_ret
              exact ⟨by rw [HRN.out]; rfl, hB.out.trans (hBr.out.mono hB.out.size)⟩
end Go.Proofs.YtiaddfedaikaiaaGreatDoor

namespace Go.Proofs.YtiaddfedaikaiaaGreatDoor
open Go.RowKit

/-- A list of trees lies from somewhere on. -/
def ListAt (w : World) (l : List Tm) (p : Option Addr) : Prop := l = [] ∨ ∃ b o, p = some ⟨b, o, none⟩ ∧ RowT w l b o
theorem ListAt.keep {w w' : World} {l : List Tm} {p : Option Addr} (h : ListAt w l p) (hb : Below w.heap.size w w') : ListAt w' l p := by
  rcases h with h | ⟨b, o, e, h⟩
  · exact .inl h
  · exact .inr ⟨b, o, e, RowT.keep hb h⟩
theorem ListAt.get {w : World} {l : List Tm} {p : Option Addr} (h : ListAt w l p) (k : Nat) (hk : k < l.length) : ∃ b o, p = some ⟨b, o, none⟩ ∧ ∃ q cap, Six w b (o + k * 6) l[k] q cap ∧ TmAt w l[k] q := by
  rcases h with rfl | ⟨b, o, e, h⟩
  · simp at hk
  · exact ⟨b, o, e, h.get k hk⟩
end Go.Proofs.YtiaddfedaikaiaaGreatDoor

namespace Go.Proofs.YtiaddfedaikaiaaGreatDoor
open Go.RowKit

/-- A row of terms whose block one owns, whatever it holds. -/
def RowOk (w : World) (q : Option Addr) (n c : Nat) : Prop := (q = none ∧ n = 0 ∧ c = 0) ∨ ∃ g arr, q = some ⟨g, 0, none⟩ ∧ w.heap[g]? = some (.cells arr 25 (0, 0)) ∧ arr.size = c * 6 ∧ n ≤ c ∧ c ≤ maxLen
theorem RowOk.at_ {w : World} {q : Option Addr} {n c g : Nat} (h : RowOk w q n c) (e : (Value.slice q n c).ownBlock = some g) : q = some ⟨g, 0, none⟩ := by
  rcases h with ⟨rfl, rfl, rfl⟩ | ⟨g', arr, rfl, _⟩
  · simp [Value.ownBlock] at e
  · have : g' = g := by simpa [Value.ownBlock] using e
    rw [this]
/-- The blocks that a list owns. -/
def foot (q : Option Addr) (S : List Nat) : List Nat := match q with | some a => a.block :: S | none => S
/-- A list of terms in memory of its own. -/
structure ListM (w : World) (q : Option Addr) (n c : Nat) (l : List Tm) (S : List Nat) : Prop where
  len : n = l.length
  row : RowOk w q n c
  mine : ∀ g, q = some ⟨g, 0, none⟩ → g ∉ S ∧ MineR w l g 0 S
  lt : ∀ x ∈ foot q S, x < w.heap.size
theorem MineL.listM {w : World} {B : Nat} {q : Option Addr} {n c : Nat} {L : Row} {S : List Nat} (h : MineL w B q n c L S) : ListM w q n c (L.map (·.1)) S := by
  refine ⟨by rw [List.length_map, h.length], ?_, fun g hg => ?_, fun x hx => ?_⟩
  · rcases h.rowR with ⟨_, h1, h2, _, h3⟩ | ⟨b, arr, h1, _, h2, h3, h4, h5, _⟩
    · exact .inl ⟨h1, h3, h2⟩
    · exact .inr ⟨b, arr, h1, h3, h4, h5.1, h5.2⟩
  · rcases h.rowR with ⟨_, h1, _⟩ | ⟨b, arr, h1, _, h2, h3, h4, h5, h6⟩
    · rw [h1] at hg; cases hg
    · rw [h1] at hg
      cases hg
      exact ⟨h2, h6⟩
  · unfold foot at hx
    cases q with
    | none => exact h.own.lt x hx
    | some a =>
      rcases List.mem_cons.1 hx with rfl | hx
      · exact ownBlock_lt h.row rfl
      · exact h.own.lt x hx
theorem Chg.grown {S : List Nat} {w w1 w2 : World} {row : Option Nat} (h : Chg S w w1) (hg : w1.grownBy w2 row) (hr : ∀ x, row = some x → w.heap.size ≤ x ∨ x ∈ S) : Chg S w w2 :=
  ⟨hg.os.trans h.os, hg.tape.trans h.tape, hg.output.trans h.output, Nat.le_trans h.size hg.size, fun x hx hn => (hg.block x (Nat.lt_of_lt_of_le hx h.size) (fun e => by
    rcases hr x e.symm with k | k
    · omega
    · exact hn k)).trans (h.same x hx hn)⟩
end Go.Proofs.YtiaddfedaikaiaaGreatDoor

namespace Go.Proofs.YtiaddfedaikaiaaGreatDoor
open Go.RowKit

/-- A slice's length. -/
def lenS : Value → Nat | .slice _ n _ => n | _ => 0
theorem results_mid {fn : Func} {a p u : Tmp} {b : Nat} {t : Tm} {q : Option Addr} {cap : Nat} (h : fn.results = #[.tmp a, .cell p 25, .tmp u]) (tmps : Array Value) (W : World) (x y : Value) (hp : tmps.getD a undef = x ∧ tmps.getD p undef = .pointer (some ⟨b, 0, none⟩) ∧ tmps.getD u undef = y) (hg : W.heap[b]? = some (tobj t q cap)) :
    (results fn tmps).run Tryz.prog W = .ok (.tuple #[x, t.val q cap, y]) W := by
  have hl := run_loadVar_row (P := Tryz.prog) W b 25 25 _ _ _ hg Tryz.underlying25 rfl (by kernel_rfl)
  obtain ⟨h1, h2, h3⟩ := hp
  have h1' : tmps[a]?.getD undef = x := by simpa using h1
  have h2' : tmps[p]?.getD undef = .pointer (some ⟨b, 0, none⟩) := by simpa using h2
  have h3' : tmps[u]?.getD undef = y := by simpa using h3
  simp [results, h, h1', h2', h3', asAddr, Result.andThen, hl, Tm.val]
/-- Some elements and a rest, in memory of their own. -/
structure ElemsAt (B : Nat) (w' : World) (t : Tm) (v : Value) (y : Value) (L : Row) (S S2 : List Nat) : Prop where
  list : ∃ q k c, v = .slice q k c ∧ MineL w' B q k c L S ∧ (∀ x ∈ S2, (Value.slice q k c).ownBlock ≠ some x)
  rest : ∃ r c, y = (elems t).2.val r c ∧ MineT w' (elems t).2 r c S2
  apart : ∀ x ∈ S, x ∉ S2
  low : ∀ x ∈ S2, B ≤ x
  same : L.map (·.1) = (elems t).1
set_option maxRecDepth 100000 in
set_option maxHeartbeats 8000000 in
theorem elements_good (t : Tm) (p : Option Addr) (cap : Nat) (w : World) (hT : TmAt w t p) (hV : Valid t) (hX : Utf w) :
    Calls Tryz.prog 145 #[t.val p cap] w fun e w' => ∃ v y L S S2, e = .returned (.tuple #[v, y, .int .i64 0]) ∧ ElemsAt w.heap.size w' t v y L S S2 ∧ Below w.heap.size w w' := by
  obtain ⟨W0, hW0⟩ : ∃ W0, W0 = (w.alloc (.cells #[.int .i64 t.kind, .string t.name, .string t.num, .int .u64 t.bits, .int .i64 t.var, .slice p t.args.length cap] 25)).alloc (.cells #[.int .i64 0, .string ⟨#[]⟩, .string ⟨#[]⟩, .int .u64 0, .int .i64 0, .slice none 0 0] 25) := ⟨_, rfl⟩
  have hB := hid (show Below w.heap.size w W0 by rw [hW0]; exact ((Below.refl w.heap.size w).alloc (Nat.le_refl _) _).alloc (by simp) _)
  have P0 := hid (show W0.heap[w.heap.size]? = some (tobj t p cap) by rw [hW0]; exact (heap_alloc_old (w.alloc _) _ (by simp)).trans (heap_alloc_new w _))
  have P1 := hid (show W0.heap[w.heap.size + 1]? = some (.cells #[.int .i64 0, .string ⟨#[]⟩, .string ⟨#[]⟩, .int .u64 0, .int .i64 0, .slice none 0 0] 25 (0, 0)) by
    rw [hW0]
    have h := heap_alloc_new (w.alloc (.cells #[.int .i64 t.kind, .string t.name, .string t.num, .int .u64 t.bits, .int .i64 t.var, .slice p t.args.length cap] 25)) (.cells #[.int .i64 0, .string ⟨#[]⟩, .string ⟨#[]⟩, .int .u64 0, .int .i64 0, .slice none 0 0] 25)
    rwa [World.size_alloc] at h)
  have hlt := hT.len
  unfold maxLen at hlt
  have CK := hid (show Calls Tryz.prog 66 #[t.val p cap] W0 fun e w' => e = .returned (.int .i64 0) ∧ Below W0.heap.size W0 w' by
    have h := check_any vName numOk bitsOk DomA t p cap W0 (hT.keep hB.out) (oracleA _ (hX.keep hB.out)) hV.1
    rwa [hV.2] at h)
  have HT := hid hT
  have HC := hid hV.good.cp
  have HF := hid (show nodes t ≤ 4000 by
    have h := hV.2
    unfold checkErr at h
    split at h
    · cases h
    · omega)
  obtain ⟨i0, hi, hz0, hz1, hz2⟩ := info_parts infoTerm
  unfold Tm.val at CK ⊢
  clear hT hV hX
  go_enter Tryz.func145, Tryz.ntmps145
  go_wp2_with (first
    | (go_at_call 66; rw [← hW0]; (with_reducible refine CK.out.mono ?_); rintro e w1 ⟨rfl, hb1⟩; have Q0 := hid (obj_keep P0.out hb1); have Q1 := hid ((hb1.block _ (lt_of_block P1.out)).trans P1.out); have B1 := hid (hB.out.trans (hb1.mono hB.out.size)); clear hb1 CK P0 P1 hB hW0)
    | fail)
  go_loopw [6] (fun x wr => ∃ (k : Nat) (L : Row) (S : List Nat) (q : Option Addr) (c : Nat) (u : Tm) (pu : Option Addr) (cu : Nat), x = .slice q k c ∧ Hid (wr.heap[w.heap.size]? = some (tobj u pu cu)) ∧ Hid (wr.heap[w.heap.size + 1]? = some (.cells #[.int .i64 0, .string ⟨#[]⟩, .string ⟨#[]⟩, .int .u64 0, .int .i64 0, .slice none 0 0] 25 (0, 0))) ∧ Hid (MineL wr (w.heap.size + 2) q k c L S) ∧ Hid (TmAt w u pu) ∧ Hid (AllT CpOk u) ∧ Hid (k + nodes u ≤ nodes t) ∧ Hid (elems t = (L.map (·.1) ++ (elems u).1, (elems u).2)) ∧ Hid (Below w.heap.size w wr)) (fun x _ => nodes t - lenS x)
  case atStart => exact ⟨0, [], [], none, 0, t, p, cap, rfl, Q0, Q1, hid (MineL.nil _ _), HT, HC, hid (by omega), hid (by simp), B1⟩
  case round =>
    clear Q0 Q1 B1 HT HC
    obtain ⟨k, L, S, q, c, u, pu, cu, rfl, P0, P1, HML, HT, HC, HN, HE, hBr⟩ := hrel
    obtain ⟨x0, x1, x2, x3, x4, x5⟩ := six_of P0.out
    have hlu := HT.out.len
    unfold maxLen at hlu
    have IC := hid (fun W => isCompound_any u pu cu ⟨#[46]⟩ 2 W HT.out.len)
    unfold Tm.val at IC
    obtain ⟨z, hz⟩ : ∃ z, z = isCons u := ⟨_, rfl⟩
    have HZ := hid hz
    have IC2 := hid (show ∀ W, Calls Tryz.prog 160 #[.agg #[.int .i64 u.kind, .string u.name, .string u.num, .int .u64 u.bits, .int .i64 u.var, .slice pu u.args.length cu], .string ⟨#[46]⟩, .int .i64 2] W fun e w' => e = .returned (.bool z) ∧ Below W.heap.size W w' from fun W => by rw [HZ.out]; exact IC.out W)
    clear IC hz
    cases z
    · have HE2 := hid (HE.out.trans (by rw [elems_not HZ.out.symm]))
      have CF := hid (fun W (h : Below w.heap.size w W) => copyOf_any u pu cu W (HT.out.keep h) HC.out)
      have HV := hid (show ∀ q c, u.val q c = .agg #[.int .i64 u.kind, .string u.name, .string u.num, .int .u64 u.bits, .int .i64 u.var, .slice q u.args.length c] from fun _ _ => rfl)
      unfold Tm.val at CF
      go_wp2_with (first
        | (go_at_call 160; (with_reducible refine (IC2.out _).mono ?_); rintro e w2 ⟨rfl, hb2⟩; have B2 := hid (hBr.out.trans (hb2.mono hBr.out.size)); have BR2 := hid hb2; have Q0 := hid (obj_keep P0.out hb2); clear hb2 x0 x1 x2 x3 x4 x5; obtain ⟨x0, x1, x2, x3, x4, x5⟩ := six_of Q0.out)
        | (go_at_call 126; (with_reducible refine (CF.out _ B2.out).mono ?_); rintro e w3 ⟨q2, c2, S2, rfl, hm, hS1, hb3⟩; have HM1 := hid hm; have HS1 := hid hS1; have BR3 := hid (BR2.out.trans (hb3.mono BR2.out.size)); have B3 := hid (B2.out.trans (hb3.mono B2.out.size)); have R1 := hid ((BR3.out.block _ (lt_of_block P1.out)).trans P1.out); clear hb3 hm hS1; obtain ⟨⟨z0, z1, z2, z3, z4, z5⟩, ⟨f0, f1, f2, f3, f4, f5⟩⟩ := six_free R1.out)
        | fail)
      have h1 := set6 R1.out (.int .i64 u.kind) (.string u.name) (.string u.num) (.int .u64 u.bits) (.int .i64 u.var) (.slice q2 u.args.length c2)
      have hg := set6_grown w3 (w.heap.size + 1) (.int .i64 u.kind) (.string u.name) (.string u.num) (.int .u64 u.bits) (.int .i64 u.var) (.slice q2 u.args.length c2)
      have hlw := lt_of_block P1.out
      have hz2 := BR2.out.size
      refine bodyPost_ret (results_mid (b := w.heap.size + 1) (t := u) (q := q2) (cap := c2) rfl _ _ (.slice q k c) (.int .i64 0) ⟨by rfl, by rfl, by rfl⟩ h1) rfl ⟨_, _, L, S, S2, rfl, ⟨⟨q, k, c, rfl, ?_, ?_⟩, ⟨q2, c2, by rw [HE2.out], by rw [HE2.out]; exact HM1.out.same fun x hx => hg.block x (HM1.out.lt x hx) (fun e => by have := HS1.out x hx; have := Option.some.inj e; omega)⟩, ?_, ?_, by rw [HE2.out]; simp⟩, set6_below B3.out (by omega) _ _ _ _ _ _⟩
      · have h := HML.out.same (w' := w3) fun x _ hx => BR3.out.block x hx
        have h := h.same fun x h1 h2 => hg.block x h2 (fun e => by have := Option.some.inj e; omega)
        exact h.base (by omega)
      · intro x hx e
        have := HS1.out x hx
        have := ownBlock_lt HML.out.row e
        omega
      · intro x hx h2
        have := HS1.out x h2
        have := HML.out.own.lt x hx
        omega
      · intro x hx
        have := HS1.out x hx
        omega
    · have hl2 := isCons_len HZ.out.symm
      obtain ⟨b, o, rfl, e0, c0, hs0, ht0⟩ := HT.out.get 0 (by omega)
      obtain ⟨b', o', hbo, e1, c1, hs1, ht1⟩ := HT.out.get 1 (by omega)
      simp only [Option.some.injEq, Addr.mk.injEq, and_true] at hbo
      obtain ⟨rfl, rfl⟩ := hbo
      have HE2 := hid (HE.out.trans (by rw [elems_cons HZ.out.symm (by omega) (by omega)]))
      have HC0 := hid (HC.out.arg 0 (by omega))
      have HC1 := hid (HC.out.arg 1 (by omega))
      have HN1 := hid (show nodes u.args[0] + nodes u.args[1] + 1 ≤ nodes u by
        have h := nodes_args u
        have h1 : nodesL (u.args.take 1) = nodesL (u.args.take 0) + nodes u.args[0] := nodesL_take u.args 0 (by omega)
        have h2 : nodesL (u.args.take 2) = nodesL (u.args.take 1) + nodes u.args[1] := nodesL_take u.args 1 (by omega)
        have h3 := nodesL_take_le u.args 2
        omega)
      rw [Nat.zero_mul, Nat.add_zero] at hs0
      rw [Nat.one_mul] at hs1
      have HT0 := hid ht0
      have HT1 := hid ht1
      have HS0 := hid hs0
      have HS1 := hid hs1
      clear ht0 ht1 hs0 hs1 HZ HE
      generalize u.args[0] = t0 at *
      generalize u.args[1] = t1 at *
      have hk0 : (0 : Int) < (u.args.length : Int) := by omega
      have hk1 : (1 : Int) < (u.args.length : Int) := by omega
      have HL2 := hid hl2
      clear hl2
      have SX := hid (show ∀ W, Below w.heap.size w W → Six W b o t0 e0 c0 ∧ Six W b (o + 6) t1 e1 c1 from fun W h => ⟨HS0.out.keep h, HS1.out.keep h⟩)
      have CF := hid (fun W (h : Below w.heap.size w W) => copyOf_any t0 e0 c0 W (HT0.out.keep h) HC0.out)
      have AP := hid (fun (W : World) (h : Below wr.heap.size wr W) => HML.out.same (w' := W) fun x _ hx => h.block x hx)
      unfold Tm.val at CF
      go_wp2_with (first
        | (go_at_call 160; (with_reducible refine (IC2.out _).mono ?_); rintro e w2 ⟨rfl, hb2⟩; have B2 := hid (hBr.out.trans (hb2.mono hBr.out.size)); have BR2 := hid hb2; have Q0 := hid (obj_keep P0.out hb2); obtain ⟨⟨g0, g1, g2, g3, g4, g5⟩, ⟨n0, n1, n2, n3, n4, n5⟩⟩ := SX.out w2 B2.out; have g6 := (six_of Q0.out).c5; clear hb2)
        | (go_at_call 126; (with_reducible refine (CF.out _ B2.out).mono ?_); rintro e w3 ⟨q2, c2, S1, rfl, hm, hS1, hb3⟩; have HM1 := hid hm; have HS1 := hid hS1; have BR3 := hid (BR2.out.trans (hb3.mono BR2.out.size)); have B3 := hid (B2.out.trans (hb3.mono B2.out.size)); have R0 := hid (obj_keep Q0.out hb3); have HZ3 := hid (show w2.heap.size ≤ w3.heap.size from hb3.size); clear hb3 hm hS1)
        | (at_builtin; refine wpList_appT _ rfl _ _ rfl ?_; refine ⟨w3, w.heap.size + 2, q, k, c, L, S, t0, q2, c2, S1, rfl, rfl, ⟨rfl, AP.out w3 BR3.out, HM1.out, by have := HN.out; have := HF.out; omega, by have := lt_of_block R0.out; have := lt_of_block P1.out; have := BR3.out.size; omega, fun x hx h1 => by have := HS1.out x h1; have := HML.out.own.lt x hx; have := BR2.out.size; omega, fun x hx h1 => by have := HS1.out x h1; have := ownBlock_lt HML.out.row hx; have := BR2.out.size; omega, fun x hx => by have := HS1.out x hx; have := BR2.out.size; have := lt_of_block P1.out; omega⟩, ?_⟩; intro g c' w5 hd; have ML5 := hid hd.list; have HB5 := hid hd.below; have hlw := lt_of_block P1.out; have R5 := hid ((HB5.out.block w.heap.size (by omega)).trans R0.out); have P15 := hid ((HB5.out.block (w.heap.size + 1) (by omega)).trans ((BR3.out.block _ hlw).trans P1.out)); have B5 := hid (show Below w.heap.size w w5 from B3.out.trans (HB5.out.mono (by omega))); clear hd g0 g1 g2 g3 g4 g5 n0 n1 n2 n3 n4 n5 g6 x0 x1 x2 x3 x4 x5; obtain ⟨-, ⟨l0, l1, l2, l3, l4, l5⟩⟩ := SX.out w5 B5.out; obtain ⟨⟨y0, y1, y2, y3, y4, y5⟩, ⟨f0, f1, f2, f3, f4, f5⟩⟩ := six_free (show w5.heap[w.heap.size]? = some (.cells #[.int .i64 u.kind, .string u.name, .string u.num, .int .u64 u.bits, .int .i64 u.var, .slice (some ⟨b, o, none⟩) u.args.length cu] 25 (0, 0)) from R5.out)))
      go_roundw
      case rel =>
        have hg := set6_grown w5 w.heap.size (.int .i64 t1.kind) (.string t1.name) (.string t1.num) (.int .u64 t1.bits) (.int .i64 t1.var) (.slice e1 t1.args.length c1)
        refine ⟨k + 1, L ++ [(t0, q2, c2)], S ++ S1, some ⟨g, 0, none⟩, c', t1, e1, c1, rfl, hid (set6 R5.out _ _ _ _ _ _), hid ((hg.block _ (lt_of_block P15.out) (fun e => by have := Option.some.inj e; omega)).trans P15.out), hid (ML5.out.same fun x h1 h2 => hg.block x h2 (fun e => by have := Option.some.inj e; omega)), HT1, HC1, hid (by have := HN.out; have := HN1.out; have := nodes_pos t0; omega), hid (by rw [HE2.out]; simp), hid (set6_below B5.out (Nat.le_refl _) _ _ _ _ _ _)⟩
      case measure =>
        have h1 := HN.out
        have h2 := HN1.out
        show nodes t - (k + 1) < nodes t - k
        omega
end Go.Proofs.YtiaddfedaikaiaaGreatDoor

namespace Go.Proofs.YtiaddfedaikaiaaGreatDoor
open Go.RowKit

set_option maxRecDepth 100000 in
set_option maxHeartbeats 8000000 in
theorem elements_bad (t : Tm) (p : Option Addr) (cap : Nat) (w : World) (hT : TmAt w t p) (hD : AllT DomA t) (hE : checkErr vName numOk bitsOk t ≠ 0) (hX : Utf w) :
    Calls Tryz.prog 145 #[t.val p cap] w fun e w' => e = .returned (.tuple #[.slice none 0 0, (leaf 0 ⟨#[]⟩ ⟨#[]⟩ 0).val none 0, .int .i64 (checkErr vName numOk bitsOk t)]) ∧ Below w.heap.size w w' := by
  obtain ⟨W0, hW0⟩ : ∃ W0, W0 = (w.alloc (.cells #[.int .i64 t.kind, .string t.name, .string t.num, .int .u64 t.bits, .int .i64 t.var, .slice p t.args.length cap] 25)).alloc (.cells #[.int .i64 0, .string ⟨#[]⟩, .string ⟨#[]⟩, .int .u64 0, .int .i64 0, .slice none 0 0] 25) := ⟨_, rfl⟩
  have hB := hid (show Below w.heap.size w W0 by rw [hW0]; exact ((Below.refl w.heap.size w).alloc (Nat.le_refl _) _).alloc (by simp) _)
  have P1 := hid (show W0.heap[w.heap.size + 1]? = some (.cells #[.int .i64 0, .string ⟨#[]⟩, .string ⟨#[]⟩, .int .u64 0, .int .i64 0, .slice none 0 0] 25 (0, 0)) by
    rw [hW0]
    have h := heap_alloc_new (w.alloc (.cells #[.int .i64 t.kind, .string t.name, .string t.num, .int .u64 t.bits, .int .i64 t.var, .slice p t.args.length cap] 25)) (.cells #[.int .i64 0, .string ⟨#[]⟩, .string ⟨#[]⟩, .int .u64 0, .int .i64 0, .slice none 0 0] 25)
    rwa [World.size_alloc] at h)
  have CK := hid (check_any vName numOk bitsOk DomA t p cap W0 (hT.keep hB.out) (oracleA _ (hX.keep hB.out)) hD)
  generalize checkErr vName numOk bitsOk t = z at *
  have hq : (z == 0) = false := beq_eq_false_iff_ne.2 hE
  have hq2 : (z != 0) = true := by simp [hE]
  unfold Tm.val at CK
  unfold Tm.val
  clear hT hD hE hX
  go_enter Tryz.func145, Tryz.ntmps145
  go_wp2_with (first
    | (go_at_call 66; rw [← hW0]; (with_reducible refine CK.out.mono ?_); rintro e w1 ⟨rfl, hb1⟩; have Q1 := hid ((hb1.block _ (lt_of_block P1.out)).trans P1.out); have B1 := hid (hB.out.trans (hb1.mono hB.out.size)); clear hb1 CK P1 hB hW0; obtain ⟨⟨z0, z1, z2, z3, z4, z5⟩, ⟨f0, f1, f2, f3, f4, f5⟩⟩ := six_free Q1.out)
    | fail)
  have h1 := set6 Q1.out (.int .i64 0) (.string ⟨#[]⟩) (.string ⟨#[]⟩) (.int .u64 0) (.int .i64 0) (.slice none 0 0)
  exact bodyPost_ret (results_mid (b := w.heap.size + 1) (t := leaf 0 ⟨#[]⟩ ⟨#[]⟩ 0) (q := none) (cap := 0) rfl _ _ (.slice none 0 0) (.int .i64 z) ⟨by rfl, by rfl, by rfl⟩ h1) rfl ⟨rfl, set6_below B1.out (by omega) _ _ _ _ _ _⟩
end Go.Proofs.YtiaddfedaikaiaaGreatDoor
