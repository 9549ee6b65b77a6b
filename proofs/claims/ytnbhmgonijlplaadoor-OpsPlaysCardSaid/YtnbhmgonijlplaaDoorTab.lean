/- A table of operators as it lies in memory: a map from class and name to an operator. Plain facts on worlds; no condition but those that each theorem names. -/
import Derived.Test.YtnbhmgonijlplaaDoorChecked
import Derived.WalkKit
import Derived.WalkSpells
import Derived.Maps.OwnOps
import Derived.Maps.Views
import Derived.DeepKeys4
import Derived.Lib.Hide
namespace Go.Proofs.YtnbhmgonijlplaaDoor
open Go.RowKit Go.Maps

theorem hid {p : Prop} (h : p) : Hid p := h

/-- An operator: its name, type and priority. -/
structure Opn where
  name : ByteArray
  typ : Int
  pri : Int

def Opn.val (x : Opn) : Value := .agg #[.string x.name, .int .i64 x.typ, .int .i64 x.pri]
def Opn.dat (x : Opn) : DataW Unit := .agg [.lit (.string x.name.data.toList), .lit (.int .i64 x.typ), .lit (.int .i64 x.pri)]
/-- How an element of the map reads. -/
def Rop (v : Value) : Option (DataW Unit × List MemPlace) :=
  match v with
  | .agg cs => match cs.toList with
    | [.string n, .int .i64 t, .int .i64 p] => some ((⟨n, t, p⟩ : Opn).dat, [])
    | _ => none
  | _ => none
theorem Rop_val (x : Opn) : Rop x.val = some (x.dat, []) := rfl
theorem Rop_inv {v : Value} {z : DataW Unit × List MemPlace} (h : Rop v = some z) : ∃ x : Opn, v = x.val ∧ z = (x.dat, []) := by
  cases v with
  | agg cs =>
    simp only [Rop] at h
    split at h
    · rename_i n t p e
      refine ⟨⟨n, t, p⟩, ?_, (Option.some.inj h).symm⟩
      unfold Opn.val
      congr 1
      exact Array.toList_inj.1 e
    · cases h
  | _ => simp [Rop] at h
theorem dat_inj {x y : Opn} (h : x.dat = y.dat) : x = y := by
  cases x; cases y
  unfold Opn.dat at h
  simp at h
  obtain ⟨h1, h2, h3⟩ := h
  have h4 : ∀ a b : ByteArray, a.data = b.data → a = b := fun a b e => ByteArray.ext e
  rw [h4 _ _ h1, h2, h3]

/-- A place of the map. -/
def kval (c : Int) (s : ByteArray) : Value := .agg #[.int .i64 c, .string s]
theorem Tryd.laidOut : laidOutB Tryd.prog = true := by kernel_rfl
theorem row68 : (68 : TypeId) < Tryd.prog.types.size := of_decide_eq_true (by kernel_rfl)
theorem wide68 : (match Tryd.prog.underlying 68 with | some (.array _ _) | some (.struct _) => true | _ => false) = true := by kernel_rfl
set_option maxRecDepth 100000 in
theorem keyed : Keyed Tryd.prog 68 := Keyed.of_law (deep_law_laid Tryd.laidOut (m := 3) (by omega) row68 (by kernel_rfl) wide68)


theorem zero39 (w : World) : (zeroValue 39).run Tryd.prog w = .ok (.agg #[.string ⟨#[]⟩, .int .i64 0, .int .i64 0]) w := by kernel_rfl
theorem cells68 : Tryd.prog.cellsOf 68 = 2 := by kernel_rfl
theorem cells3 : Tryd.prog.cellsOf 3 = 1 := by kernel_rfl
theorem cells9 : Tryd.prog.cellsOf 9 = 1 := by kernel_rfl
theorem keyT68 : Tryd.prog.keyType 68 = true := by kernel_rfl
theorem size_types : Tryd.prog.types.size = 152 + 1 + 1 := by kernel_rfl
theorem formed68 (c : Int) (s : ByteArray) : (kval c s).formed Tryd.prog 68 = true := by
  simp [kval, Value.formed, Tryd.underlying68, cells68]
section
variable {P : Program}
theorem lits_int {d : Nat} {t : TypeId} (h : P.underlying t = some (.int .i64)) {c : Int} (hc : (Lit.int .i64 c).wf = true) : P.keyLits (d + 1) t [.int .i64 c] = some [.int .i64 c] := by
  unfold Program.keyLits
  rw [h]
  simp [hc]
theorem lits_str {d : Nat} {t : TypeId} (h : P.underlying t = some .string) {s : ByteArray} (hs : s.size ≤ maxLen) : P.keyLits (d + 1) t [.string s] = some [.string s.data.toList] := by
  unfold Program.keyLits
  rw [h]
  simp [hs]
theorem lits_pair {d : Nat} {t t1 t2 : TypeId} {f1 f2 : Field} (h : P.underlying t = some (.struct #[f1, f2])) (hc : P.cellsOf t = 2) (n1 : f1.name ≠ "_") (n2 : f2.name ≠ "_") (e1 : f1.type = t1) (e2 : f2.type = t2)
    (o1 : f1.offset = 0) (o2 : f2.offset = 1) (c1 : P.cellsOf t1 = 1) (c2 : P.cellsOf t2 = 1) {x y : Value} {lx ly : List Lit} (hx : P.keyLits d t1 [x] = some lx) (hy : P.keyLits d t2 [y] = some ly) :
    P.keyLits (d + 1) t [x, y] = some (lx ++ ly) := by
  subst e1 e2
  unfold Program.keyLits
  rw [h]
  simp [hc, n1, n2, o1, o2, c1, c2, hx, hy]
end
set_option maxRecDepth 100000 in
theorem keyOf_kval (c : Int) (s : ByteArray) (hc : (Lit.int .i64 c).wf = true) (hs : s.size ≤ maxLen) : keyOf Tryd.prog 68 (kval c s) = some (.string (keyBytes [.int .i64 c, .string s.data.toList])) := by
  have h := lits_pair (d := 152 + 1 + 1) (x := .int .i64 c) (y := .string s) Tryd.underlying68 cells68 (by decide) (by decide) rfl rfl rfl rfl cells3 cells9 (lits_int Tryd.underlying3 hc) (lits_str Tryd.underlying9 hs)
  unfold keyOf
  rw [Tryd.underlying68]
  simp only [keyT68, formed68, Bool.and_true, if_true]
  rw [size_types]
  show Option.map _ (Tryd.prog.keyLits (152 + 1 + 1 + 1) 68 [.int .i64 c, .string s]) = _
  rw [h]; rfl

/-- A key as the map's reading has it. -/
def kl (c : Int) (s : ByteArray) : Lit := .string (keyBytes [.int .i64 c, .string s.data.toList])
/-- A class and a name that can be keys. -/
structure Wfk (c : Int) (s : ByteArray) : Prop where
  cls : (Lit.int .i64 c).wf = true
  len : s.size ≤ maxLen
theorem Wfk.key {c : Int} {s : ByteArray} (h : Wfk c s) : keyOf Tryd.prog 68 (kval c s) = some (kl c s) := keyOf_kval c s h.cls h.len
theorem kl_inj {c d : Int} {s t : ByteArray} (h : Wfk c s) (k : Wfk d t) (e : kl c s = kl d t) : c = d ∧ s = t := by
  have h1 := keyed.inj h.key (show keyOf Tryd.prog 68 (kval d t) = some (kl c s) by rw [k.key, e])
  unfold kval at h1
  simp at h1
  exact h1

/-- What a table tells: of each class and name the operator, if there is one. -/
abbrev Fn := Int → ByteArray → Option Opn
def fset (F : Fn) (c : Int) (s : ByteArray) (v : Option Opn) : Fn := fun d t => if d = c ∧ t = s then v else F d t
def Opn.none : Opn := ⟨⟨#[]⟩, 0, 0⟩
def found (F : Fn) (c : Int) (s : ByteArray) : Opn := (F c s).getD Opn.none

/-- The block is a map of at most n entries that tells F. -/
def Tab (w : World) (b n : Nat) (F : Fn) : Prop := ∃ D, w.ownsMap Tryd.prog 68 Rop b n D ∧ Maps.IsMap D ∧ ∀ c s, Wfk c s → ∀ zd, D.atKey (kl c s) zd = match F c s with | .none => zd | .some x => x.dat

theorem Tab.lt {w : World} {b n : Nat} {F : Fn} (h : Tab w b n F) : b < w.heap.size := by obtain ⟨D, h1, _⟩ := h; exact h1.lt
theorem Tab.made (w : World) : Tab (w.alloc (.map #[] 0)) w.heap.size 0 (fun _ _ => .none) :=
  ⟨.map [], World.ownsMap_made _ _ _ _, ⟨_, rfl⟩, fun c s _ zd => rfl⟩
theorem Tab.kept {w w' : World} {b n : Nat} {F : Fn} {row : Option Nat} (h : Tab w b n F) (hg : w.grownBy w' row) (hne : some b ≠ row) : Tab w' b n F := by
  obtain ⟨D, h1, h2⟩ := h; exact ⟨D, h1.kept hg hne, h2⟩
theorem Tab.keep {w w' : World} {b n : Nat} {F : Fn} (h : Tab w b n F) (hb : Below w.heap.size w w') : Tab w' b n F :=
  h.kept (row := .none) ⟨hb.os, hb.tape, hb.output, hb.size, fun k hk _ => hb.block k hk⟩ (by simp)
theorem Tab.alloc {w : World} {b n : Nat} {F : Fn} (h : Tab w b n F) (o : Obj) : Tab (w.alloc o) b n F := h.keep ((Below.refl _ _).alloc (Nat.le_refl _) _)
theorem Tab.mono {w : World} {b n m : Nat} {F : Fn} (h : Tab w b n F) (hm : n ≤ m) : Tab w b m F := by
  obtain ⟨D, h1, h2⟩ := h; exact ⟨D, h1.mono hm, h2⟩
theorem Tab.same {w w' : World} {b n : Nat} {F : Fn} (h : Tab w b n F) (hg : w'.heap[b]? = w.heap[b]?) : Tab w' b n F := by
  obtain ⟨D, ⟨es, clock, h1, h2⟩, h3⟩ := h
  exact ⟨D, ⟨es, clock, hg.trans h1, h2⟩, h3⟩

theorem Tab.put_run {w : World} {b n : Nat} {F : Fn} (h : Tab w b n F) (hn : n < maxLen) {c : Int} {s : ByteArray} (hk : Wfk c s) (x : Opn) :
    ∃ w', (Instr.mapUpdate 58 (.map (some b)) (kval c s) x.val).run Tryd.prog w = .ok () w' ∧ Tab w' b (n + 1) (fset F c s (some x)) ∧ w.grownBy w' (some b) := by
  obtain ⟨D, h1, h2, h3⟩ := h
  obtain ⟨w', hrun, r1, r2⟩ := h1.update keyed Tryd.underlying58 hn hk.key (Rop_val x)
  refine ⟨w', hrun, ⟨_, r1, ?_, fun d t hd zd => ?_⟩, r2⟩
  · obtain ⟨es, rfl⟩ := h2; exact ⟨_, rfl⟩
  · unfold fset
    by_cases e : d = c ∧ t = s
    · obtain ⟨rfl, rfl⟩ := e
      rw [if_pos ⟨rfl, rfl⟩]
      exact Maps.atKey_put_same h2 (keyed.key hk.key) _ _
    · rw [if_neg e]
      rw [Maps.atKey_put_other (fun e2 => e (kl_inj hd hk e2))]
      exact h3 d t hd zd

theorem Tab.look_run {w : World} {b n : Nat} {F : Fn} (h : Tab w b n F) {c : Int} {s : ByteArray} (hk : Wfk c s) :
    (Instr.lookup 58 (.map (some b)) (kval c s) true).run Tryd.prog w = .ok (.tuple #[(found F c s).val, .bool (F c s).isSome]) w := by
  obtain ⟨D, ⟨es, clock, hb, hF, _, rfl⟩, _, h3⟩ := h
  have hat := h3 c s hk
  rcases Maps.fit_look true keyed Tryd.underlying58 (zero39 w) hb hF hk.key with ⟨hrun, _, hz⟩ | ⟨e0, y, _, _, hrun, hR, hy, _⟩
  · have : F c s = .none := by
      cases hf : F c s with
      | none => rfl
      | some x =>
        have h4 := hat (.lit (.bool true))
        rw [hz, hf] at h4
        cases h4
    unfold found
    rw [this]
    exact hrun
  · obtain ⟨x, hx, rfl⟩ := Rop_inv hR
    have : F c s = some x := by
      cases hf : F c s with
      | none =>
        have h4 := hat (.lit (.bool true))
        rw [hy, hf] at h4
        cases h4
      | some z =>
        have h4 := hat (.lit (.bool true))
        rw [hy, hf] at h4
        rw [dat_inj h4]
    unfold found
    rw [this]
    rw [hx] at hrun
    exact hrun

theorem wpList_look (w : World) {ops : Array Oper} {rest : List Oper} {o : Oper} {a : Act} {Q : Exit → Act → World → Prop}
    (hg : o.guard = .none) (m x : Operand) (hop : o.op = Op.lookup 58 m x true) (b n : Nat) (F : Fn) (hm : a.eval m = .map (some b)) (hT : Tab w b n F) (c : Int) (s : ByteArray) (hk : Wfk c s) (hx : a.eval x = kval c s)
    (hK : wpList Tryd.prog ops Q rest (a.put o.dst (.tuple #[(found F c s).val, .bool (F c s).isSome])) w) : wpList Tryd.prog ops Q (o :: rest) a w := by
  refine wpList_plain hg fun K' hK' => ?_
  unfold Oper.wp
  simp [execOp, hop, hm, hx, hT.look_run hk, Result.andThen]
  exact hK' _ _ hK

theorem step_put {w : World} {ops : Array Oper} {o : Oper} {a : Act} {K : Act → World → Prop} {Q : Exit → Act → World → Prop} {E : Prop}
    (hg : o.guard = .none) (m x v : Operand) (hop : o.op = Op.mapUpdate 58 m x v) (b n : Nat) (F : Fn) (hm : a.eval m = .map (some b)) (hT : Tab w b n F) (hn : n < maxLen) (c : Int) (s : ByteArray) (hk : Wfk c s) (y : Opn) (hx : a.eval x = kval c s) (hv : a.eval v = y.val)
    (hK : ∀ w', Tab w' b (n + 1) (fset F c s (some y)) → w.grownBy w' (some b) → K (a.put o.dst undef) w') :
    if Region.wanted o (yielded ops a.tmps) = true then Oper.wp Tryd.prog o a w K Q else E := by
  have hw : Region.wanted o (yielded ops a.tmps) = true := by simp [Region.wanted, hg]
  rw [if_pos hw]
  obtain ⟨w', hrun, r1, r2⟩ := hT.put_run hn hk y
  unfold Oper.wp
  simp [execOp, hop, hm, hx, hv, hrun, Result.andThen]
  exact hK w' r1 r2
end Go.Proofs.YtnbhmgonijlplaaDoor
