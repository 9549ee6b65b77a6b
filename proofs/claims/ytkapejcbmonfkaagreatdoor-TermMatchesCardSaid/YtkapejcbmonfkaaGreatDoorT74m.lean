/- A map from numbers to terms with their counts, as it lies in memory: what stands for a variable. Plain facts on worlds; no condition but those that each theorem names. Walk: standIns: what stands for variables, in a map. No condition but those that each theorem names. Walks: what Put counts: the function that it hands on, eachVariable at it. No condition but those that each theorem names. Terms with others in the places of variables: plain; the function that Put hands on second. No condition but those that each theorem names. -/
import Derived.Maps.Views
import Derived.Test.YtkapejcbmonfkaaGreatDoorT66
namespace Go.Proofs.YtkapejcbmonfkaaGreatDoor
open Go.RowKit Go.Maps

/-- A term as a map holds it: its fields, where its arguments lie, and how many nodes it has. -/
structure Raw where
  kind : Int
  name : ByteArray
  num : ByteArray
  bits : Int
  var : Int
  at_ : Option Addr
  len : Nat
  cap : Nat
  n : Int
def adrD : Option Addr → DataW Unit
  | none => .nil
  | some ⟨b, o, none⟩ => .agg [.lit (.int .i64 b), .lit (.int .i64 o)]
  | some ⟨b, o, some z⟩ => .agg [.lit (.int .i64 b), .lit (.int .i64 o), .lit (.int .i64 z)]
theorem adrD_inj {x y : Option Addr} (h : adrD x = adrD y) : x = y := by
  rcases x with _ | ⟨b, o, _ | z⟩ <;> rcases y with _ | ⟨b', o', _ | z'⟩ <;> simp [adrD] at h ⊢ <;> omega
def Raw.val (x : Raw) : Value := .agg #[.int .i64 x.kind, .string x.name, .string x.num, .int .u64 x.bits, .int .i64 x.var, .slice x.at_ x.len x.cap, .int .i64 x.n]
def Raw.dat (x : Raw) : DataW Unit := .agg [.lit (.int .i64 x.kind), .lit (.string x.name.data.toList), .lit (.string x.num.data.toList), .lit (.int .u64 x.bits), .lit (.int .i64 x.var), adrD x.at_, .lit (.int .i64 x.len), .lit (.int .i64 x.cap), .lit (.int .i64 x.n)]
/-- How an element of the map reads. -/
def Rraw (v : Value) : Option (DataW Unit × List MemPlace) :=
  match v with
  | .agg cs => match cs.toList with
    | [.int .i64 k, .string s, .string u, .int .u64 b, .int .i64 v, .slice p l c, .int .i64 n] => some ((⟨k, s, u, b, v, p, l, c, n⟩ : Raw).dat, [])
    | _ => none
  | _ => none
theorem Rraw_val (x : Raw) : Rraw x.val = some (x.dat, []) := rfl
theorem Rraw_inv {v : Value} {z : DataW Unit × List MemPlace} (h : Rraw v = some z) : ∃ x : Raw, v = x.val ∧ z = (x.dat, []) := by
  cases v with
  | agg cs =>
    simp only [Rraw] at h
    split at h
    · rename_i k s u b v p l c n e
      refine ⟨⟨k, s, u, b, v, p, l, c, n⟩, ?_, (Option.some.inj h).symm⟩
      unfold Raw.val
      congr 1
      exact Array.toList_inj.1 e
    · cases h
  | _ => simp [Rraw] at h
theorem raw_inj {x y : Raw} (h : x.dat = y.dat) : x = y := by
  cases x; cases y
  unfold Raw.dat at h
  simp at h
  obtain ⟨h1, h2, h3, h4, h5, h6, h7, h8, h9⟩ := h
  have hb : ∀ a b : ByteArray, a.data = b.data → a = b := fun a b e => ByteArray.ext e
  have h6 := adrD_inj h6
  subst h1 h4 h5 h6 h9
  rw [hb _ _ h2, hb _ _ h3]
  have h7 := Int.ofNat.inj h7
  have h8 := Int.ofNat.inj h8
  subst h7 h8
  rfl
theorem zeroStn (w : World) : (zeroValue 93).run Tryz.prog w = .ok (.agg #[.int .i64 0, .string ⟨#[]⟩, .string ⟨#[]⟩, .int .u64 0, .int .i64 0, .slice none 0 0, .int .i64 0]) w := by kernel_rfl
/-- What a map tells: of each number what stands for it, if anything does. -/
abbrev Fs := Int → Option Raw
def sset (F : Fs) (n : Int) (v : Option Raw) : Fs := fun m => if m = n then v else F m
def Raw.no : Raw := ⟨0, ⟨#[]⟩, ⟨#[]⟩, 0, 0, none, 0, 0, 0⟩
def stood (F : Fs) (n : Int) : Raw := (F n).getD Raw.no
/-- The block is a map of at most so many entries that tells F. -/
def Stnd (w : World) (b n : Nat) (F : Fs) : Prop := ∃ D, w.ownsMap Tryz.prog 3 Rraw b n D ∧ Maps.IsMap D ∧ ∀ m : Int, (Lit.int .i64 m).wf = true → ∀ zd, D.atKey (.int .i64 m) zd = match F m with | .none => zd | .some x => x.dat
theorem Stnd.lt {w : World} {b n : Nat} {F : Fs} (h : Stnd w b n F) : b < w.heap.size := by obtain ⟨D, h1, _⟩ := h; exact h1.lt
theorem Stnd.made (w : World) : Stnd (w.alloc (.map #[] 0)) w.heap.size 0 (fun _ => .none) :=
  ⟨.map [], World.ownsMap_made _ _ _ _, ⟨_, rfl⟩, fun _m _ _zd => rfl⟩
theorem Stnd.same {w w' : World} {b n : Nat} {F : Fs} (h : Stnd w b n F) (hg : w'.heap[b]? = w.heap[b]?) : Stnd w' b n F := by
  obtain ⟨D, ⟨es, clock, h1, h2⟩, h3⟩ := h
  exact ⟨D, ⟨es, clock, hg.trans h1, h2⟩, h3⟩
theorem Stnd.keep {w w' : World} {b n : Nat} {F : Fs} (h : Stnd w b n F) (hb : Below w.heap.size w w') : Stnd w' b n F := h.same (hb.block b h.lt)
theorem Stnd.put_run {w : World} {b n : Nat} {F : Fs} (h : Stnd w b n F) (hn : n < maxLen) {m : Int} (hm : (Lit.int .i64 m).wf = true) (x : Raw) :
    ∃ w', (Instr.mapUpdate 89 (.map (some b)) (.int .i64 m) x.val).run Tryz.prog w = .ok () w' ∧ Stnd w' b (n + 1) (sset F m (some x)) ∧ w.grownBy w' (some b) := by
  obtain ⟨D, h1, h2, h3⟩ := h
  have hk : keyOf Tryz.prog 3 (.int .i64 m) = some (.int .i64 m) := keyOf_int_mk Tryz.underlying3 hm
  obtain ⟨w', hrun, r1, r2⟩ := h1.update intKey Tryz.underlying89 hn hk (Rraw_val x)
  refine ⟨w', hrun, ⟨_, r1, ?_, fun d hd zd => ?_⟩, r2⟩
  · obtain ⟨es, rfl⟩ := h2; exact ⟨_, rfl⟩
  · unfold sset
    by_cases e : d = m
    · subst e
      rw [if_pos rfl]
      exact Maps.atKey_put_same h2 (intKey.key hk) _ _
    · rw [if_neg e]
      rw [Maps.atKey_put_other (key_ne e)]
      exact h3 d hd zd
theorem Stnd.look_run {w : World} {b n : Nat} {F : Fs} (h : Stnd w b n F) {m : Int} (hm : (Lit.int .i64 m).wf = true) :
    (Instr.lookup 89 (.map (some b)) (.int .i64 m) true).run Tryz.prog w = .ok (.tuple #[(stood F m).val, .bool (F m).isSome]) w := by
  obtain ⟨D, ⟨es, clock, hb, hF, _, rfl⟩, _, h3⟩ := h
  have hk : keyOf Tryz.prog 3 (.int .i64 m) = some (.int .i64 m) := keyOf_int_mk Tryz.underlying3 hm
  have hat := h3 m hm
  rcases Maps.fit_look true intKey Tryz.underlying89 (zeroStn w) hb hF hk with ⟨hrun, _, hz⟩ | ⟨e0, y, _, _, hrun, hR, hy, _⟩
  · have : F m = .none := by
      cases hf : F m with
      | none => rfl
      | some x =>
        have h4 := hat (.lit (.bool true))
        rw [hz, hf] at h4
        cases h4
    unfold stood
    rw [this]
    exact hrun
  · obtain ⟨x, hx, rfl⟩ := Rraw_inv hR
    have : F m = some x := by
      cases hf : F m with
      | none =>
        have h4 := hat (.lit (.bool true))
        rw [hy, hf] at h4
        cases h4
      | some z =>
        have h4 := hat (.lit (.bool true))
        rw [hy, hf] at h4
        rw [raw_inj h4]
    unfold stood
    rw [this]
    rw [hx] at hrun
    exact hrun
end Go.Proofs.YtkapejcbmonfkaaGreatDoor

namespace Go.Proofs.YtkapejcbmonfkaaGreatDoor
open Go.RowKit Go.Maps

abbrev Bnd := Int × Tm
/-- Some binds lie from somewhere on. -/
def BindAt (w : World) (l : List Bnd) (q : Option Addr) : Prop := ∀ k (h : k < l.length), ∃ b o, q = some ⟨b, o, none⟩ ∧ ∃ p c, w.cell? ⟨b, o + k * 7, none⟩ = some (.int .i64 l[k].1) ∧ Six w b (o + k * 7 + 1) l[k].2 p c ∧ TmAt w l[k].2 p
theorem BindAt.keep {w w' : World} {l : List Bnd} {q : Option Addr} (h : BindAt w l q) (hb : Below w.heap.size w w') : BindAt w' l q := fun k hk => by
  obtain ⟨b, o, e, p, c, h1, h2, h3⟩ := h k hk
  exact ⟨b, o, e, p, c, heap_cell_keep hb h1, h2.keep hb, h3.keep hb⟩
def varsB (l : List Bnd) (k : Nat) : List Int := (l.take k).map (·.1)
def rawOf (t : Tm) (p : Option Addr) (c : Nat) : Raw := ⟨t.kind, t.name, t.num, t.bits, t.var, p, t.args.length, c, nodes t⟩
/-- A map's function is what the first of some binds say. -/
def FitF (w : World) (l : List Bnd) (k : Nat) (F : Fs) : Prop := ∀ v, (v ∈ varsB l k → ∃ (j : Nat) (h : j < l.length), j < k ∧ l[j].1 = v ∧ checkErr vName numOk bitsOk l[j].2 = 0 ∧ ∃ p c, F v = some (rawOf l[j].2 p c) ∧ TmAt w l[j].2 p) ∧ (v ∉ varsB l k → F v = none)
theorem FitF.zero (w : World) (l : List Bnd) : FitF w l 0 (fun _ => none) := fun v => ⟨fun h => by simp [varsB] at h, fun _ => rfl⟩
end Go.Proofs.YtkapejcbmonfkaaGreatDoor

namespace Go.Proofs.YtkapejcbmonfkaaGreatDoor
open Go.RowKit Go.Maps

/-- What lies behind the function. -/
structure PutSt (w : World) (bs bz m n : Nat) (F : Fs) (z : Int) : Prop where
  stands : w.heap[bs]? = some (.cells #[.map (some m)] 89 (0, 0))
  map : Stnd w m n F
  size : w.heap[bz]? = some (.cells #[.int .i64 z] 3 (0, 0))
theorem PutSt.keep {w w' : World} {bs bz m n : Nat} {F : Fs} {z : Int} (h : PutSt w bs bz m n F z) (hb : Below w.heap.size w w') : PutSt w' bs bz m n F z :=
  ⟨(hb.block _ (lt_of_block h.stands)).trans h.stands, h.map.keep hb, (hb.block _ (lt_of_block h.size)).trans h.size⟩
theorem PutSt.apart {w : World} {bs bz m n : Nat} {F : Fs} {z : Int} (h : PutSt w bs bz m n F z) : bs ≠ bz ∧ m ≠ bz := by
  constructor
  · rintro rfl
    have h1 := h.stands
    rw [h.size] at h1
    cases h1
  · rintro rfl
    obtain ⟨D, ⟨es, clock, h1, _⟩, _⟩ := h.map
    have h2 := h.size
    rw [h1] at h2
    cases h2
end Go.Proofs.YtkapejcbmonfkaaGreatDoor

namespace Go.Proofs.YtkapejcbmonfkaaGreatDoor
open Go.RowKit Go.Maps

/-- What some binds say of a variable. -/
def lookB : List Bnd → Int → Option Tm
  | [], _ => none
  | x :: l, v => if x.1 = v then some x.2 else lookB l v
/-- A map's function is what some binds say. -/
def FitL (w : World) (l : List Bnd) (F : Fs) : Prop := ∀ v, match lookB l v with
  | none => F v = none
  | some u => checkErr vName numOk bitsOk u = 0 ∧ ∃ p c, F v = some (rawOf u p c) ∧ TmAt w u p
/-- What lies behind the function. -/
structure StS (w : World) (bs m n : Nat) (F : Fs) (l : List Bnd) : Prop where
  stands : w.heap[bs]? = some (.cells #[.map (some m)] 89 (0, 0))
  map : Stnd w m n F
  fit : FitL w l F
  cp : ∀ v u, lookB l v = some u → AllT CpOk u
theorem FitL.keep {w w' : World} {l : List Bnd} {F : Fs} (h : FitL w l F) (hb : Below w.heap.size w w') : FitL w' l F := fun v => by
  have h1 := h v
  split at h1
  · exact h1
  · obtain ⟨g1, p, c, g2, g3⟩ := h1
    exact ⟨g1, p, c, g2, g3.keep hb⟩
theorem StS.keep {w w' : World} {bs m n : Nat} {F : Fs} {l : List Bnd} (h : StS w bs m n F l) (hb : Below w.heap.size w w') : StS w' bs m n F l :=
  ⟨(hb.block _ (lt_of_block h.stands)).trans h.stands, h.map.keep hb, h.fit.keep hb, h.cp⟩
end Go.Proofs.YtkapejcbmonfkaaGreatDoor
