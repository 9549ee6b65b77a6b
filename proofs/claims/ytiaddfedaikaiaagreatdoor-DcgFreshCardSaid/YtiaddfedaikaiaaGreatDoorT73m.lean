/- A map from numbers to terms with their counts, as it lies in memory: what stands for a variable. Plain facts on worlds; no condition but those that each theorem names. Walk: standIns: what stands for variables, in a map. No condition but those that each theorem names. Walks: what Put counts: the function that it hands on, eachVariable at it. No condition but those that each theorem names. Walk: eachVariable at the function that Put hands on. No condition but those that the theorem names. -/
import Derived.Maps.Views
import Derived.Test.YtiaddfedaikaiaaGreatDoorT66m
namespace Go.Proofs.YtiaddfedaikaiaaGreatDoor
open Go.RowKit Go.Maps

/-- A term as a map holds it: its fields, where its arguments lie, and how many nodes it has. -/
structure Raw where
  kind : Int
  name : ByteArray
  num : ByteArray
  bits : Int
  var : Int
  at_ : Option Addr
  len : Nat
  cap : Nat
  n : Int
def adrD : Option Addr → DataW Unit
  | none => .nil
  | some ⟨b, o, none⟩ => .agg [.lit (.int .i64 b), .lit (.int .i64 o)]
  | some ⟨b, o, some z⟩ => .agg [.lit (.int .i64 b), .lit (.int .i64 o), .lit (.int .i64 z)]
theorem adrD_inj {x y : Option Addr} (h : adrD x = adrD y) : x = y := by
  rcases x with _ | ⟨b, o, _ | z⟩ <;> rcases y with _ | ⟨b', o', _ | z'⟩ <;> simp [adrD] at h ⊢ <;> omega
def Raw.val (x : Raw) : Value := .agg #[.int .i64 x.kind, .string x.name, .string x.num, .int .u64 x.bits, .int .i64 x.var, .slice x.at_ x.len x.cap, .int .i64 x.n]
def Raw.dat (x : Raw) : DataW Unit := .agg [.lit (.int .i64 x.kind), .lit (.string x.name.data.toList), .lit (.string x.num.data.toList), .lit (.int .u64 x.bits), .lit (.int .i64 x.var), adrD x.at_, .lit (.int .i64 x.len), .lit (.int .i64 x.cap), .lit (.int .i64 x.n)]
/-- How an element of the map reads. -/
def Rraw (v : Value) : Option (DataW Unit × List MemPlace) :=
  match v with
  | .agg cs => match cs.toList with
    | [.int .i64 k, .string s, .string u, .int .u64 b, .int .i64 v, .slice p l c, .int .i64 n] => some ((⟨k, s, u, b, v, p, l, c, n⟩ : Raw).dat, [])
    | _ => none
  | _ => none
theorem Rraw_val (x : Raw) : Rraw x.val = some (x.dat, []) := rfl
theorem Rraw_inv {v : Value} {z : DataW Unit × List MemPlace} (h : Rraw v = some z) : ∃ x : Raw, v = x.val ∧ z = (x.dat, []) := by
  cases v with
  | agg cs =>
    simp only [Rraw] at h
    split at h
    · rename_i k s u b v p l c n e
      refine ⟨⟨k, s, u, b, v, p, l, c, n⟩, ?_, (Option.some.inj h).symm⟩
      unfold Raw.val
      congr 1
      exact Array.toList_inj.1 e
    · cases h
  | _ => simp [Rraw] at h
theorem raw_inj {x y : Raw} (h : x.dat = y.dat) : x = y := by
  cases x; cases y
  unfold Raw.dat at h
  simp at h
  obtain ⟨h1, h2, h3, h4, h5, h6, h7, h8, h9⟩ := h
  have hb : ∀ a b : ByteArray, a.data = b.data → a = b := fun a b e => ByteArray.ext e
  have h6 := adrD_inj h6
  subst h1 h4 h5 h6 h9
  rw [hb _ _ h2, hb _ _ h3]
  have h7 := Int.ofNat.inj h7
  have h8 := Int.ofNat.inj h8
  subst h7 h8
  rfl
theorem zeroStn (w : World) : (zeroValue 152).run Tryz.prog w = .ok (.agg #[.int .i64 0, .string ⟨#[]⟩, .string ⟨#[]⟩, .int .u64 0, .int .i64 0, .slice none 0 0, .int .i64 0]) w := by kernel_rfl
/-- What a map tells: of each number what stands for it, if anything does. -/
abbrev Fs := Int → Option Raw
def sset (F : Fs) (n : Int) (v : Option Raw) : Fs := fun m => if m = n then v else F m
def Raw.no : Raw := ⟨0, ⟨#[]⟩, ⟨#[]⟩, 0, 0, none, 0, 0, 0⟩
def stood (F : Fs) (n : Int) : Raw := (F n).getD Raw.no
/-- The block is a map of at most so many entries that tells F. -/
def Stnd (w : World) (b n : Nat) (F : Fs) : Prop := ∃ D, w.ownsMap Tryz.prog 3 Rraw b n D ∧ Maps.IsMap D ∧ ∀ m : Int, (Lit.int .i64 m).wf = true → ∀ zd, D.atKey (.int .i64 m) zd = match F m with | .none => zd | .some x => x.dat
theorem Stnd.lt {w : World} {b n : Nat} {F : Fs} (h : Stnd w b n F) : b < w.heap.size := by obtain ⟨D, h1, _⟩ := h; exact h1.lt
theorem Stnd.made (w : World) : Stnd (w.alloc (.map #[] 0)) w.heap.size 0 (fun _ => .none) :=
  ⟨.map [], World.ownsMap_made _ _ _ _, ⟨_, rfl⟩, fun _m _ _zd => rfl⟩
theorem Stnd.same {w w' : World} {b n : Nat} {F : Fs} (h : Stnd w b n F) (hg : w'.heap[b]? = w.heap[b]?) : Stnd w' b n F := by
  obtain ⟨D, ⟨es, clock, h1, h2⟩, h3⟩ := h
  exact ⟨D, ⟨es, clock, hg.trans h1, h2⟩, h3⟩
theorem Stnd.keep {w w' : World} {b n : Nat} {F : Fs} (h : Stnd w b n F) (hb : Below w.heap.size w w') : Stnd w' b n F := h.same (hb.block b h.lt)
theorem Stnd.put_run {w : World} {b n : Nat} {F : Fs} (h : Stnd w b n F) (hn : n < maxLen) {m : Int} (hm : (Lit.int .i64 m).wf = true) (x : Raw) :
    ∃ w', (Instr.mapUpdate 148 (.map (some b)) (.int .i64 m) x.val).run Tryz.prog w = .ok () w' ∧ Stnd w' b (n + 1) (sset F m (some x)) ∧ w.grownBy w' (some b) := by
  obtain ⟨D, h1, h2, h3⟩ := h
  have hk : keyOf Tryz.prog 3 (.int .i64 m) = some (.int .i64 m) := keyOf_int_mk Tryz.underlying3 hm
  obtain ⟨w', hrun, r1, r2⟩ := h1.update intKey Tryz.underlying148 hn hk (Rraw_val x)
  refine ⟨w', hrun, ⟨_, r1, ?_, fun d hd zd => ?_⟩, r2⟩
  · obtain ⟨es, rfl⟩ := h2; exact ⟨_, rfl⟩
  · unfold sset
    by_cases e : d = m
    · subst e
      rw [if_pos rfl]
      exact Maps.atKey_put_same h2 (intKey.key hk) _ _
    · rw [if_neg e]
      rw [Maps.atKey_put_other (key_ne e)]
      exact h3 d hd zd
theorem Stnd.look_run {w : World} {b n : Nat} {F : Fs} (h : Stnd w b n F) {m : Int} (hm : (Lit.int .i64 m).wf = true) :
    (Instr.lookup 148 (.map (some b)) (.int .i64 m) true).run Tryz.prog w = .ok (.tuple #[(stood F m).val, .bool (F m).isSome]) w := by
  obtain ⟨D, ⟨es, clock, hb, hF, _, rfl⟩, _, h3⟩ := h
  have hk : keyOf Tryz.prog 3 (.int .i64 m) = some (.int .i64 m) := keyOf_int_mk Tryz.underlying3 hm
  have hat := h3 m hm
  rcases Maps.fit_look true intKey Tryz.underlying148 (zeroStn w) hb hF hk with ⟨hrun, _, hz⟩ | ⟨e0, y, _, _, hrun, hR, hy, _⟩
  · have : F m = .none := by
      cases hf : F m with
      | none => rfl
      | some x =>
        have h4 := hat (.lit (.bool true))
        rw [hz, hf] at h4
        cases h4
    unfold stood
    rw [this]
    exact hrun
  · obtain ⟨x, hx, rfl⟩ := Rraw_inv hR
    have : F m = some x := by
      cases hf : F m with
      | none =>
        have h4 := hat (.lit (.bool true))
        rw [hy, hf] at h4
        cases h4
      | some z =>
        have h4 := hat (.lit (.bool true))
        rw [hy, hf] at h4
        rw [raw_inj h4]
    unfold stood
    rw [this]
    rw [hx] at hrun
    exact hrun
theorem wpList_stood (w : World) {ops : Array Oper} {rest : List Oper} {o : Oper} {a : Act} {Q : Exit → Act → World → Prop}
    (hg : o.guard = .none) (m x : Operand) (hop : o.op = Op.lookup 148 m x true)
    (h : ∃ (b n : Nat) (F : Fs) (k : Int), a.eval m = .map (some b) ∧ Stnd w b n F ∧ (Lit.int .i64 k).wf = true ∧ a.eval x = .int .i64 k ∧
      wpList Tryz.prog ops Q rest (a.put o.dst (.tuple #[(stood F k).val, .bool (F k).isSome])) w) : wpList Tryz.prog ops Q (o :: rest) a w := by
  obtain ⟨b, n, F, k, hm, hT, hk, hx, hK⟩ := h
  refine wpList_plain hg fun K' hK' => ?_
  unfold Oper.wp
  simp [execOp, hop, hm, hx, hT.look_run hk, Result.andThen]
  exact hK' _ _ hK
theorem step_stand {w : World} {ops : Array Oper} {o : Oper} {a : Act} {K : Act → World → Prop} {Q : Exit → Act → World → Prop} {E : Prop}
    (hg : o.guard = .none) (m x v : Operand) (hop : o.op = Op.mapUpdate 148 m x v)
    (h : ∃ (b n : Nat) (F : Fs) (k : Int) (y : Raw), a.eval m = .map (some b) ∧ Stnd w b n F ∧ n < maxLen ∧ (Lit.int .i64 k).wf = true ∧ a.eval x = .int .i64 k ∧ a.eval v = y.val ∧
      ∀ w', Stnd w' b (n + 1) (sset F k (some y)) → w.grownBy w' (some b) → K (a.put o.dst undef) w') :
    if Region.wanted o (yielded ops a.tmps) = true then Oper.wp Tryz.prog o a w K Q else E := by
  obtain ⟨b, n, F, k, y, hm, hT, hn, hk, hx, hv, hK⟩ := h
  have hw : Region.wanted o (yielded ops a.tmps) = true := by simp [Region.wanted, hg]
  rw [if_pos hw]
  obtain ⟨w', hrun, r1, r2⟩ := hT.put_run hn hk y
  unfold Oper.wp
  simp [execOp, hop, hm, hx, hv, hrun, Result.andThen]
  exact hK w' r1 r2
end Go.Proofs.YtiaddfedaikaiaaGreatDoor

namespace Go.Proofs.YtiaddfedaikaiaaGreatDoor
open Go.RowKit Go.Maps

abbrev Bnd := Int × Tm
/-- Some binds lie from somewhere on. -/
def BindAt (w : World) (l : List Bnd) (q : Option Addr) : Prop := ∀ k (h : k < l.length), ∃ b o, q = some ⟨b, o, none⟩ ∧ ∃ p c, w.cell? ⟨b, o + k * 7, none⟩ = some (.int .i64 l[k].1) ∧ Six w b (o + k * 7 + 1) l[k].2 p c ∧ TmAt w l[k].2 p
theorem BindAt.keep {w w' : World} {l : List Bnd} {q : Option Addr} (h : BindAt w l q) (hb : Below w.heap.size w w') : BindAt w' l q := fun k hk => by
  obtain ⟨b, o, e, p, c, h1, h2, h3⟩ := h k hk
  exact ⟨b, o, e, p, c, heap_cell_keep hb h1, h2.keep hb, h3.keep hb⟩
/-- What is wrong with some binds, behind variables that were met. -/
def standE : List Bnd → List Int → Int
  | [], _ => 0
  | x :: l, S => if x.1 ∈ S ∨ x.1 < 0 then 1 else if checkErr vName numOk bitsOk x.2 = 0 then standE l (S ++ [x.1]) else checkErr vName numOk bitsOk x.2
def varsB (l : List Bnd) (k : Nat) : List Int := (l.take k).map (·.1)
theorem varsB_succ (l : List Bnd) (k : Nat) (h : k < l.length) : varsB l (k + 1) = varsB l k ++ [l[k].1] := by
  unfold varsB
  rw [← List.take_append_getElem h, List.map_append]; rfl
theorem standE_drop (l : List Bnd) (k : Nat) (h : k < l.length) : standE (l.drop k) (varsB l k) = if l[k].1 ∈ varsB l k ∨ l[k].1 < 0 then 1 else if checkErr vName numOk bitsOk l[k].2 = 0 then standE (l.drop (k + 1)) (varsB l (k + 1)) else checkErr vName numOk bitsOk l[k].2 := by
  rw [List.drop_eq_getElem_cons h, varsB_succ l k h]
  rfl
def rawOf (t : Tm) (p : Option Addr) (c : Nat) : Raw := ⟨t.kind, t.name, t.num, t.bits, t.var, p, t.args.length, c, nodes t⟩
/-- A map's function is what the first of some binds say. -/
def FitF (w : World) (l : List Bnd) (k : Nat) (F : Fs) : Prop := ∀ v, (v ∈ varsB l k → ∃ (j : Nat) (h : j < l.length), j < k ∧ l[j].1 = v ∧ checkErr vName numOk bitsOk l[j].2 = 0 ∧ ∃ p c, F v = some (rawOf l[j].2 p c) ∧ TmAt w l[j].2 p) ∧ (v ∉ varsB l k → F v = none)
theorem FitF.zero (w : World) (l : List Bnd) : FitF w l 0 (fun _ => none) := fun v => ⟨fun h => by simp [varsB] at h, fun _ => rfl⟩
theorem FitF.succ {w : World} {l : List Bnd} {k : Nat} {F : Fs} (h : FitF w l k F) (hk : k < l.length) (_hn : l[k].1 ∉ varsB l k) (he : checkErr vName numOk bitsOk l[k].2 = 0) {p : Option Addr} {c : Nat} (ht : TmAt w l[k].2 p) : FitF w l (k + 1) (sset F l[k].1 (some (rawOf l[k].2 p c))) := fun v => by
  rw [varsB_succ l k hk]
  unfold sset
  by_cases e : v = l[k].1
  · rw [if_pos e]
    exact ⟨fun _ => ⟨k, hk, by omega, e.symm, he, p, c, rfl, ht⟩, fun h => absurd (by simp [e]) h⟩
  · rw [if_neg e]
    refine ⟨fun hv => ?_, fun hv => (h v).2 fun hv2 => hv (by simp [hv2])⟩
    rcases List.mem_append.1 hv with hv | hv
    · obtain ⟨j, h1, h2, h3⟩ := (h v).1 hv
      exact ⟨j, h1, by omega, h3⟩
    · simp at hv; exact absurd hv e
theorem FitF.some_iff {w : World} {l : List Bnd} {k : Nat} {F : Fs} (h : FitF w l k F) (v : Int) : (F v).isSome = decide (v ∈ varsB l k) := by
  by_cases hv : v ∈ varsB l k
  · obtain ⟨j, _, _, _, _, p, c, e, _⟩ := (h v).1 hv
    rw [e, decide_eq_true hv]; rfl
  · rw [(h v).2 hv, decide_eq_false hv]; rfl
theorem seven_of {W : World} {b : Nat} {bv : Int} {t1 : Tm} {e1 : Option Addr} {c1 : Nat} (h : W.heap[b]? = some (.cells #[.int .i64 bv, .int .i64 t1.kind, .string t1.name, .string t1.num, .int .u64 t1.bits, .int .i64 t1.var, .slice e1 t1.args.length c1] 54 (0, 0))) : W.cell? ⟨b, 0, none⟩ = some (.int .i64 bv) ∧ W.cell? ⟨b, 1, none⟩ = some (.int .i64 t1.kind) ∧ W.cell? ⟨b, 2, none⟩ = some (.string t1.name) ∧ W.cell? ⟨b, 3, none⟩ = some (.string t1.num) ∧ W.cell? ⟨b, 4, none⟩ = some (.int .u64 t1.bits) ∧ W.cell? ⟨b, 5, none⟩ = some (.int .i64 t1.var) ∧ W.cell? ⟨b, 6, none⟩ = some (.slice e1 t1.args.length c1) :=
  ⟨(cells_of h 0).trans rfl, (cells_of h 1).trans rfl, (cells_of h 2).trans rfl, (cells_of h 3).trans rfl, (cells_of h 4).trans rfl, (cells_of h 5).trans rfl, (cells_of h 6).trans rfl⟩
set_option maxRecDepth 100000 in
set_option maxHeartbeats 16000000 in
theorem standIns_any (l : List Bnd) (q : Option Addr) (cl : Nat) (w : World) (hl : BindAt w l q) (hX : Utf w) (hD : ∀ k (h : k < l.length), AllT DomA l[k].2) (hwf : ∀ k (h : k < l.length), (Lit.int .i64 l[k].1).wf = true) (hlm : l.length ≤ 4398046511104) :
    Calls Tryz.prog 122 #[.slice q l.length cl] w fun x w' => ∃ mo : Option Nat, x = .returned (.tuple #[.map mo, .int .i64 (standE l [])]) ∧ (standE l [] = 0 → ∃ m G, mo = some m ∧ Stnd w' m l.length G ∧ FitF w l l.length G ∧ w.heap.size ≤ m) ∧ Below w.heap.size w w' := by
  have HL := hid hl
  have HX := hid hX
  have HD := hid hD
  have HWF := hid hwf
  have hlm' : (l.length : Int) ≤ 4398046511104 := by omega
  obtain ⟨r, hr⟩ : ∃ r, r = standE l [] := ⟨_, rfl⟩
  have HR := hid (show r = standE (l.drop 0) (varsB l 0) from hr)
  rw [← hr]
  clear hl hX hD hwf hr
  have hmm := @run_makeMap Tryz.prog
  obtain ⟨W0, hW0⟩ : ∃ W0, W0 = w.alloc (.map #[] 0) := ⟨_, rfl⟩
  have HM := hid (show Stnd W0 w.heap.size 0 (fun _ => none) by rw [hW0]; exact Stnd.made w)
  have HB := hid (show Below w.heap.size w W0 by rw [hW0]; exact (Below.refl _ _).alloc (Nat.le_refl _) _)
  go_enter Tryz.func122, Tryz.ntmps122
  go_wp2_with fail
  rw [← hW0]
  clear hW0 hmm
  have HF0 := hid (FitF.zero w l)
  go_loopw [13] (fun i wr => ∃ (k : Nat) (G : Fs), k ≤ l.length ∧ i = .int .i64 (k : Int) ∧ Hid (Stnd wr w.heap.size k G) ∧ Hid (FitF w l k G) ∧ Hid (r = standE (l.drop k) (varsB l k)) ∧ Hid (Below w.heap.size w wr)) (fun i _ => l.length - (intOf i).toNat)
  case atStart => exact ⟨0, _, by omega, rfl, HM, HF0, HR, HB⟩
  case round =>
    clear HM HF0 HR HB
    obtain ⟨k, G, hk, rfl, HM, HF, HR, hBr⟩ := hrel
    by_cases hlk : k < l.length
    · have hk0 : (0 : Int) ≤ (k : Int) := by omega
      have hk1 : (k : Int) < (l.length : Int) := by omega
      obtain ⟨b, o, rfl, e1, c1, hv, hs1, ht1⟩ := HL.out k hlk
      have HV := hid (heap_cell_keep hBr.out hv)
      have HS := hid (hs1.keep hBr.out)
      have HT := hid ht1
      have HE := hid (HR.out.trans (standE_drop l k hlk))
      have HDK := hid (HD.out k hlk)
      have hw := HWF.out k hlk
      have HFS := hid (fun (hn : l[k].1 ∉ varsB l k) (he : checkErr vName numOk bitsOk l[k].2 = 0) => HF.out.succ (c := c1) hlk hn he ht1)
      have HIS := hid (HF.out.some_iff l[k].1)
      have HVS := hid (varsB_succ l k hlk)
      clear hv hs1 ht1 HR
      generalize hbv : l[k].1 = bv at *
      generalize htt : l[k].2 = t1 at *
      clear hbv htt
      obtain ⟨g1, g2, g3, g4, g5, g6⟩ := HS.out
      have g0 := HV.out
      obtain ⟨Wp, hWp⟩ : ∃ Wp, Wp = wr.alloc (.cells #[.int .i64 bv, .int .i64 t1.kind, .string t1.name, .string t1.num, .int .u64 t1.bits, .int .i64 t1.var, .slice e1 t1.args.length c1] 54) := ⟨_, rfl⟩
      have BP := hid (show Below wr.heap.size wr Wp by rw [hWp]; exact (Below.refl _ _).alloc (Nat.le_refl _) _)
      have PB := hid (show Wp.heap[wr.heap.size]? = some (.cells #[.int .i64 bv, .int .i64 t1.kind, .string t1.name, .string t1.num, .int .u64 t1.bits, .int .i64 t1.var, .slice e1 t1.args.length c1] 54 (0, 0)) by rw [hWp]; exact World.alloc_heap_new wr _)
      have MP := hid (HM.out.keep BP.out)
      by_cases hin : bv ∈ varsB l k
      · have HR1 := hid (show r = 1 by rw [HE.out, if_pos (Or.inl hin)])
        go_wp2_with (first
          | (at_lookup; rw [← hWp]; refine wpList_stood _ rfl _ _ rfl ?_; refine ⟨w.heap.size, k, G, bv, rfl, MP.out, hw, rfl, ?_⟩; rw [HIS.out, decide_eq_true hin]; obtain ⟨y, hy⟩ : ∃ y, y = stood G bv := ⟨_, rfl⟩; rw [← hy]; unfold Raw.val; clear hy hWp)
          | fail)
        go_ret2
        exact ⟨none, by rw [HR1.out]; rfl, fun h => by rw [HR1.out] at h; exact absurd h (by decide), hBr.out.trans ((BP.out.trans (((Below.refl _ _).alloc (Nat.le_refl _) _).mono BP.out.size)).mono hBr.out.size)⟩
      · go_upto_region 6 with (first
          | (at_lookup; rw [← hWp]; refine wpList_stood _ rfl _ _ rfl ?_; refine ⟨w.heap.size, k, G, bv, rfl, MP.out, hw, rfl, ?_⟩; rw [HIS.out, decide_eq_false hin]; obtain ⟨y, hy⟩ : ∃ y, y = stood G bv := ⟨_, rfl⟩; rw [← hy]; unfold Raw.val; clear hy hWp)
          | fail)
        obtain ⟨Wq, hWq⟩ : ∃ Wq, Wq = Wp.alloc (.cells #[.int .i64 y.kind, .string y.name, .string y.num, .int .u64 y.bits, .int .i64 y.var, .slice y.at_ y.len y.cap, .int .i64 y.n] 152) := ⟨_, rfl⟩
        rw [← hWq]
        have BQ := hid (show Below wr.heap.size wr Wq by rw [hWq]; exact BP.out.alloc BP.out.size _)
        have PQ := hid (show Wq.heap[wr.heap.size]? = some (.cells #[.int .i64 bv, .int .i64 t1.kind, .string t1.name, .string t1.num, .int .u64 t1.bits, .int .i64 t1.var, .slice e1 t1.args.length c1] 54 (0, 0)) by rw [hWq]; exact (heap_alloc_old Wp _ (lt_of_block PB.out)).trans PB.out)
        have MQ := hid (HM.out.keep BQ.out)
        clear hWq MP PB BP g0 g1 g2 g3 g4 g5 g6
        obtain ⟨x0, x1, x2, x3, x4, x5, x6⟩ := seven_of PQ.out
        by_cases hneg : bv < 0
        · have HR1 := hid (show r = 1 by rw [HE.out, if_pos (Or.inr hneg)])
          go_wp2_with fail
          go_ret2
          exact ⟨none, by rw [HR1.out]; rfl, fun h => by rw [HR1.out] at h; exact absurd h (by decide), hBr.out.trans (BQ.out.mono hBr.out.size)⟩
        · have HE2 := hid (HE.out.trans (if_neg (fun h => h.elim hin hneg)))
          have CC := hid (show Calls Tryz.prog 66 #[(.agg #[.int .i64 t1.kind, .string t1.name, .string t1.num, .int .u64 t1.bits, .int .i64 t1.var, .slice e1 t1.args.length c1])] Wq fun x w' => x = .returned (.int .i64 (checkErr vName numOk bitsOk t1)) ∧ Below Wq.heap.size Wq w' from check_any vName numOk bitsOk DomA t1 e1 c1 Wq (HT.out.keep (hBr.out.trans (BQ.out.mono hBr.out.size))) (oracleA _ (HX.out.keep (hBr.out.trans (BQ.out.mono hBr.out.size)))) HDK.out)
          by_cases he : checkErr vName numOk bitsOk t1 = 0
          · rw [he] at CC
            have HR3 := hid (show r = standE (l.drop (k + 1)) (varsB l (k + 1)) by rw [HE2.out, if_pos he])
            have hn4 : nodes t1 ≤ 4000 := by
              unfold checkErr at he
              split at he
              · cases he
              · omega
            have HFN := hid (HFS.out hin he)
            go_upto_region 11 with (first
              | (go_at_call 66; (with_reducible refine CC.out.mono ?_); rintro x w2 ⟨rfl, hb2⟩; have BR2 := hid (BQ.out.trans (hb2.mono BQ.out.size)); have P2 := hid ((hb2.block _ (lt_of_block PQ.out)).trans PQ.out); clear hb2 CC)
              | fail)
            have SX := hid (show ∀ W : World, Below wr.heap.size wr W → W.heap[wr.heap.size]? = some (.cells #[.int .i64 bv, .int .i64 t1.kind, .string t1.name, .string t1.num, .int .u64 t1.bits, .int .i64 t1.var, .slice e1 t1.args.length c1] 54 (0, 0)) → W.cell? ⟨wr.heap.size, 0, none⟩ = some (.int .i64 bv) ∧ W.cell? ⟨wr.heap.size, 1, none⟩ = some (.int .i64 t1.kind) ∧ W.cell? ⟨wr.heap.size, 2, none⟩ = some (.string t1.name) ∧ W.cell? ⟨wr.heap.size, 3, none⟩ = some (.string t1.num) ∧ W.cell? ⟨wr.heap.size, 4, none⟩ = some (.int .u64 t1.bits) ∧ W.cell? ⟨wr.heap.size, 5, none⟩ = some (.int .i64 t1.var) ∧ W.cell? ⟨wr.heap.size, 6, none⟩ = some (.slice e1 t1.args.length c1) from fun W _ h => seven_of h)
            have BRD := hid (show Below w2.heap.size w2 w2.drew from (Below.refl _ _).drew)
            have sd := seven_of (show w2.drew.heap[wr.heap.size]? = some (.cells #[.int .i64 bv, .int .i64 t1.kind, .string t1.name, .string t1.num, .int .u64 t1.bits, .int .i64 t1.var, .slice e1 t1.args.length c1] 54 (0, 0)) from P2.out)
            have HN := hid (show ∀ W, Below w2.heap.size w2 W → Calls Tryz.prog 118 #[(.agg #[.int .i64 t1.kind, .string t1.name, .string t1.num, .int .u64 t1.bits, .int .i64 t1.var, .slice e1 t1.args.length c1])] W fun x w' => x = .returned (.int .i64 (nodes t1 : Int)) ∧ Below W.heap.size W w' from fun W h => by
              have h5 := nodes_any t1 e1 c1 W (HT.out.keep (hBr.out.trans ((BR2.out.trans (h.mono BR2.out.size)).mono hBr.out.size)))
              rwa [show capped (nodes t1) 4001 = (nodes t1 : Int) by unfold capped; rw [if_pos (by omega)]] at h5)
            clear x0 x1 x2 x3 x4 x5 x6
            refine wp_region_held_drew (S := fun W => W.cell? ⟨wr.heap.size, 0, none⟩ = some (.int .i64 bv) ∧ W.cell? ⟨wr.heap.size, 1, none⟩ = some (.int .i64 t1.kind) ∧ W.cell? ⟨wr.heap.size, 2, none⟩ = some (.string t1.name) ∧ W.cell? ⟨wr.heap.size, 3, none⟩ = some (.string t1.num) ∧ W.cell? ⟨wr.heap.size, 4, none⟩ = some (.int .u64 t1.bits) ∧ W.cell? ⟨wr.heap.size, 5, none⟩ = some (.int .i64 t1.var) ∧ W.cell? ⟨wr.heap.size, 6, none⟩ = some (.slice e1 t1.args.length c1)) (by kernel_rfl) sd (fun hHeld => ?_)
            refine' wpAnyH_take (i := 0) (v := (.map (some w.heap.size))) rfl (by decide +kernel) (by decide +kernel) (by decide +kernel) (fun _ _ _ h => h) (Or.inl ⟨by rfl, ?hyS1⟩) (by assumption) ?restS1
            case hyS1 => (intro w5 hSw; (try dsimp only at hSw); go_simp; try with_reducible rfl)
            case' restS1 => (try simp only [Act.put, List.setIfInBounds_toArray])
            refine' wpAnyH_take (i := 1) (v := (.pointer (some ⟨wr.heap.size, 0, none⟩))) rfl (by decide +kernel) (by decide +kernel) (by decide +kernel) (fun _ _ _ h => h) (Or.inl ⟨by rfl, ?hyS2⟩) (by assumption) ?restS2
            case hyS2 => (intro w5 hSw; (try dsimp only at hSw); go_simp; try with_reducible rfl)
            case' restS2 => (try simp only [Act.put])
            refine' wpAnyH_take (i := 2) (v := (.int .i64 bv)) rfl (by decide +kernel) (by decide +kernel) (by decide +kernel) (fun _ _ _ h => h) (Or.inl ⟨by rfl, ?hyS3⟩) (by assumption) ?restS3
            case hyS3 => (intro w5 hSw; (try dsimp only at hSw); go_simp; try with_reducible rfl)
            case' restS3 => (try simp only [Act.put])
            refine' wpAnyH_take (i := 3) (v := (.pointer (some ⟨wr.heap.size, 1, none⟩))) rfl (by decide +kernel) (by decide +kernel) (by decide +kernel) (fun _ _ _ h => h) (Or.inl ⟨by rfl, ?hyS4⟩) (by assumption) ?restS4
            case hyS4 => (intro w5 hSw; (try dsimp only at hSw); go_simp; try with_reducible rfl)
            case' restS4 => (try simp only [Act.put])
            refine' wpAnyH_take (i := 4) (v := (.agg #[.int .i64 t1.kind, .string t1.name, .string t1.num, .int .u64 t1.bits, .int .i64 t1.var, .slice e1 t1.args.length c1])) rfl (by decide +kernel) (by decide +kernel) (by decide +kernel) (fun _ _ _ h => h) (Or.inl ⟨by rfl, ?hyS5⟩) (by assumption) ?restS5
            case hyS5 => (intro w5 hSw; (try dsimp only at hSw); go_simp; try with_reducible rfl)
            case' restS5 => (try simp only [Act.put])
            refine' wpAnyH_take (i := 5) (v := (.pointer (some ⟨wr.heap.size, 1, none⟩))) rfl (by decide +kernel) (by decide +kernel) (by decide +kernel) (fun _ _ _ h => h) (Or.inl ⟨by rfl, ?hyS6⟩) (by assumption) ?restS6
            case hyS6 => (intro w5 hSw; (try dsimp only at hSw); go_simp; try with_reducible rfl)
            case' restS6 => (try simp only [Act.put])
            refine' wpAnyH_take (i := 6) (v := (.agg #[.int .i64 t1.kind, .string t1.name, .string t1.num, .int .u64 t1.bits, .int .i64 t1.var, .slice e1 t1.args.length c1])) rfl (by decide +kernel) (by decide +kernel) (by decide +kernel) (fun _ _ _ h => h) (Or.inl ⟨by rfl, ?hyS7⟩) (by assumption) ?restS7
            case hyS7 => (intro w5 hSw; (try dsimp only at hSw); go_simp; try with_reducible rfl)
            case' restS7 => (try simp only [Act.put])
            refine wpAnyH_ready (rs := [7]) (by decide +kernel) (by simp) ?_
            refine AllReadyH.cons rfl (fun K hK => ?_) AllReadyH.nil
            go_simp
            (with_reducible refine (HN.out _ BRD.out).mono ?_)
            rintro x w3 ⟨rfl, hb3⟩
            have B3 := hid (show Below w2.heap.size w2 w3 from BRD.out.trans hb3)
            clear hb3
            have P3 := hid ((B3.out.block _ (lt_of_block P2.out)).trans P2.out)
            have s3 := seven_of P3.out
            refine hK.out _ _ s3 (fun hHeld => ?_)
            clear hK K
            (try simp only [Act.put, List.setIfInBounds_toArray, List.set_cons_zero, List.set_cons_succ])
            refine wpAnyH_ready (rs := [8]) (by decide +kernel) (by simp) ?_
            refine AllReadyH.cons rfl (fun K hK => ?_) AllReadyH.nil
            go_simp
            refine hK.out _ _ s3 (fun hHeld => ?_)
            clear hK K
            (try simp only [Act.put, List.setIfInBounds_toArray, List.set_cons_zero, List.set_cons_succ])
            refine wpAnyH_ready (rs := [9]) (by decide +kernel) (by simp) ?_
            refine AllReadyH.cons rfl (fun K hK => ?_) AllReadyH.nil
            have BR3 := hid (show Below wr.heap.size wr w3 from BR2.out.trans (B3.out.mono BR2.out.size))
            refine step_stand rfl _ _ _ rfl ?_
            refine ⟨w.heap.size, k, G, bv, rawOf t1 e1 c1, by simp [Act.eval], HM.out.keep BR3.out, by unfold maxLen; omega, hw, by simp [Act.eval], by simp [Act.eval, rawOf, Raw.val], ?_⟩
            intro w4 hst hgr
            have HST := hid hst
            have HGR := hid hgr
            have P4 := hid ((hgr.block _ (lt_of_block P3.out) (fun e => by have h1 := Option.some.inj e; have h2 := HM.out.lt; omega)).trans P3.out)
            have B4 := hid ((hBr.out.trans (BR3.out.mono hBr.out.size)).grown hgr (by have := BR3.out.size; have := hBr.out.size; omega) (fun x e => by cases e; exact Nat.le_refl _))
            clear hst hgr
            have s4 := seven_of P4.out
            refine hK.out _ _ s4 (fun hHeld => ?_)
            clear hK K hHeld
            (try simp only [Act.put, List.setIfInBounds_toArray])
            refine wpAnyH_done (by kernel_rfl) ?_ _
            clear sd s3 s4
            go_wp2
            go_roundw
            case rel => exact ⟨k + 1, sset G bv (some (rawOf t1 e1 c1)), by omega, by go_num, HST, HFN, HR3, B4⟩
            case measure => simp [intOf]; omega
          · generalize checkErr vName numOk bitsOk t1 = z at *
            have hq : (z == 0) = false := beq_eq_false_iff_ne.2 he
            have hq2 : (z != 0) = true := by simp [he]
            have HR1 := hid (show r = z by rw [HE2.out, if_neg he])
            have HZ := hid he
            clear he
            go_wp2_with (first
              | (go_at_call 66; (with_reducible refine CC.out.mono ?_); rintro x w2 ⟨rfl, hb2⟩; have B2 := hid (BQ.out.trans (hb2.mono BQ.out.size)); clear hb2 CC)
              | fail)
            go_ret2
            exact ⟨none, by rw [HR1.out]; rfl, fun h => absurd (HR1.out.symm.trans h) HZ.out, hBr.out.trans (B2.out.mono hBr.out.size)⟩
    · obtain rfl : k = l.length := by omega
      have HR2 := hid (show r = 0 by rw [HR.out, List.drop_length]; rfl)
      go_wp2_with fail
      go_ret2
      exact ⟨some w.heap.size, by rw [HR2.out]; rfl, fun _ => ⟨w.heap.size, G, rfl, HM.out, HF.out, Nat.le_refl _⟩, hBr.out⟩
end Go.Proofs.YtiaddfedaikaiaaGreatDoor

namespace Go.Proofs.YtiaddfedaikaiaaGreatDoor
open Go.RowKit Go.Maps

/-- By how much a variable makes a term greater. -/
def gain (F : Fs) (v : Int) : Int := match F v with | none => 0 | some x => x.n - 1
mutual
def gainT (F : Fs) : Tm → Int
  | .mk k _ _ _ v l => (if k = 1 then gain F v else 0) + gainL F l
def gainL (F : Fs) : List Tm → Int
  | [] => 0
  | t :: l => gainT F t + gainL F l
end
theorem gainT_eq (F : Fs) (t : Tm) : gainT F t = (if t.kind = 1 then gain F t.var else 0) + gainL F t.args := by cases t; rw [gainT]; rfl
theorem gainL_take (F : Fs) : ∀ (l : List Tm) (k : Nat) (h : k < l.length), gainL F (l.take (k + 1)) = gainL F (l.take k) + gainT F l[k]
  | [], k, h => by simp at h
  | t :: l, 0, _ => by simp [gainL]
  | t :: l, k + 1, h => by
    have := gainL_take F l k (by simpa using h)
    simp only [List.take_succ_cons, gainL, List.getElem_cons_succ]
    omega
mutual
theorem gainT_le {F : Fs} (h : ∀ v, 0 ≤ gain F v ∧ gain F v ≤ 4000) : ∀ t, 0 ≤ gainT F t ∧ gainT F t ≤ 4000 * (nodes t : Int)
  | .mk k _ _ _ v l => by
    have h1 := gainL_le h l
    have h2 := h v
    rw [gainT]
    unfold nodes
    split <;> omega
theorem gainL_le {F : Fs} (h : ∀ v, 0 ≤ gain F v ∧ gain F v ≤ 4000) : ∀ l, 0 ≤ gainL F l ∧ gainL F l ≤ 4000 * (nodesL l : Int)
  | [] => by simp [gainL, nodesL]
  | t :: l => by
    have h1 := gainT_le h t
    have h2 := gainL_le h l
    unfold gainL nodesL
    omega
end
/-- What lies behind the function. -/
structure PutSt (w : World) (bs bz m n : Nat) (F : Fs) (z : Int) : Prop where
  stands : w.heap[bs]? = some (.cells #[.map (some m)] 148 (0, 0))
  map : Stnd w m n F
  size : w.heap[bz]? = some (.cells #[.int .i64 z] 3 (0, 0))
theorem PutSt.keep {w w' : World} {bs bz m n : Nat} {F : Fs} {z : Int} (h : PutSt w bs bz m n F z) (hb : Below w.heap.size w w') : PutSt w' bs bz m n F z :=
  ⟨(hb.block _ (lt_of_block h.stands)).trans h.stands, h.map.keep hb, (hb.block _ (lt_of_block h.size)).trans h.size⟩
theorem PutSt.apart {w : World} {bs bz m n : Nat} {F : Fs} {z : Int} (h : PutSt w bs bz m n F z) : bs ≠ bz ∧ m ≠ bz := by
  constructor
  · rintro rfl
    have h1 := h.stands
    rw [h.size] at h1
    cases h1
  · rintro rfl
    obtain ⟨D, ⟨es, clock, h1, _⟩, _⟩ := h.map
    have h2 := h.size
    rw [h1] at h2
    cases h2
set_option maxRecDepth 100000 in
set_option maxHeartbeats 8000000 in
theorem tellP_any (bs bz m n : Nat) (F : Fs) (z v : Int) (w : World) (hP : PutSt w bs bz m n F z) (hv : (Lit.int .i64 v).wf = true) (hz : 0 ≤ z ∧ z ≤ 1099511627776) (hg : 0 ≤ gain F v ∧ gain F v ≤ 4000) :
    Calls Tryz.prog 123 #[.int .i64 v, .pointer (some ⟨bs, 0, none⟩), .pointer (some ⟨bz, 0, none⟩)] w fun e w' => e = .returned (.tuple #[]) ∧ PutSt w' bs bz m n F (z + gain F v) ∧ Chg [bz] w w' := by
  have HP := hid hP
  have HA := hid hP.apart
  have c0 := (cells_of hP.stands 0).trans rfl
  unfold gain at hg ⊢
  obtain ⟨s, hs⟩ : ∃ s, s = F v := ⟨_, rfl⟩
  have HS := hid hs
  have hst : stood F v = s.getD Raw.no := by unfold stood; rw [← hs]
  have hsm : (F v).isSome = s.isSome := by rw [← hs]
  rw [← hs] at hg ⊢
  have HST := hid hst
  have HSM := hid hsm
  clear hst hsm hs hP
  cases s with
  | none =>
    go_enter Tryz.func123, Tryz.ntmps123
    go_wp2_with (at_lookup; refine wpList_stood _ rfl _ _ rfl ?_; refine ⟨m, n, F, v, rfl, HP.out.map, hv, rfl, ?_⟩; rw [HST.out, HSM.out]; unfold Raw.val; simp only [Option.getD, Raw.no, Option.isSome])
    go_end0
    exact ⟨rfl, by simpa using HP.out.keep ((Below.refl _ _).alloc (Nat.le_refl _) _), Chg.of_below ((Below.refl _ _).alloc (Nat.le_refl _) _)⟩
  | some x =>
    have hx : 0 ≤ x.n - 1 ∧ x.n - 1 ≤ 4000 := hg
    obtain ⟨W1, hW1⟩ : ∃ W1, W1 = w.alloc (.cells #[.int .i64 x.kind, .string x.name, .string x.num, .int .u64 x.bits, .int .i64 x.var, .slice x.at_ x.len x.cap, .int .i64 x.n] 152) := ⟨_, rfl⟩
    have B1 := hid (show Below w.heap.size w W1 by rw [hW1]; exact (Below.refl _ _).alloc (Nat.le_refl _) _)
    have P1 := hid (HP.out.keep B1.out)
    have x6 := hid (show W1.cell? ⟨w.heap.size, 6, none⟩ = some (.int .i64 x.n) by rw [hW1]; exact (cells_of (World.alloc_heap_new w _) 6).trans rfl)
    clear hg
    go_enter Tryz.func123, Tryz.ntmps123
    go_upto_region 1 with (at_lookup; refine wpList_stood _ rfl _ _ rfl ?_; refine ⟨m, n, F, v, rfl, HP.out.map, hv, rfl, ?_⟩; rw [HST.out, HSM.out]; unfold Raw.val; simp only [Option.getD, Option.isSome])
    rw [← hW1]
    clear hW1
    have z0 := (cells_of P1.out.size 0).trans rfl
    have f0 : W1.frozen? ⟨bz, 0, none⟩ = false := by simp [World.frozen?, P1.out.size]
    have x6' := x6.out
    have hov : z + (x.n - 1) ≤ 1099511631776 := by omega
    go_wp2
    go_end0
    have h1 := heap_setCell_same W1 bz 0 _ _ (.int .i64 (z + (x.n - 1))) P1.out.size
    have ho : ∀ k, k ≠ bz → (W1.setCell ⟨bz, 0, none⟩ (.int .i64 (z + (x.n - 1)))).heap[k]? = W1.heap[k]? := fun k hk => Below.heap_setCell W1 ⟨bz, 0, none⟩ _ k hk
    exact ⟨rfl, ⟨(ho _ HA.out.1).trans P1.out.stands, P1.out.map.same (ho _ HA.out.2), h1⟩, (Chg.of_below B1.out).set _ _ (.inr (by simp))⟩
end Go.Proofs.YtiaddfedaikaiaaGreatDoor

namespace Go.Proofs.YtiaddfedaikaiaaGreatDoor
open Go.RowKit Go.Maps

set_option maxRecDepth 100000 in
set_option maxHeartbeats 8000000 in
theorem eachP_any (w0 : World) (bs bz m n : Nat) (F : Fs) (hb : w0.heap.size ≤ bz) (hg : ∀ v, 0 ≤ gain F v ∧ gain F v ≤ 4000) (d : Nat) : ∀ (t : Tm) (p : Option Addr) (cap : Nat) (z : Int) (w : World), nodes t ≤ d → TmAt w0 t p → AllT DomA t → Below w0.heap.size w0 w → PutSt w bs bz m n F z → 0 ≤ z → z + 4000 * (nodes t : Int) ≤ 1099511627776 →
    Calls Tryz.prog 100 #[t.val p cap, .func (.func 123) #[] #[.pointer (some ⟨bs, 0, none⟩), .pointer (some ⟨bz, 0, none⟩)]] w fun e w' => e = .returned (.tuple #[]) ∧ PutSt w' bs bz m n F (z + gainT F t) ∧ Chg [bz] w w' ∧ Below w0.heap.size w0 w' := by
  induction d with
  | zero => intro t p cap z w h; have := nodes_pos t; omega
  | succ d ih =>
    intro t p cap z w hd hT hA hB hP hz hzz
    have IH := hid ih
    have HT := hid hT
    have HA := hid hA
    have HB := hid hB
    obtain ⟨W0, hW0⟩ : ∃ W0, W0 = w.alloc (.cells #[.int .i64 t.kind, .string t.name, .string t.num, .int .u64 t.bits, .int .i64 t.var, .slice p t.args.length cap] 25) := ⟨_, rfl⟩
    have B0 := hid (show Below w.heap.size w W0 by rw [hW0]; exact (Below.refl _ _).alloc (Nat.le_refl _) _)
    have P0 := hid (show W0.heap[w.heap.size]? = some (tobj t p cap) by rw [hW0]; exact heap_alloc_new w _)
    have S0 := hid (hP.keep B0.out)
    have HP := hid hP
    have hbw : bz < w.heap.size := lt_of_block hP.size
    have hlen := hT.len
    unfold maxLen at hlen
    have HGE := hid (gainT_eq F t)
    have HNA := hid (nodes_args t)
    have HG := hid hg
    obtain ⟨r, hr⟩ : ∃ r, r = z + gainT F t := ⟨_, rfl⟩
    rw [← hr]
    have HR := hid hr
    clear ih hT hA hB hP hr
    have hv : (Lit.int .i64 t.var).wf = true := HA.out.head.var
    unfold Tm.val
    by_cases hk : t.kind = 1
    · have HR2 := hid (show r = (z + gain F t.var) + gainL F t.args by rw [HR.out, HGE.out, if_pos hk]; omega)
      have hgv := hg t.var
      have C := hid (tellP_any bs bz m n F z t.var W0 S0.out hv ⟨hz, by omega⟩ hgv)
      have hd1 : (t.kind == 1) = true := beq_iff_eq.2 hk
      rw [hk] at hW0 ⊢
      clear HR HGE hd1
      obtain ⟨z1, hz1⟩ : ∃ z1, z1 = z + gain F t.var := ⟨_, rfl⟩
      rw [← hz1] at HR2 C
      have hz1b : 0 ≤ z1 ∧ z1 ≤ z + 4000 := by omega
      clear hz1 hgv
      go_enter Tryz.func100, Tryz.ntmps100
      go_upto_region 3 with (go_at_call 123; rw [← hW0]; (with_reducible refine C.out.mono ?_); rintro e w1 ⟨rfl, hs1, hc1⟩; have S1 := hid hs1; have C1 := hid (show Chg [bz] w w1 from (Chg.of_below B0.out).trans hc1); have Q1 := hid ((hc1.same _ (lt_of_block P0.out) (by simp; omega)).trans P0.out); clear hs1 hc1 C hW0)
      obtain ⟨x0, x1, x2, x3, x4, x5⟩ := six_of Q1.out
      have BW1 := hid (show Below w0.heap.size w0 w1 from Chg.low HB.out C1.out (fun x hx => by simp at hx; omega))
      go_wp2_with fail
      go_loopw [16] (fun i wr => ∃ k : Nat, k ≤ t.args.length ∧ i = .int .i64 (k : Int) ∧ Hid (PutSt wr bs bz m n F (z1 + gainL F (t.args.take k))) ∧ Hid (Chg [bz] w wr) ∧ Hid (Below w0.heap.size w0 wr)) (fun i _ => t.args.length - (intOf i).toNat)
      case atStart => exact ⟨0, by omega, rfl, hid (by have h := S1.out; simpa [gainL] using h), C1, BW1⟩
      case round =>
        clear S1 C1 BW1
        obtain ⟨k, hk, rfl, S1, C1, hBr⟩ := hrel
        by_cases hlk : k < t.args.length
        · have hk0 : (0 : Int) ≤ (k : Int) := by omega
          have hk1 : (k : Int) < (t.args.length : Int) := by omega
          obtain ⟨b, o, rfl, e1, c1, hs1, ht1⟩ := HT.out.get k hlk
          have hg6 := hs1.keep hBr.out
          obtain ⟨y0, y1, y2, y3, y4, y5⟩ := hg6
          obtain ⟨Wp, hWp⟩ : ∃ Wp, Wp = wr.alloc (.cells #[.int .i64 t.args[k].kind, .string t.args[k].name, .string t.args[k].num, .int .u64 t.args[k].bits, .int .i64 t.args[k].var, .slice e1 t.args[k].args.length c1] 25) := ⟨_, rfl⟩
          have BP := hid (show Below wr.heap.size wr Wp by rw [hWp]; exact (Below.refl _ _).alloc (Nat.le_refl _) _)
          have HTK := hid (gainL_take F t.args k hlk)
          have hgz := (gainL_le HG.out (t.args.take k))
          have hnk := nodesL_take t.args k hlk
          have hnl := nodesL_take_le t.args (k + 1)
          have hn1 := HNA.out
          have HC := hid (IH.out t.args[k] e1 c1 (z1 + gainL F (t.args.take k)) Wp (by have := nodes_lt hlk; omega) ht1 (HA.out.arg k hlk) (hBr.out.trans (BP.out.mono hBr.out.size)) (S1.out.keep BP.out) (by omega) (by omega))
          clear hgz hnk hnl hn1 hs1 ht1
          unfold Tm.val at HC
          generalize t.args[k] = u at *
          go_wp2_with (go_at_call 100; rw [← hWp]; (with_reducible refine HC.out.mono ?_); rintro e w2 ⟨rfl, hs2, hc2, hb2⟩; have S2 := hid hs2; have C2 := hid (C1.out.trans ((Chg.of_below BP.out).trans hc2)); have B2 := hid hb2; clear hs2 hc2 hb2 hWp)
          go_roundw
          case rel => exact ⟨k + 1, by omega, by go_num, hid (by rw [HTK.out, ← Int.add_assoc]; exact S2.out), C2, B2⟩
          case measure => simp [intOf]; omega
        · obtain rfl : k = t.args.length := by omega
          go_wp2_with fail
          go_end0
          exact ⟨rfl, by have h := S1.out; rw [List.take_length] at h; rw [HR2.out]; exact h, C1.out, hBr.out⟩
    · have HR2 := hid (show r = z + gainL F t.args by rw [HR.out, HGE.out, if_neg hk]; omega)
      have hd1 : (t.kind == 1) = false := beq_eq_false_iff_ne.2 hk
      obtain ⟨z1, hz1⟩ : ∃ z1, z1 = z := ⟨_, rfl⟩
      rw [← hz1] at HR2 S0
      have hz1b : 0 ≤ z1 ∧ z1 ≤ z + 4000 := by omega
      clear HR HGE hk hz1
      go_enter Tryz.func100, Tryz.ntmps100
      go_upto_region 3 with fail
      rw [← hW0]
      obtain ⟨w1, hw1⟩ : ∃ w1, w1 = W0 := ⟨_, rfl⟩
      have S1 := hid (show PutSt w1 bs bz m n F z1 by rw [hw1]; exact S0.out)
      have C1 := hid (show Chg [bz] w w1 by rw [hw1]; exact Chg.of_below B0.out)
      have Q1 := hid (show w1.heap[w.heap.size]? = some (tobj t p cap) by rw [hw1]; exact P0.out)
      rw [← hw1]
      clear hw1 hW0 S0
      obtain ⟨x0, x1, x2, x3, x4, x5⟩ := six_of Q1.out
      have BW1 := hid (show Below w0.heap.size w0 w1 from Chg.low HB.out C1.out (fun x hx => by simp at hx; omega))
      go_wp2_with fail
      go_loopw [16] (fun i wr => ∃ k : Nat, k ≤ t.args.length ∧ i = .int .i64 (k : Int) ∧ Hid (PutSt wr bs bz m n F (z1 + gainL F (t.args.take k))) ∧ Hid (Chg [bz] w wr) ∧ Hid (Below w0.heap.size w0 wr)) (fun i _ => t.args.length - (intOf i).toNat)
      case atStart => exact ⟨0, by omega, rfl, hid (by have h := S1.out; simpa [gainL] using h), C1, BW1⟩
      case round =>
        clear S1 C1 BW1
        obtain ⟨k, hk, rfl, S1, C1, hBr⟩ := hrel
        by_cases hlk : k < t.args.length
        · have hk0 : (0 : Int) ≤ (k : Int) := by omega
          have hk1 : (k : Int) < (t.args.length : Int) := by omega
          obtain ⟨b, o, rfl, e1, c1, hs1, ht1⟩ := HT.out.get k hlk
          have hg6 := hs1.keep hBr.out
          obtain ⟨y0, y1, y2, y3, y4, y5⟩ := hg6
          obtain ⟨Wp, hWp⟩ : ∃ Wp, Wp = wr.alloc (.cells #[.int .i64 t.args[k].kind, .string t.args[k].name, .string t.args[k].num, .int .u64 t.args[k].bits, .int .i64 t.args[k].var, .slice e1 t.args[k].args.length c1] 25) := ⟨_, rfl⟩
          have BP := hid (show Below wr.heap.size wr Wp by rw [hWp]; exact (Below.refl _ _).alloc (Nat.le_refl _) _)
          have HTK := hid (gainL_take F t.args k hlk)
          have hgz := (gainL_le HG.out (t.args.take k))
          have hnk := nodesL_take t.args k hlk
          have hnl := nodesL_take_le t.args (k + 1)
          have hn1 := HNA.out
          have HC := hid (IH.out t.args[k] e1 c1 (z1 + gainL F (t.args.take k)) Wp (by have := nodes_lt hlk; omega) ht1 (HA.out.arg k hlk) (hBr.out.trans (BP.out.mono hBr.out.size)) (S1.out.keep BP.out) (by omega) (by omega))
          clear hgz hnk hnl hn1 hs1 ht1
          unfold Tm.val at HC
          generalize t.args[k] = u at *
          go_wp2_with (go_at_call 100; rw [← hWp]; (with_reducible refine HC.out.mono ?_); rintro e w2 ⟨rfl, hs2, hc2, hb2⟩; have S2 := hid hs2; have C2 := hid (C1.out.trans ((Chg.of_below BP.out).trans hc2)); have B2 := hid hb2; clear hs2 hc2 hb2 hWp)
          go_roundw
          case rel => exact ⟨k + 1, by omega, by go_num, hid (by rw [HTK.out, ← Int.add_assoc]; exact S2.out), C2, B2⟩
          case measure => simp [intOf]; omega
        · obtain rfl : k = t.args.length := by omega
          go_wp2_with fail
          go_end0
          exact ⟨rfl, by have h := S1.out; rw [List.take_length] at h; rw [HR2.out]; exact h, C1.out, hBr.out⟩
end Go.Proofs.YtiaddfedaikaiaaGreatDoor
