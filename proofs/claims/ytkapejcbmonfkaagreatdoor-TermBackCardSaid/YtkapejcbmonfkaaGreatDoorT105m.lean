/- A map from numbers to terms, as it lies in memory. Plain facts on worlds; no condition but those that each theorem names. Walks: same of two terms that may be; the function that Match hands on: may a term stand for a variable? No condition but those that each theorem names. What Match answers: plain. No condition but those that each theorem names. Walk: match at the function that Match hands on. No condition but those that the theorem names. -/
import Derived.Test.YtkapejcbmonfkaaGreatDoorT73m
import Derived.Test.YtkapejcbmonfkaaGreatDoorT76m
namespace Go.Proofs.YtkapejcbmonfkaaGreatDoor
open Go.RowKit Go.Maps

/-- A term as a map holds it: its fields, and where its arguments lie. -/
structure RawT where
  kind : Int
  name : ByteArray
  num : ByteArray
  bits : Int
  var : Int
  at_ : Option Addr
  len : Nat
  cap : Nat
def RawT.val (x : RawT) : Value := .agg #[.int .i64 x.kind, .string x.name, .string x.num, .int .u64 x.bits, .int .i64 x.var, .slice x.at_ x.len x.cap]
def RawT.dat (x : RawT) : DataW Unit := .agg [.lit (.int .i64 x.kind), .lit (.string x.name.data.toList), .lit (.string x.num.data.toList), .lit (.int .u64 x.bits), .lit (.int .i64 x.var), adrD x.at_, .lit (.int .i64 x.len), .lit (.int .i64 x.cap)]
/-- How an element of the map reads. -/
def RrawT (v : Value) : Option (DataW Unit × List MemPlace) :=
  match v with
  | .agg cs => match cs.toList with
    | [.int .i64 k, .string s, .string u, .int .u64 b, .int .i64 v, .slice p l c] => some ((⟨k, s, u, b, v, p, l, c⟩ : RawT).dat, [])
    | _ => none
  | _ => none
theorem RrawT_val (x : RawT) : RrawT x.val = some (x.dat, []) := rfl
theorem RrawT_inv {v : Value} {z : DataW Unit × List MemPlace} (h : RrawT v = some z) : ∃ x : RawT, v = x.val ∧ z = (x.dat, []) := by
  cases v with
  | agg cs =>
    simp only [RrawT] at h
    split at h
    · rename_i k s u b v p l c e
      refine ⟨⟨k, s, u, b, v, p, l, c⟩, ?_, (Option.some.inj h).symm⟩
      unfold RawT.val
      congr 1
      exact Array.toList_inj.1 e
    · cases h
  | _ => simp [RrawT] at h
theorem rawT_inj {x y : RawT} (h : x.dat = y.dat) : x = y := by
  cases x; cases y
  unfold RawT.dat at h
  simp at h
  obtain ⟨h1, h2, h3, h4, h5, h6, h7, h8⟩ := h
  have hb : ∀ a b : ByteArray, a.data = b.data → a = b := fun a b e => ByteArray.ext e
  have h6 := adrD_inj h6
  subst h1 h4 h5 h6
  rw [hb _ _ h2, hb _ _ h3]
  have h7 := Int.ofNat.inj h7
  have h8 := Int.ofNat.inj h8
  subst h7 h8
  rfl
theorem zeroTrm (w : World) : (zeroValue 25).run Tryz.prog w = .ok (.agg #[.int .i64 0, .string ⟨#[]⟩, .string ⟨#[]⟩, .int .u64 0, .int .i64 0, .slice none 0 0]) w := by kernel_rfl
/-- What a map tells: of each number what stands for it, if anything does. -/
abbrev Ft := Int → Option RawT
def tset (F : Ft) (n : Int) (v : Option RawT) : Ft := fun m => if m = n then v else F m
def RawT.no : RawT := ⟨0, ⟨#[]⟩, ⟨#[]⟩, 0, 0, none, 0, 0⟩
def trm (F : Ft) (n : Int) : RawT := (F n).getD RawT.no
/-- The block is a map of at most so many entries that tells F. -/
def TrmM (w : World) (b n : Nat) (F : Ft) : Prop := ∃ D, w.ownsMap Tryz.prog 3 RrawT b n D ∧ Maps.IsMap D ∧ ∀ m : Int, (Lit.int .i64 m).wf = true → ∀ zd, D.atKey (.int .i64 m) zd = match F m with | .none => zd | .some x => x.dat
theorem TrmM.lt {w : World} {b n : Nat} {F : Ft} (h : TrmM w b n F) : b < w.heap.size := by obtain ⟨D, h1, _⟩ := h; exact h1.lt
theorem TrmM.made (w : World) : TrmM (w.alloc (.map #[] 0)) w.heap.size 0 (fun _ => .none) :=
  ⟨.map [], World.ownsMap_made _ _ _ _, ⟨_, rfl⟩, fun _m _ _zd => rfl⟩
theorem TrmM.same {w w' : World} {b n : Nat} {F : Ft} (h : TrmM w b n F) (hg : w'.heap[b]? = w.heap[b]?) : TrmM w' b n F := by
  obtain ⟨D, ⟨es, clock, h1, h2⟩, h3⟩ := h
  exact ⟨D, ⟨es, clock, hg.trans h1, h2⟩, h3⟩
theorem TrmM.keep {w w' : World} {b n : Nat} {F : Ft} (h : TrmM w b n F) (hb : Below w.heap.size w w') : TrmM w' b n F := h.same (hb.block b h.lt)
theorem TrmM.put_run {w : World} {b n : Nat} {F : Ft} (h : TrmM w b n F) (hn : n < maxLen) {m : Int} (hm : (Lit.int .i64 m).wf = true) (x : RawT) :
    ∃ w', (Instr.mapUpdate 106 (.map (some b)) (.int .i64 m) x.val).run Tryz.prog w = .ok () w' ∧ TrmM w' b (n + 1) (tset F m (some x)) ∧ w.grownBy w' (some b) := by
  obtain ⟨D, h1, h2, h3⟩ := h
  have hk : keyOf Tryz.prog 3 (.int .i64 m) = some (.int .i64 m) := keyOf_int_mk Tryz.underlying3 hm
  obtain ⟨w', hrun, r1, r2⟩ := h1.update intKey Tryz.underlying106 hn hk (RrawT_val x)
  refine ⟨w', hrun, ⟨_, r1, ?_, fun d hd zd => ?_⟩, r2⟩
  · obtain ⟨es, rfl⟩ := h2; exact ⟨_, rfl⟩
  · unfold tset
    by_cases e : d = m
    · subst e
      rw [if_pos rfl]
      exact Maps.atKey_put_same h2 (intKey.key hk) _ _
    · rw [if_neg e]
      rw [Maps.atKey_put_other (key_ne e)]
      exact h3 d hd zd
theorem TrmM.look_run {w : World} {b n : Nat} {F : Ft} (h : TrmM w b n F) {m : Int} (hm : (Lit.int .i64 m).wf = true) :
    (Instr.lookup 106 (.map (some b)) (.int .i64 m) true).run Tryz.prog w = .ok (.tuple #[(trm F m).val, .bool (F m).isSome]) w := by
  obtain ⟨D, ⟨es, clock, hb, hF, _, rfl⟩, _, h3⟩ := h
  have hk : keyOf Tryz.prog 3 (.int .i64 m) = some (.int .i64 m) := keyOf_int_mk Tryz.underlying3 hm
  have hat := h3 m hm
  rcases Maps.fit_look true intKey Tryz.underlying106 (zeroTrm w) hb hF hk with ⟨hrun, _, hz⟩ | ⟨e0, y, _, _, hrun, hR, hy, _⟩
  · have : F m = .none := by
      cases hf : F m with
      | none => rfl
      | some x =>
        have h4 := hat (.lit (.bool true))
        rw [hz, hf] at h4
        cases h4
    unfold trm
    rw [this]
    exact hrun
  · obtain ⟨x, hx, rfl⟩ := RrawT_inv hR
    have : F m = some x := by
      cases hf : F m with
      | none =>
        have h4 := hat (.lit (.bool true))
        rw [hy, hf] at h4
        cases h4
      | some z =>
        have h4 := hat (.lit (.bool true))
        rw [hy, hf] at h4
        rw [rawT_inj h4]
    unfold trm
    rw [this]
    rw [hx] at hrun
    exact hrun
theorem wpList_trm (w : World) {ops : Array Oper} {rest : List Oper} {o : Oper} {a : Act} {Q : Exit → Act → World → Prop}
    (hg : o.guard = .none) (m x : Operand) (hop : o.op = Op.lookup 106 m x true)
    (h : ∃ (b n : Nat) (F : Ft) (k : Int), a.eval m = .map (some b) ∧ TrmM w b n F ∧ (Lit.int .i64 k).wf = true ∧ a.eval x = .int .i64 k ∧
      wpList Tryz.prog ops Q rest (a.put o.dst (.tuple #[(trm F k).val, .bool (F k).isSome])) w) : wpList Tryz.prog ops Q (o :: rest) a w := by
  obtain ⟨b, n, F, k, hm, hT, hk, hx, hK⟩ := h
  refine wpList_plain hg fun K' hK' => ?_
  unfold Oper.wp
  simp [execOp, hop, hm, hx, hT.look_run hk, Result.andThen]
  exact hK' _ _ hK
end Go.Proofs.YtkapejcbmonfkaaGreatDoor

namespace Go.Proofs.YtkapejcbmonfkaaGreatDoor
open Go.RowKit Go.Maps

theorem ordT_same {t u : Tm} (gt : Good t) (gu : Good u) : (ordT t u == 0) = sameT t u := by
  have h1 := ordT_zero t u gt gu
  have h2 := sameT_iff t u
  cases h : sameT t u with
  | true => exact beq_iff_eq.2 (h1.2 (h2.1 h))
  | false =>
    refine beq_eq_false_iff_ne.2 fun e => ?_
    have h3 := h2.2 (h1.1 e)
    rw [h] at h3
    cases h3
set_option maxRecDepth 100000 in
set_option maxHeartbeats 4000000 in
theorem sameP_any (t u : Tm) (p q : Option Addr) (cp cq : Nat) (w : World) (hT : TmAt w t p) (hU : TmAt w u q) (gt : Good t) (gu : Good u) :
    Calls Tryz.prog 80 #[t.val p cp, u.val q cq] w fun e w' => e = .returned (.bool (sameT t u)) ∧ Below w.heap.size w w' := by
  rw [← ordT_same gt gu]
  obtain ⟨W0, hW0⟩ : ∃ W0, W0 = (w.alloc (tobj t p cp)).alloc (tobj u q cq) := ⟨_, rfl⟩
  have B0 := hid (show Below w.heap.size w W0 by rw [hW0]; exact ((Below.refl w.heap.size w).alloc (Nat.le_refl _) _).alloc (by simp) _)
  have P1 := hid (show W0.heap[w.heap.size]? = some (tobj t p cp) by rw [hW0]; exact (heap_alloc_old (w.alloc (tobj t p cp)) _ (by simp)).trans (heap_alloc_new w _))
  have P2 := hid (show W0.heap[w.heap.size + 1]? = some (tobj u q cq) by rw [hW0]; have h := heap_alloc_new (w.alloc (tobj t p cp)) (tobj u q cq); rwa [World.size_alloc] at h)
  have CS := hid (standard_any t u p q cp cq W0 (hT.keep B0.out) (hU.keep B0.out) gt gu)
  obtain ⟨x0, x1, x2, x3, x4, x5⟩ := six_of P1.out
  obtain ⟨y0, y1, y2, y3, y4, y5⟩ := six_of P2.out
  unfold tobj at hW0
  unfold Tm.val at CS ⊢
  clear hT hU gt gu
  generalize ordT t u = z at *
  go_enter Tryz.func80, Tryz.ntmps80
  go_wp2_with (first
    | (go_at_call 47; rw [← hW0]; (with_reducible refine CS.out.mono ?_); rintro e w1 ⟨rfl, hb1⟩; have B1 := hid (B0.out.trans (hb1.mono B0.out.size)); clear hb1 CS)
    | fail)
  go_ret
  exact ⟨rfl, B1.out⟩
theorem wpList_trmPut (w : World) {ops : Array Oper} {rest : List Oper} {o : Oper} {a : Act} {Q : Exit → Act → World → Prop}
    (hg : o.guard = .none) (m x v : Operand) (hop : o.op = Op.mapUpdate 106 m x v)
    (h : ∃ (b n : Nat) (F : Ft) (k : Int) (y : RawT), a.eval m = .map (some b) ∧ TrmM w b n F ∧ n < maxLen ∧ (Lit.int .i64 k).wf = true ∧ a.eval x = .int .i64 k ∧ a.eval v = y.val ∧
      ∀ w', TrmM w' b (n + 1) (tset F k (some y)) → w.grownBy w' (some b) → wpList Tryz.prog ops Q rest (a.put o.dst undef) w') : wpList Tryz.prog ops Q (o :: rest) a w := by
  obtain ⟨b, n, F, k, y, hm, hT, hn, hk, hx, hv, hK⟩ := h
  refine wpList_plain hg fun K' hK' => ?_
  obtain ⟨w', hrun, r1, r2⟩ := hT.put_run hn hk y
  unfold Oper.wp
  simp [execOp, hop, hm, hx, hv, hrun, Result.andThen]
  exact hK' _ _ (hK w' r1 r2)
/-- A term as a map holds it. -/
def rawT (t : Tm) (p : Option Addr) (c : Nat) : RawT := ⟨t.kind, t.name, t.num, t.bits, t.var, p, t.args.length, c⟩
/-- What Match keeps: a map, in a box. -/
structure MatSt (w : World) (bf bm n : Nat) (F : Ft) : Prop where
  box : w.cell? ⟨bf, 0, none⟩ = some (.map (some bm))
  map : TrmM w bm n F
/-- A map tells what some binds say, of terms that lie in a world. -/
def FitM (w : World) (l : List Bnd) (F : Ft) : Prop := ∀ v, match lookB l v with
  | none => F v = none
  | some u => Good u ∧ ∃ p c, F v = some (rawT u p c) ∧ TmAt w u p
theorem mapU_ne {w : World} {b n q o : Nat} {F : Ft} (h : TrmM w b n F) {v : Value} (hq : w.cell? ⟨q, o, none⟩ = some v) : q ≠ b := by
  rintro rfl
  obtain ⟨D, ⟨es, clock, h1, _⟩, _⟩ := h
  simp [World.cell?, h1] at hq
set_option maxRecDepth 100000 in
set_option maxHeartbeats 8000000 in
/-- Where something stands for the variable. -/
theorem matchOld_any (bf bm n : Nat) (F : Ft) (v : Int) (u t : Tm) (pu p : Option Addr) (cu c : Nat) (w : World) (hS : MatSt w bf bm n F) (hv : (Lit.int .i64 v).wf = true) (hF : F v = some (rawT u pu cu)) (hu : TmAt w u pu) (gu : Good u) (ht : TmAt w t p) (gt : Good t) :
    Calls Tryz.prog 83 #[.int .i64 v, t.val p c, .pointer (some ⟨bf, 0, none⟩)] w fun e w' => e = .returned (.bool (sameT u t)) ∧ Below w.heap.size w w' := by
  obtain ⟨W0, hW0⟩ : ∃ W0, W0 = w.alloc (tobj t p c) := ⟨_, rfl⟩
  have B0 := hid (show Below w.heap.size w W0 by rw [hW0]; exact (Below.refl _ _).alloc (Nat.le_refl _) _)
  have P0 := hid (show W0.heap[w.heap.size]? = some (tobj t p c) by rw [hW0]; exact heap_alloc_new w _)
  have M0 := hid (hS.map.keep B0.out)
  have c0 := heap_cell_keep B0.out hS.box
  obtain ⟨W1, hW1⟩ : ∃ W1, W1 = W0.alloc (tobj u pu cu) := ⟨_, rfl⟩
  have B1 := hid (show Below W0.heap.size W0 W1 by rw [hW1]; exact (Below.refl _ _).alloc (Nat.le_refl _) _)
  have hs0 : W0.heap.size = w.heap.size + 1 := by rw [hW0]; simp
  have P1 := hid (show W1.heap[w.heap.size + 1]? = some (tobj u pu cu) by rw [hW1, ← hs0]; exact heap_alloc_new W0 _)
  have P01 := hid (obj_keep P0.out B1.out)
  have B01 := hid (B0.out.trans (B1.out.mono B0.out.size))
  have CS := hid (sameP_any u t pu p cu c W1 (hu.keep B01.out) (ht.keep B01.out) gu gt)
  have HL := hid (show (trm F v).val = .agg #[.int .i64 u.kind, .string u.name, .string u.num, .int .u64 u.bits, .int .i64 u.var, .slice pu u.args.length cu] by unfold trm; rw [hF]; rfl)
  have HS := hid (show (F v).isSome = true by rw [hF]; rfl)
  obtain ⟨x0, x1, x2, x3, x4, x5⟩ := six_of P01.out
  obtain ⟨y0, y1, y2, y3, y4, y5⟩ := six_of P1.out
  unfold tobj at hW0 hW1
  unfold Tm.val at CS ⊢
  generalize sameT u t = z at *
  clear hS hF hu gu ht gt
  go_enter Tryz.func83, Tryz.ntmps83
  go_upto_region 1 with fail
  rw [← hW0]
  clear hW0
  go_upto_region 5 with (first
    | (at_lookup; refine wpList_trm _ rfl _ _ rfl ?_; refine ⟨bm, n, F, v, rfl, M0.out, hv, rfl, ?_⟩; rw [HL.out, HS.out])
    | fail)
  rw [← hW1]
  clear hW1
  go_wp2_with (first
    | (go_at_call 80; (with_reducible refine CS.out.mono ?_); rintro e w2 ⟨rfl, hb2⟩; have B2 := hid (B01.out.trans (hb2.mono B01.out.size)); clear hb2 CS)
    | fail)
  go_ret
  exact ⟨rfl, B2.out⟩
set_option maxRecDepth 100000 in
set_option maxHeartbeats 8000000 in
/-- Where nothing stands for it yet. -/
theorem matchNew_any (bf bm n : Nat) (F : Ft) (v : Int) (t : Tm) (p : Option Addr) (c : Nat) (w : World) (hS : MatSt w bf bm n F) (hv : (Lit.int .i64 v).wf = true) (hF : F v = none) (_ht : TmAt w t p) (hn : n < maxLen) :
    Calls Tryz.prog 83 #[.int .i64 v, t.val p c, .pointer (some ⟨bf, 0, none⟩)] w fun e w' => e = .returned (.bool true) ∧ MatSt w' bf bm (n + 1) (tset F v (some (rawT t p c))) ∧ Chg [bm] w w' := by
  obtain ⟨W0, hW0⟩ : ∃ W0, W0 = w.alloc (tobj t p c) := ⟨_, rfl⟩
  have B0 := hid (show Below w.heap.size w W0 by rw [hW0]; exact (Below.refl _ _).alloc (Nat.le_refl _) _)
  have P0 := hid (show W0.heap[w.heap.size]? = some (tobj t p c) by rw [hW0]; exact heap_alloc_new w _)
  have M0 := hid (hS.map.keep B0.out)
  have c0 := heap_cell_keep B0.out hS.box
  have hne : bf ≠ bm := mapU_ne hS.map hS.box
  obtain ⟨W1, hW1⟩ : ∃ W1, W1 = W0.alloc (.cells #[.int .i64 0, .string ⟨#[]⟩, .string ⟨#[]⟩, .int .u64 0, .int .i64 0, .slice none 0 0] 25) := ⟨_, rfl⟩
  have B1 := hid (show Below W0.heap.size W0 W1 by rw [hW1]; exact (Below.refl _ _).alloc (Nat.le_refl _) _)
  have P01 := hid (obj_keep P0.out B1.out)
  have M1 := hid (M0.out.keep B1.out)
  have c1 := heap_cell_keep B1.out c0
  have B01 := hid (B0.out.trans (B1.out.mono B0.out.size))
  have HL := hid (show (trm F v).val = .agg #[.int .i64 0, .string ⟨#[]⟩, .string ⟨#[]⟩, .int .u64 0, .int .i64 0, .slice none 0 0] by unfold trm; rw [hF]; rfl)
  have HS := hid (show (F v).isSome = false by rw [hF]; rfl)
  have hml := hS.map.lt
  obtain ⟨x0, x1, x2, x3, x4, x5⟩ := six_of P01.out
  have HC1 := hid c1
  unfold tobj at hW0
  unfold Tm.val
  clear hS hF _ht
  go_enter Tryz.func83, Tryz.ntmps83
  go_upto_region 1 with fail
  rw [← hW0]
  clear hW0
  go_upto_region 3 with (first
    | (at_lookup; refine wpList_trm _ rfl _ _ rfl ?_; refine ⟨bm, n, F, v, rfl, M0.out, hv, rfl, ?_⟩; rw [HL.out, HS.out])
    | fail)
  rw [← hW1]
  clear hW1
  have d0 := HC1.out
  go_wp2_with (first
    | (at_mapUpdate; refine wpList_trmPut _ rfl _ _ _ rfl ?_; refine ⟨bm, n, F, v, rawT t p c, rfl, M1.out, hn, hv, rfl, rfl, ?_⟩; intro w3 hM3 hg3; have M3 := hid hM3; have G3 := hid hg3; clear hM3 hg3)
    | fail)
  go_ret
  exact ⟨rfl, ⟨G3.out.cell HC1.out (fun e => hne (Option.some.inj e)), M3.out⟩, (Chg.of_below B01.out).trans (Chg.of_grown G3.out (fun x e => by cases e; simp))⟩
end Go.Proofs.YtkapejcbmonfkaaGreatDoor

namespace Go.Proofs.YtkapejcbmonfkaaGreatDoor

/-- A bind put among others, by its variable. -/
def insB : List Bnd → Bnd → List Bnd
  | [], x => [x]
  | y :: l, x => if x.1 < y.1 then x :: y :: l else y :: insB l x
theorem lookB_ins : ∀ (l : List Bnd) (x : Bnd) (v : Int), lookB l x.1 = none → lookB (insB l x) v = if x.1 = v then some x.2 else lookB l v
  | [], x, v, _ => by simp [insB, lookB]
  | y :: l, x, v, h => by
    have hy : y.1 ≠ x.1 := fun e => by simp [lookB, e] at h
    have hl : lookB l x.1 = none := by
      unfold lookB at h
      rwa [if_neg hy] at h
    unfold insB
    split
    · simp only [lookB]
    · simp only [lookB]
      rw [lookB_ins l x v hl]
      by_cases h1 : y.1 = v
      · rw [if_pos h1, if_pos h1, if_neg (fun e => hy (h1.trans e.symm))]
      · rw [if_neg h1, if_neg h1]
mutual
/-- What the variables of one term must stand for, that it be the other one, beside others. -/
def matT : Tm → Tm → List Bnd → Option (List Bnd)
  | .mk k n u b v l, t, S => if k = 1 then (match lookB S v with | some o => if sameT o t = true then some S else none | none => some (insB S (v, t))) else if k = t.kind ∧ n = t.name ∧ u = t.num ∧ b = t.bits ∧ l.length = t.args.length then matL l t.args S else none
def matL : List Tm → List Tm → List Bnd → Option (List Bnd)
  | [], _, S => some S
  | _ :: _, [], _ => none
  | t :: l, u :: m, S => match matT t u S with | none => none | some S' => matL l m S'
end
theorem matT_var {t u : Tm} {S : List Bnd} (h : t.kind = 1) : matT t u S = match lookB S t.var with | some o => if sameT o u = true then some S else none | none => some (insB S (t.var, u)) := by
  cases t; rw [matT, if_pos (by exact h)]; rfl
theorem matT_not {t u : Tm} {S : List Bnd} (h : t.kind ≠ 1) : matT t u S = if t.kind = u.kind ∧ t.name = u.name ∧ t.num = u.num ∧ t.bits = u.bits ∧ t.args.length = u.args.length then matL t.args u.args S else none := by
  cases t; rw [matT, if_neg (by exact h)]; rfl
/-- Of terms that are no variables and have no arguments. -/
theorem matT_leaf {t u : Tm} {S : List Bnd} (gt : Good t) (gu : Good u) (h1 : t.kind ≠ 1) (h5 : t.kind ≠ 5) : matT t u S = if sameT t u = true then some S else none := by
  have ot := gt.ok
  have ou := gu.ok
  have ha : t.args = [] := ot.args.resolve_left h5
  rw [matT_not h1, ha]
  by_cases hs : sameT t u = true
  · have e := (sameT_iff t u).1 hs
    subst e
    rw [if_pos hs, if_pos ⟨rfl, rfl, rfl, rfl, by rw [ha]⟩]
    rfl
  · rw [if_neg hs, if_neg]
    rintro ⟨e1, e2, e3, e4, e5⟩
    refine hs ((sameT_iff t u).2 ?_)
    have ev : t.var = u.var := by rw [ot.var.resolve_left h1, ou.var.resolve_left (by rw [← e1]; exact h1)]
    have ea : t.args = u.args := by
      rw [ha]
      exact (List.length_eq_zero_iff.1 e5.symm).symm
    cases t; cases u
    simp only [Tm.kind, Tm.name, Tm.num, Tm.bits, Tm.var, Tm.args] at *
    subst e1 e2 e3 e4 ev ea
    rfl
theorem matT_comp {t u : Tm} {S : List Bnd} (gt : Good t) (gu : Good u) (h5 : t.kind = 5) : matT t u S = if u.kind = 5 ∧ u.name = t.name ∧ u.args.length = t.args.length then matL t.args u.args S else none := by
  have ot := gt.ok
  have ou := gu.ok
  rw [matT_not (by omega)]
  by_cases h : u.kind = 5 ∧ u.name = t.name ∧ u.args.length = t.args.length
  · rw [if_pos h, if_pos]
    exact ⟨h5.trans h.1.symm, h.2.1.symm, by rw [ot.num.resolve_left (by omega), ou.num.resolve_left (by omega)], by rw [ot.bits.resolve_left (by omega), ou.bits.resolve_left (by omega)], h.2.2.symm⟩
  · rw [if_neg h, if_neg]
    rintro ⟨e1, e2, e3, e4, e5⟩
    exact h ⟨e1.symm.trans h5, e2.symm, e5.symm⟩
theorem matL_drop : ∀ (l m : List Tm) (k : Nat) (h : k < l.length) (h' : k < m.length) (S : List Bnd), matL (l.drop k) (m.drop k) S = match matT l[k] m[k] S with | none => none | some S' => matL (l.drop (k + 1)) (m.drop (k + 1)) S'
  | [], _, k, h, _, _ => by simp at h
  | _ :: _, [], k, _, h, _ => by simp at h
  | t :: l, u :: m, 0, _, _, S => by simp [matL]
  | t :: l, u :: m, k + 1, h, h', S => by
    have := matL_drop l m k (by simpa using h) (by simpa using h') S
    simpa using this
end Go.Proofs.YtkapejcbmonfkaaGreatDoor

namespace Go.Proofs.YtkapejcbmonfkaaGreatDoor
open Go.RowKit

theorem FitM.new {w : World} {l : List Bnd} {F : Ft} (h : FitM w l F) {v : Int} (hv : lookB l v = none) {u : Tm} {p : Option Addr} {c : Nat} (ht : TmAt w u p) (gu : Good u) : FitM w (insB l (v, u)) (tset F v (some (rawT u p c))) := fun m => by
  rw [lookB_ins l (v, u) m hv]
  unfold tset
  by_cases e : m = v
  · subst e
    rw [if_pos rfl]
    exact ⟨gu, p, c, if_pos rfl, ht⟩
  · rw [if_neg (fun e2 => e e2.symm), if_neg e]
    exact h m
set_option maxRecDepth 100000 in
set_option maxHeartbeats 8000000 in
theorem matchP_any (w0 : World) (bf bm : Nat) (hbm : w0.heap.size ≤ bm) (_hbf : w0.heap.size ≤ bf) (d : Nat) : ∀ (t u : Tm) (p q : Option Addr) (cp cq : Nat) (l : List Bnd) (F : Ft) (n : Nat) (w : World), nodes t ≤ d → TmAt w0 t p → TmAt w0 u q → Good t → Good u → Below w0.heap.size w0 w → MatSt w bf bm n F → FitM w0 l F → n + nodes t < maxLen →
    Calls Tryz.prog 82 #[t.val p cp, u.val q cq, .func (.func 83) #[] #[.pointer (some ⟨bf, 0, none⟩)]] w fun e w' => e = .returned (.bool (matT t u l).isSome) ∧ (∀ l', matT t u l = some l' → ∃ F' n', MatSt w' bf bm n' F' ∧ FitM w0 l' F' ∧ n' ≤ n + nodes t) ∧ Chg [bm] w w' := by
  induction d with
  | zero => intro t u p q cp cq l F n w h; have := nodes_pos t; omega
  | succ d ih =>
    intro t u p q cp cq l F n w hd hT hU gt gu hB0 hM hF hnm
    obtain ⟨W0, hW0⟩ : ∃ W0, W0 = (w.alloc (tobj t p cp)).alloc (tobj u q cq) := ⟨_, rfl⟩
    have hB := hid (show Below w.heap.size w W0 by rw [hW0]; exact ((Below.refl w.heap.size w).alloc (Nat.le_refl _) _).alloc (by simp) _)
    have HS2 := hid (show W0.heap[w.heap.size + 1]? = some (tobj u q cq) by rw [hW0]; have h := heap_alloc_new (w.alloc (tobj t p cp)) (tobj u q cq); rwa [World.size_alloc] at h)
    have HS1 := hid (show W0.heap[w.heap.size]? = some (tobj t p cp) by rw [hW0]; exact (heap_alloc_old (w.alloc (tobj t p cp)) _ (by simp)).trans (heap_alloc_new w _))
    have hz0 : w.heap.size + 2 ≤ W0.heap.size := by rw [hW0]; simp
    have lm := hM.map.lt
    have HM := hid (⟨heap_cell_keep hB.out hM.box, hM.map.keep hB.out⟩ : MatSt W0 bf bm n F)
    have HF := hid hF
    have hB0W := hid (hB0.trans (hB.out.mono hB0.size))
    have BWF := hid (fun (W : World) (h : Chg [bm] W0 W) => (Chg.low hB0W.out h (fun x hx => by simp at hx; omega) : Below w0.heap.size w0 W))
    have HT := hid hT
    have HU := hid hU
    have HG := hid (And.intro gt gu)
    have HNE := hid (fun k (h : k < t.args.length) => (show nodes t.args[k] ≤ d by have := nodes_lt h; omega))
    have hlt := hT.len
    have hlu := hU.len
    have hvt : (Lit.int .i64 t.var).wf = true := gt.1.head.var
    unfold maxLen at hlt hlu
    obtain ⟨x0, x1, x2, x3, x4, x5⟩ := six_of HS1.out
    obtain ⟨y0, y1, y2, y3, y4, y5⟩ := six_of HS2.out
    clear hM hF hB0 hT hU
    have IH := hid ih
    clear ih
    by_cases h1 : t.kind = 1
    · have hq1 : (t.kind == 1) = true := beq_iff_eq.2 h1
      have HE := hid (matT_var (u := u) (S := l) h1)
      have HFv := HF.out t.var
      cases hlk : lookB l t.var with
      | some ov =>
        rw [hlk] at HFv
        obtain ⟨go, po, co, hFo, hto⟩ := HFv
        have hR : matT t u l = if sameT ov u = true then some l else none := by rw [HE.out, hlk]
        have CC := hid (show Calls Tryz.prog 83 #[.int .i64 t.var, u.val q cq, .pointer (some ⟨bf, 0, none⟩)] W0 fun e w' => e = .returned (.bool (sameT ov u)) ∧ Below W0.heap.size W0 w' from matchOld_any bf bm n F t.var ov u po q co cq W0 HM.out hvt hFo (hto.keep hB0W.out) go (HU.out.keep hB0W.out) gu)
        have hRs : (matT t u l).isSome = sameT ov u := by rw [hR]; cases sameT ov u <;> rfl
        rw [hRs]
        have HR := hid (show ∀ l', matT t u l = some l' → l' = l from fun l' h => by
          rw [hR] at h
          split at h
          · exact (Option.some.inj h).symm
          · cases h)
        unfold tobj at hW0
        unfold Tm.val at CC ⊢
        clear HE hlk hR hRs go hFo hto HT HU HG HNE IH BWF h1
        generalize sameT ov u = z at *
        go_enter Tryz.func82, Tryz.ntmps82
        go_upto_region 1 with fail
        rw [← hW0]
        clear hW0
        go_wp2_with (first
          | (go_at_call 83; (with_reducible refine CC.out.mono ?_); rintro e w2 ⟨rfl, hb2⟩; have B2 := hid hb2; clear hb2 CC)
          | fail)
        go_ret
        exact ⟨rfl, fun l' h => by rw [HR.out l' h]; exact ⟨F, n, ⟨heap_cell_keep B2.out HM.out.box, HM.out.map.keep B2.out⟩, HF.out, by omega⟩, (Chg.of_below hB.out).trans (Chg.of_below B2.out)⟩
      | none =>
        rw [hlk] at HFv
        have hR : matT t u l = some (insB l (t.var, u)) := by rw [HE.out, hlk]
        have CC := hid (show Calls Tryz.prog 83 #[.int .i64 t.var, u.val q cq, .pointer (some ⟨bf, 0, none⟩)] W0 fun e w' => e = .returned (.bool true) ∧ MatSt w' bf bm (n + 1) (tset F t.var (some (rawT u q cq))) ∧ Chg [bm] W0 w' from matchNew_any bf bm n F t.var u q cq W0 HM.out hvt HFv (HU.out.keep hB0W.out) (by have := nodes_pos t; omega))
        have HN := hid (HF.out.new hlk (c := cq) HU.out gu)
        have hnp := nodes_pos t
        rw [hR]
        unfold tobj at hW0
        unfold Tm.val at CC ⊢
        clear HE hlk hR HFv HT HU HG HNE IH BWF h1
        go_enter Tryz.func82, Tryz.ntmps82
        go_upto_region 1 with fail
        rw [← hW0]
        clear hW0
        go_wp2_with (first
          | (go_at_call 83; (with_reducible refine CC.out.mono ?_); rintro e w2 ⟨rfl, hm2, hc2⟩; have M2 := hid hm2; have C2 := hid hc2; clear hm2 hc2 CC)
          | fail)
        go_ret
        exact ⟨rfl, fun l' h => by obtain rfl := Option.some.inj h; exact ⟨_, n + 1, M2.out, HN.out, by omega⟩, (Chg.of_below hB.out).trans C2.out⟩
    · have hq1 : (t.kind == 1) = false := beq_eq_false_iff_ne.2 h1
      by_cases h5 : t.kind = 5
      · have hq5 : (t.kind != 5) = false := by simp [h5]
        have hq55 : (t.kind == 5) = true := by simp [h5]
        have HE := hid (matT_comp (S := l) gt gu h5)
        have CIC := hid (isCompound_any u q cq t.name (t.args.length : Int) W0 (by unfold maxLen; omega))
        have HTL := hid (fun k (hk : k < t.args.length) => nodesL_take t.args k hk)
        have HLE := hid (nodesL_take_le t.args)
        have hna := nodes_args t
        have SX := hid (show ∀ W : World, Chg [bm] W0 W → (W.cell? ⟨w.heap.size, 5, none⟩ = some (.slice p t.args.length cp) ∧ W.cell? ⟨w.heap.size + 1, 5, none⟩ = some (.slice q u.args.length cq)) from fun W h =>
          have o1 := (h.same _ (lt_of_block HS1.out) (by simp; omega)).trans HS1.out
          have o2 := (h.same _ (lt_of_block HS2.out) (by simp; omega)).trans HS2.out
          ⟨(six_of o1).c5, (six_of o2).c5⟩)
        have SB := hid (show ∀ W : World, Chg [bm] W0 W → Six W w.heap.size 0 t p cp from fun W h => six_of ((h.same _ (lt_of_block HS1.out) (by simp; omega)).trans HS1.out))
        unfold tobj at hW0
        unfold Tm.val at CIC IH ⊢
        by_cases hc : u.kind = 5 ∧ u.name = t.name ∧ u.args.length = t.args.length
        · have hlen := hid hc.2.2
          have hR : matT t u l = matL t.args u.args l := HE.out.trans (if_pos hc)
          have hic : ((u.kind == 5) && (u.name.toList == t.name.toList) && ((u.args.length : Int) == (t.args.length : Int))) = true := by simp [hc.1, hc.2.1, hc.2.2]
          rw [hic] at CIC
          rw [hR]
          obtain ⟨r, hr⟩ : ∃ r, r = matL t.args u.args l := ⟨_, rfl⟩
          rw [← hr]
          have HR0 := hid (show r = matL (t.args.drop 0) (u.args.drop 0) l from hr)
          clear HE hR hic hc hr h1 h5
          go_enter Tryz.func82, Tryz.ntmps82
          go_upto_region 1 with fail
          rw [← hW0]
          clear hW0
          go_upto_region 7 with (first
            | (go_at_call 74; (with_reducible refine CIC.out.mono ?_); rintro e w1 ⟨rfl, hb1⟩; have C1 := hid (show Chg [bm] W0 w1 from Chg.of_below hb1); have M1 := hid (⟨heap_cell_keep hb1 HM.out.box, HM.out.map.keep hb1⟩ : MatSt w1 bf bm n F); clear hb1 CIC)
            | fail)
          clear x0 x1 x2 x3 x4 x5 y0 y1 y2 y3 y4 y5
          obtain ⟨x0, x1, x2, x3, x4, x5⟩ := SB.out w1 C1.out
          go_wp2_with fail
          clear x0 x1 x2 x3 x4 x5
          go_loopw [36] (fun i wr => ∃ (k : Nat) (lk : List Bnd) (Fk : Ft) (nk : Nat), k ≤ t.args.length ∧ i = .int .i64 (k : Int) ∧ Hid (r = matL (t.args.drop k) (u.args.drop k) lk) ∧ Hid (MatSt wr bf bm nk Fk) ∧ Hid (FitM w0 lk Fk) ∧ Hid (nk ≤ n + nodesL (t.args.take k)) ∧ Hid (Chg [bm] W0 wr)) (fun i _ => t.args.length - (intOf i).toNat)
          case atStart => exact ⟨0, l, F, n, by omega, rfl, HR0, M1, HF, hid (Nat.le_add_right _ _), C1⟩
          case round =>
            clear HR0 M1 C1 HF HM
            obtain ⟨k, lk, Fk, nk, hk, rfl, HR, MK, FK, NK, HC⟩ := hrel
            obtain ⟨g5, k5⟩ := SX.out wr HC.out
            by_cases hlt : k < t.args.length
            · have hlt2 : k < u.args.length := by rw [hlen.out]; exact hlt
              have hk0 : (0 : Int) ≤ (k : Int) := by omega
              have hk1 : (k : Int) < (t.args.length : Int) := by omega
              have hk2 : (k : Int) < (u.args.length : Int) := by omega
              obtain ⟨b, o, rfl, e1, c1, hs1, ht1⟩ := HT.out.get k hlt
              obtain ⟨b2, o2, rfl, e2, c2, hs2, ht2⟩ := HU.out.get k hlt2
              have htl := HTL.out k hlt
              have hle := HLE.out (k + 1)
              have hnk := NK.out
              have HCALL := hid (fun (W : World) (h : Below wr.heap.size wr W) => IH.out t.args[k] u.args[k] e1 e2 c1 c2 lk Fk nk W (HNE.out k hlt) ht1 ht2 (HG.out.1.arg _ (List.getElem_mem hlt)).1 (HG.out.2.arg _ (List.getElem_mem hlt2)).1 ((BWF.out wr HC.out).trans (h.mono (BWF.out wr HC.out).size)) ⟨heap_cell_keep h MK.out.box, MK.out.map.keep h⟩ FK.out (by omega))
              have HRK := hid (HR.out.trans (matL_drop t.args u.args k hlt hlt2 lk))
              have HNT := hid htl
              have RR := hid (Below.refl wr.heap.size wr)
              have RF := hid (Chg.refl [bm] wr)
              have RD := hid (show Chg [bm] wr wr.drew from Chg.of_below (Below.refl wr.heap.size wr).drew)
              clear ht1 ht2 htl hle hnk HR
              generalize t.args[k] = t1 at *
              generalize u.args[k] = u1 at *
              have SR := hid (show ∀ W : World, Chg [bm] wr W → (W.cell? ⟨w.heap.size, 5, none⟩ = some (.slice (some ⟨b, o, none⟩) t.args.length cp) ∧ W.cell? ⟨w.heap.size + 1, 5, none⟩ = some (.slice (some ⟨b2, o2, none⟩) u.args.length cq) ∧ W.cell? ⟨b, o + k * 6, none⟩ = some (.int .i64 t1.kind) ∧ W.cell? ⟨b, o + k * 6 + 1, none⟩ = some (.string t1.name) ∧ W.cell? ⟨b, o + k * 6 + 2, none⟩ = some (.string t1.num) ∧ W.cell? ⟨b, o + k * 6 + 3, none⟩ = some (.int .u64 t1.bits) ∧ W.cell? ⟨b, o + k * 6 + 4, none⟩ = some (.int .i64 t1.var) ∧ W.cell? ⟨b, o + k * 6 + 5, none⟩ = some (.slice e1 t1.args.length c1) ∧ W.cell? ⟨b2, o2 + k * 6, none⟩ = some (.int .i64 u1.kind) ∧ W.cell? ⟨b2, o2 + k * 6 + 1, none⟩ = some (.string u1.name) ∧ W.cell? ⟨b2, o2 + k * 6 + 2, none⟩ = some (.string u1.num) ∧ W.cell? ⟨b2, o2 + k * 6 + 3, none⟩ = some (.int .u64 u1.bits) ∧ W.cell? ⟨b2, o2 + k * 6 + 4, none⟩ = some (.int .i64 u1.var) ∧ W.cell? ⟨b2, o2 + k * 6 + 5, none⟩ = some (.slice e2 u1.args.length c2)) from fun W h =>
                have i1 := hs1.keep (BWF.out W (HC.out.trans h))
                have i2 := hs2.keep (BWF.out W (HC.out.trans h))
                have n := SX.out W (HC.out.trans h)
                ⟨n.1, n.2, i1.c0, i1.c1, i1.c2, i1.c3, i1.c4, i1.c5, i2.c0, i2.c1, i2.c2, i2.c3, i2.c4, i2.c5⟩)
              have sr := SR.out wr RF.out
              clear hs1 hs2 g5 k5
              cases hm : matT t1 u1 lk with
              | none =>
                rw [hm] at HCALL HRK
                have HRN := hid (show r = none from HRK.out)
                clear HRK hm
                simp only [Option.isSome] at HCALL
                go_wp2_with fail
                go_region_held3 (fun W => W.cell? ⟨w.heap.size, 5, none⟩ = some (.slice (some ⟨b, o, none⟩) t.args.length cp) ∧ W.cell? ⟨w.heap.size + 1, 5, none⟩ = some (.slice (some ⟨b2, o2, none⟩) u.args.length cq) ∧ W.cell? ⟨b, o + k * 6, none⟩ = some (.int .i64 t1.kind) ∧ W.cell? ⟨b, o + k * 6 + 1, none⟩ = some (.string t1.name) ∧ W.cell? ⟨b, o + k * 6 + 2, none⟩ = some (.string t1.num) ∧ W.cell? ⟨b, o + k * 6 + 3, none⟩ = some (.int .u64 t1.bits) ∧ W.cell? ⟨b, o + k * 6 + 4, none⟩ = some (.int .i64 t1.var) ∧ W.cell? ⟨b, o + k * 6 + 5, none⟩ = some (.slice e1 t1.args.length c1) ∧ W.cell? ⟨b2, o2 + k * 6, none⟩ = some (.int .i64 u1.kind) ∧ W.cell? ⟨b2, o2 + k * 6 + 1, none⟩ = some (.string u1.name) ∧ W.cell? ⟨b2, o2 + k * 6 + 2, none⟩ = some (.string u1.num) ∧ W.cell? ⟨b2, o2 + k * 6 + 3, none⟩ = some (.int .u64 u1.bits) ∧ W.cell? ⟨b2, o2 + k * 6 + 4, none⟩ = some (.int .i64 u1.var) ∧ W.cell? ⟨b2, o2 + k * 6 + 5, none⟩ = some (.slice e2 u1.args.length c2))
                  (first
                    | (with_reducible exact sr)
                    | (with_reducible exact SR.out _ RD.out)
                    | (with_reducible exact SR.out _ C2.out)
                    | fail)
                  ((first
                    | (go_at_call 82; (with_reducible refine (HCALL.out _ (bl_drew RR.out)).mono ?_); rintro e w2 ⟨rfl, -, hc2⟩; have C2 := hid (show Chg [bm] wr w2 from RD.out.trans hc2); clear hc2)))
                go_wp2_with fail
                go_ret
                exact ⟨by rw [HRN.out]; rfl, fun l' h => (by rw [HRN.out] at h; cases h), (Chg.of_below hB.out).trans (HC.out.trans C2.out)⟩
              | some l2 =>
                rw [hm] at HCALL HRK
                have HRN := hid (show r = matL (t.args.drop (k + 1)) (u.args.drop (k + 1)) l2 from HRK.out)
                clear HRK hm
                simp only [Option.isSome] at HCALL
                go_wp2_with fail
                go_region_held3 (fun W => W.cell? ⟨w.heap.size, 5, none⟩ = some (.slice (some ⟨b, o, none⟩) t.args.length cp) ∧ W.cell? ⟨w.heap.size + 1, 5, none⟩ = some (.slice (some ⟨b2, o2, none⟩) u.args.length cq) ∧ W.cell? ⟨b, o + k * 6, none⟩ = some (.int .i64 t1.kind) ∧ W.cell? ⟨b, o + k * 6 + 1, none⟩ = some (.string t1.name) ∧ W.cell? ⟨b, o + k * 6 + 2, none⟩ = some (.string t1.num) ∧ W.cell? ⟨b, o + k * 6 + 3, none⟩ = some (.int .u64 t1.bits) ∧ W.cell? ⟨b, o + k * 6 + 4, none⟩ = some (.int .i64 t1.var) ∧ W.cell? ⟨b, o + k * 6 + 5, none⟩ = some (.slice e1 t1.args.length c1) ∧ W.cell? ⟨b2, o2 + k * 6, none⟩ = some (.int .i64 u1.kind) ∧ W.cell? ⟨b2, o2 + k * 6 + 1, none⟩ = some (.string u1.name) ∧ W.cell? ⟨b2, o2 + k * 6 + 2, none⟩ = some (.string u1.num) ∧ W.cell? ⟨b2, o2 + k * 6 + 3, none⟩ = some (.int .u64 u1.bits) ∧ W.cell? ⟨b2, o2 + k * 6 + 4, none⟩ = some (.int .i64 u1.var) ∧ W.cell? ⟨b2, o2 + k * 6 + 5, none⟩ = some (.slice e2 u1.args.length c2))
                  (first
                    | (with_reducible exact sr)
                    | (with_reducible exact SR.out _ RD.out)
                    | (with_reducible exact SR.out _ C2.out)
                    | fail)
                  ((first
                    | (go_at_call 82; (with_reducible refine (HCALL.out _ (bl_drew RR.out)).mono ?_); rintro e w2 ⟨rfl, hs2, hc2⟩; have S2 := hid hs2; have C2 := hid (show Chg [bm] wr w2 from RD.out.trans hc2); clear hs2 hc2)))
                go_wp2_with fail
                go_roundw
                case rel =>
                  obtain ⟨F2, n2, m2, f2, hn2⟩ := S2.out l2 rfl
                  exact ⟨k + 1, l2, F2, n2, by omega, by go_num, HRN, hid m2, hid f2, hid (by have := NK.out; have := HNT.out; omega), hid (HC.out.trans C2.out)⟩
                case measure => simp [intOf]; omega
            · obtain rfl : k = t.args.length := by omega
              have HRN := hid (show r = some lk by rw [HR.out, List.drop_length, matL])
              have hle := HLE.out t.args.length
              clear HR hlt g5 k5
              go_wp2_with fail
              go_ret
              exact ⟨by rw [HRN.out]; rfl, fun l' h => by rw [HRN.out] at h; obtain rfl := Option.some.inj h; exact ⟨Fk, nk, MK.out, FK.out, by have := NK.out; omega⟩, (Chg.of_below hB.out).trans HC.out⟩
        · have hR : matT t u l = none := HE.out.trans (if_neg hc)
          have hic : ((u.kind == 5) && (u.name.toList == t.name.toList) && ((u.args.length : Int) == (t.args.length : Int))) = false := by
            rw [Bool.eq_false_iff]
            intro h
            simp only [Bool.and_eq_true, beq_iff_eq] at h
            exact hc ⟨h.1.1, bytes_ext (by rw [← ByteArray.toList_eq, ← ByteArray.toList_eq]; exact h.1.2), by omega⟩
          rw [hic] at CIC
          rw [hR]
          clear HE hR hic hc h1 h5
          go_enter Tryz.func82, Tryz.ntmps82
          go_upto_region 1 with fail
          rw [← hW0]
          clear hW0
          go_wp2_with (first
            | (go_at_call 74; (with_reducible refine CIC.out.mono ?_); rintro e w1 ⟨rfl, hb1⟩; have B1 := hid hb1; clear hb1 CIC)
            | fail)
          go_ret
          exact ⟨rfl, fun l' h => (by cases h), (Chg.of_below hB.out).trans (Chg.of_below B1.out)⟩
      · have hq5 : (t.kind != 5) = true := by simp [h5]
        have hq55 : (t.kind == 5) = false := beq_eq_false_iff_ne.2 h5
        have hR := matT_leaf (S := l) gt gu h1 h5
        have CC := hid (sameP_any t u p q cp cq W0 (HT.out.keep hB0W.out) (HU.out.keep hB0W.out) gt gu)
        have hRs : (matT t u l).isSome = sameT t u := by rw [hR]; cases sameT t u <;> rfl
        rw [hRs]
        have HR := hid (show ∀ l', matT t u l = some l' → l' = l from fun l' h => by
          rw [hR] at h
          split at h
          · exact (Option.some.inj h).symm
          · cases h)
        unfold tobj at hW0
        unfold Tm.val at CC ⊢
        clear hR hRs HT HU HG HNE IH BWF h1 h5
        generalize sameT t u = z at *
        go_enter Tryz.func82, Tryz.ntmps82
        go_upto_region 1 with fail
        rw [← hW0]
        clear hW0
        go_wp2_with (first
          | (go_at_call 80; (with_reducible refine CC.out.mono ?_); rintro e w2 ⟨rfl, hb2⟩; have B2 := hid hb2; clear hb2 CC)
          | fail)
        go_ret
        exact ⟨rfl, fun l' h => by rw [HR.out l' h]; exact ⟨F, n, ⟨heap_cell_keep B2.out HM.out.box, HM.out.map.keep B2.out⟩, HF.out, by omega⟩, (Chg.of_below hB.out).trans (Chg.of_below B2.out)⟩
end Go.Proofs.YtkapejcbmonfkaaGreatDoor
