/- Walks: numbering and the function that it answers. No condition but those that each theorem names. Walks: the function that Variables hands on, eachVariable at it, Variables. No condition but those that each theorem names. Walks: eachVariable at the function that Variables hands on. No condition but those that each theorem names. Walks: Variables. No condition but those that each theorem names. -/
import Derived.Maps.OwnOps
import Derived.Maps.OwnSet
import Derived.Test.YtiaddfedaikaiaaGreatDoorT6m
import Derived.RangeFuncBox
import Derived.Deep.RegionHeld3
import Derived.Laws.EntriesVeiled
namespace Go.Proofs.YtiaddfedaikaiaaGreatDoor
open Go.RowKit Go.Maps

theorem intKey : Keyed Tryz.prog 3 := int_keyed Tryz.underlying3
theorem zeroInt (w : World) : (zeroValue 3).run Tryz.prog w = .ok (.int .i64 0) w := by kernel_rfl
/-- The numbers that were given, in a map: each one's place. -/
def Nums (w : World) (b : Nat) (S : List Int) : Prop :=
  ∃ D : DataW Unit, w.ownsMap Tryz.prog 3 (plainElem Tryz.prog 3) b S.length D ∧ Tidy D ∧ Maps.size D = S.length ∧ ∀ n : Int, Maps.has D (.int .i64 n) = decide (n ∈ S) ∧ ∀ z, D.atKey (.int .i64 n) z = if n ∈ S then .lit (.int .i64 (S.idxOf n : Nat)) else z
/-- A number is met. -/
def addN (S : List Int) (n : Int) : List Int := if n ∈ S then S else S ++ [n]
theorem addN_length (S : List Int) (n : Int) : (addN S n).length ≤ S.length + 1 := by unfold addN; split <;> simp
theorem Nums.lt {w : World} {b : Nat} {S : List Int} (h : Nums w b S) : b < w.heap.size := by obtain ⟨D, h1, _⟩ := h; exact h1.lt
theorem Nums.made (w : World) : Nums (w.alloc (.map #[] 0)) w.heap.size [] :=
  ⟨.map [], World.ownsMap_made _ _ _ _, tidy_empty, rfl, fun n => ⟨by simp [Maps.has], fun z => by rw [if_neg (by simp)]; rfl⟩⟩
theorem Nums.kept {w w' : World} {b : Nat} {S : List Int} {row : Option Nat} (h : Nums w b S) (hg : w.grownBy w' row) (hne : some b ≠ row) : Nums w' b S := by
  obtain ⟨D, h1, h2⟩ := h; exact ⟨D, h1.kept hg hne, h2⟩
theorem Nums.keep {w w' : World} {b : Nat} {S : List Int} (h : Nums w b S) (hb : Below w.heap.size w w') : Nums w' b S :=
  h.kept (row := .none) ⟨hb.os, hb.tape, hb.output, hb.size, fun k hk _ => hb.block k hk⟩ (by simp)
theorem key_ne {n m : Int} (h : m ≠ n) : (Lit.int .i64 m) ≠ .int .i64 n := fun e => h (by cases e; rfl)
theorem nums_put {D : DataW Unit} {S : List Int} {n : Int} (hn : n ∉ S) (hT : Tidy D) (hs : Maps.size D = S.length) (h : ∀ n : Int, Maps.has D (.int .i64 n) = decide (n ∈ S) ∧ ∀ z, D.atKey (.int .i64 n) z = if n ∈ S then .lit (.int .i64 (S.idxOf n : Nat)) else z)
    (hk : WideAt.IsKeyLit (.int .i64 n)) : Tidy (D.put (.int .i64 n) (.lit (.int .i64 (S.length : Nat)))) ∧ Maps.size (D.put (.int .i64 n) (.lit (.int .i64 (S.length : Nat)))) = (S ++ [n]).length ∧
      ∀ m : Int, Maps.has (D.put (.int .i64 n) (.lit (.int .i64 (S.length : Nat)))) (.int .i64 m) = decide (m ∈ S ++ [n]) ∧ ∀ z, (D.put (.int .i64 n) (.lit (.int .i64 (S.length : Nat)))).atKey (.int .i64 m) z = if m ∈ S ++ [n] then .lit (.int .i64 ((S ++ [n]).idxOf m : Nat)) else z := by
  refine ⟨hT.put hk _, ?_, fun m => ?_⟩
  · rw [size_put hT, (h n).1, hs]
    simp [hn]
  · by_cases e : m = n
    · subst e
      refine ⟨?_, fun z => ?_⟩
      · rw [has_put_same hT.isMap hk]; simp
      · rw [atKey_put_same hT.isMap hk, if_pos (by simp), List.idxOf_append, if_neg hn]
        simp
    · refine ⟨?_, fun z => ?_⟩
      · rw [has_put_other (key_ne e), (h m).1]; simp [e]
      · rw [atKey_put_other (key_ne e), (h m).2]
        by_cases hm : m ∈ S
        · rw [if_pos hm, if_pos (by simp [hm]), List.idxOf_append, if_pos hm]
        · rw [if_neg hm, if_neg (by simp [hm, e])]
set_option maxRecDepth 100000 in
set_option maxHeartbeats 2000000 in
theorem number_any (g b : Nat) (S : List Int) (n : Int) (w : World) (hw : (Lit.int .i64 n).wf = true) (hg : w.cell? ⟨g, 0, none⟩ = some (.map (some b))) (hN : Nums w b S) (hl : S.length < 140737488355328) :
    Calls Tryz.prog 141 #[.int .i64 n, .pointer (some ⟨g, 0, none⟩)] w fun e w' => e = .returned (.int .i64 (S.idxOf n : Nat)) ∧ Nums w' b (addN S n) ∧ w.grownBy w' (some b) := by
  obtain ⟨D, hown, hT, hs, hD⟩ := hN
  have hkey : keyOf Tryz.prog 3 (.int .i64 n) = some (.int .i64 n) := keyOf_int_mk Tryz.underlying3 hw
  have hik := intKey.key hkey
  have HD := hid hD
  have HT := hid hT
  have HS := hid hs
  have HIK := hid hik
  have HW := hid hw
  have hgb : g ≠ b := by
    rintro rfl
    obtain ⟨es, clock, h1, _⟩ := hown
    simp [World.cell?, h1] at hg
  by_cases hm : n ∈ S
  · have hh : Maps.has D (.int .i64 n) = true := by rw [(hD n).1]; exact decide_eq_true hm
    have hat := (hD n).2 (.lit (.int .i64 0))
    rw [if_pos hm] at hat
    have HM := hid hm
    have HAT := hid hat
    clear hm hat hD hT hs
    go_enter Tryz.func141, Tryz.ntmps141
    go_wp2_with (at_lookup; refine wpList_lookup_own_ok_int _ rfl _ _ 161 rfl 3 3 .i64 intKey Tryz.underlying161 Tryz.underlying3 (zeroInt _) b S.length D rfl hown _ _ rfl hkey ?_; intro c hat hwc; rw [hh]; have HA := hid hat; clear hat hwc)
    go_ret
    have h := HA.out
    rw [HAT.out] at h
    simp at h
    refine ⟨ret_int (by rw [← h]), ?_, ?_⟩
    · unfold addN; rw [if_pos HM.out]; exact ⟨D, hown, HT.out, HS.out, HD.out⟩
    · exact ⟨rfl, rfl, rfl, Nat.le_refl _, fun _ _ _ => rfl⟩
  · have hh : Maps.has D (.int .i64 n) = false := by rw [(hD n).1]; exact decide_eq_false hm
    have HM := hid hm
    have HP := hid (nums_put hm hT hs hD hik)
    have hwl : (Lit.int .i64 (S.length : Nat)).wf = true := by
      have h1 : IntKind.i64.min = -9223372036854775808 := by decide +kernel
      have h2 : IntKind.i64.max = 9223372036854775807 := by decide +kernel
      simp [Lit.wf, h1, h2]
      omega
    clear hm hD hT hs
    go_enter Tryz.func141, Tryz.ntmps141
    go_wp2_with (first
      | (at_lookup; refine wpList_lookup_own_ok_int _ rfl _ _ 161 rfl 3 3 .i64 intKey Tryz.underlying161 Tryz.underlying3 (zeroInt _) b S.length D rfl hown _ _ rfl hkey ?_; intro c hat hwc; rw [hh]; clear hat hwc)
      | (at_len; refine wpList_len_own _ rfl _ 161 rfl 3 3 Tryz.underlying161 _ b S.length D rfl hown ?_; rw [HS.out])
      | (at_mapUpdate; refine wpList_mapUpdate_own _ rfl _ _ _ 161 rfl 3 3 intKey Tryz.underlying161 _ b S.length _ rfl hown (by unfold maxLen; omega) _ _ _ rfl rfl hkey _ [] (plainElem_int Tryz.underlying3 hwl) ?_; intro w1 hown1 hgrow1; have HO := hid hown1; have HG := hid hgrow1; clear hown1 hgrow1))
    go_ret
    refine ⟨ret_int (by rw [List.idxOf_eq_length HM.out]), ?_, HG.out⟩
    unfold addN
    rw [if_neg HM.out]
    exact ⟨_, by simpa using HO.out, HP.out⟩
theorem numbering_any (w : World) : Calls Tryz.prog 99 #[] w fun e w' => e = .returned (.func (.func 141) #[] #[.pointer (some ⟨w.heap.size + 1, 0, none⟩)]) ∧ w' = (w.alloc (.map #[] 0)).alloc (.cells #[.map (some w.heap.size)] 161) := by
  have hmm := @run_makeMap Tryz.prog
  go_enter Tryz.func99, Tryz.ntmps99
  go_wp2
  go_ret
  exact ⟨rfl, rfl⟩
end Go.Proofs.YtiaddfedaikaiaaGreatDoor

namespace Go.Proofs.YtiaddfedaikaiaaGreatDoor
open Go.RowKit Go.Maps

theorem infoInt : (Tryz.prog.info? 3).map (fun i => (i.zero, i.size, i.bytes)) = some (some (.int .i64 0), 1, 8) := by kernel_rfl
def ints (S : List Int) : List Value := S.map (Value.int .i64)
theorem wpList_appI {w : World} {ops : Array Oper} {rest : List Oper} {o : Oper} {a : Act} {Q : Exit → Act → World → Prop} (hgd : o.guard = none) (s x : Operand)
    (ho : o.op = .call { callee := .builtin .append, args := #[s, x], argTypes := #[57, 57] })
    (h : ∃ (base k : Nat) (xs : List Value) (y : Int) (c : Nat) (v : Value), a.eval s = v ∧ w.ownsRow base 3 1 v k xs ∧ (∃ g, a.eval x = .slice (some ⟨g, 0, none⟩) 1 c ∧ w.heap[g]? = some (.cells #[.int .i64 y] 3 (0, 0))) ∧ k + 1 ≤ maxLen ∧ (k + 1) * 8 ≤ 140737488355328 ∧ base ≤ w.heap.size ∧
      ∀ v' w', w'.ownsRow base 3 1 v' (k + 1) (xs ++ [.int .i64 y]) → w.grownBy w' v.ownBlock → wpList Tryz.prog ops Q rest (a.put o.dst v') w') : wpList Tryz.prog ops Q (o :: rest) a w := by
  obtain ⟨base, k, xs, y, c, v, hs, hown, ⟨g, hx, hg⟩, hm, hb, hbase, hK⟩ := h
  obtain ⟨i0, hi, hz0, hz1, hz2⟩ := info_parts infoInt
  refine wpList_append_own w hgd s x 57 ho base 3 i0 (.int .i64 0) 1 8 Tryz.underlying57 hi hz0 hz1 hz2 rfl (by decide) v k xs hs hown ⟨g, 0, none⟩ 1 c [.int .i64 y] hx rfl ?_ (by intro u hu; simp at hu; subst hu; rfl) hm hb hbase ?_
  · intro j u hj
    match j, hj with
    | 0, hj => simp at hj; subst hj; simp [Addr.add, World.cell?, hg]
  · intro v' w' h1 h2 _
    exact hK v' w' h1 h2
theorem rowI_form {w : World} {base n : Nat} {v : Value} {xs : List Value} (h : w.ownsRow base 3 1 v n xs) : ∃ p cap, v = .slice p n cap := by
  rcases h.2 with ⟨rfl, rfl⟩ | ⟨g, cap, cur, rfl, _⟩
  · exact ⟨_, _, rfl⟩
  · exact ⟨_, _, rfl⟩

/-- What Variables keeps: the numbers that were met, in a list of its own and in a map. -/
structure VarSt (w : World) (bo bg bm bn R : Nat) (S : List Int) : Prop where
  fn : w.cell? ⟨bn, 0, none⟩ = some (.func (.func 141) #[] #[.pointer (some ⟨bg, 0, none⟩)])
  gg : w.cell? ⟨bg, 0, none⟩ = some (.map (some bm))
  num : Nums w bm S
  ex : ∃ v, Boxed w bo 57 v ∧ w.ownsRow R 3 1 v S.length (ints S)
  lo : bo < R
  lg : bg < R
  lm : bm < R
  ln : bn < R
  lR : R ≤ w.heap.size
theorem VarSt.keep {w w' : World} {bo bg bm bn R : Nat} {S : List Int} (h : VarSt w bo bg bm bn R S) (hb : Below w.heap.size w w') : VarSt w' bo bg bm bn R S := by
  obtain ⟨v, h1, h2⟩ := h.ex
  have hg : w.grownBy w' none := ⟨hb.os, hb.tape, hb.output, hb.size, fun k hk _ => hb.block k hk⟩
  exact ⟨heap_cell_keep hb h.fn, heap_cell_keep hb h.gg, h.num.keep hb, ⟨v, (hb.block bo (lt_of_block h1)).trans h1, h2.kept hg (by cases v.ownBlock <;> simp)⟩, h.lo, h.lg, h.lm, h.ln, Nat.le_trans h.lR hb.size⟩
theorem nums_ne {w : World} {b q o : Nat} {S : List Int} (h : Nums w b S) {v : Value} (hq : w.cell? ⟨q, o, none⟩ = some v) : q ≠ b := by
  rintro rfl
  obtain ⟨D, ⟨es, clock, h1, _⟩, _⟩ := h
  simp [World.cell?, h1] at hq
/-- All but two blocks, and blocks of ints, as they were. -/
structure Kp (bo bm : Nat) (w w' : World) : Prop where
  os : w'.os = w.os
  tape : w'.tape = w.tape
  output : w'.output = w.output
  size : w.heap.size ≤ w'.heap.size
  same : ∀ k, k < w.heap.size → k ≠ bo → k ≠ bm → (∀ cur, w.heap[k]? ≠ some (.cells cur 3 (0, 0))) → w'.heap[k]? = w.heap[k]?
theorem Kp.refl (bo bm : Nat) (w : World) : Kp bo bm w w := ⟨rfl, rfl, rfl, Nat.le_refl _, fun _ _ _ _ _ => rfl⟩
theorem Kp.trans {bo bm : Nat} {a b c : World} (h : Kp bo bm a b) (k : Kp bo bm b c) : Kp bo bm a c :=
  ⟨k.os.trans h.os, k.tape.trans h.tape, k.output.trans h.output, Nat.le_trans h.size k.size, fun i hi h1 h2 h3 => by
    have e := h.same i hi h1 h2 h3
    exact (k.same i (Nat.lt_of_lt_of_le hi h.size) h1 h2 (fun cur => by rw [e]; exact h3 cur)).trans e⟩
theorem Kp.of_below {bo bm : Nat} {w w' : World} (h : Below w.heap.size w w') : Kp bo bm w w' := ⟨h.os, h.tape, h.output, h.size, fun k hk _ _ _ => h.block k hk⟩
theorem Kp.of_bm {bo bm : Nat} {w w' : World} (h : w.grownBy w' (some bm)) : Kp bo bm w w' := ⟨h.os, h.tape, h.output, h.size, fun k hk _ h2 _ => h.block k hk (by simpa using h2)⟩
theorem Kp.of_bo {bo bm : Nat} {w w' : World} (h : w.grownBy w' (some bo)) : Kp bo bm w w' := ⟨h.os, h.tape, h.output, h.size, fun k hk h1 _ _ => h.block k hk (by simpa using h1)⟩
theorem Kp.of_row {bo bm base n : Nat} {w w' : World} {v : Value} {xs : List Value} (hr : w.ownsRow base 3 1 v n xs) (h : w.grownBy w' v.ownBlock) : Kp bo bm w w' :=
  ⟨h.os, h.tape, h.output, h.size, fun k hk _ _ h3 => h.block k hk (fun e => by
    rcases hr.2 with ⟨rfl, _⟩ | ⟨g, cap, cur, rfl, _, q2, _⟩
    · cases e
    · cases e
      exact h3 cur q2)⟩
theorem Kp.block {bo bm : Nat} {w w' : World} (h : Kp bo bm w w') {k : Nat} {o : Obj} (hk : w.heap[k]? = some o) (h1 : k ≠ bo) (h2 : k ≠ bm) (h3 : ∀ cur, o ≠ .cells cur 3 (0, 0)) : w'.heap[k]? = some o :=
  (h.same k (lt_of_block hk) h1 h2 (fun cur e => by rw [hk] at e; exact h3 cur (Option.some.inj e))).trans hk
theorem idx_lt {S : List Int} {n : Int} (h : n ∈ S) : S.idxOf n < S.length := List.idxOf_lt_length_of_mem h
set_option maxRecDepth 100000 in
set_option maxHeartbeats 4000000 in
theorem tell_any (bo bg bm bn R : Nat) (S : List Int) (n : Int) (w : World) (hw : (Lit.int .i64 n).wf = true) (hV : VarSt w bo bg bm bn R S) (hl : (S.length + 1) * 8 ≤ 140737488351232) :
    Calls Tryz.prog 101 #[.int .i64 n, .pointer (some ⟨bn, 0, none⟩), .pointer (some ⟨bo, 0, none⟩)] w fun e w' => e = .returned (.tuple #[]) ∧ VarSt w' bo bg bm bn R (addN S n) ∧ Below (min bo bm) w w' ∧ Kp bo bm w w' := by
  obtain ⟨v, hB, hown⟩ := hV.ex
  obtain ⟨p, cap, rfl⟩ := rowI_form hown
  have HV := hid hV
  have hND := (hV.num.keep ((Below.refl w.heap.size w).drew))
  have C := hid (number_any bg bm S n w.drew hw (show w.drew.cell? ⟨bg, 0, none⟩ = _ from hV.gg) hND (by omega))
  have hmo : bo ≠ bm := nums_ne hV.num hB.cell
  have hmn : bn ≠ bm := nums_ne hV.num hV.fn
  have hmg : bg ≠ bm := nums_ne hV.num hV.gg
  have hno : bn ≠ bo := by
    intro e
    have h1 := hV.fn
    rw [e, hB.cell] at h1
    cases h1
  have hgo : bg ≠ bo := by
    intro e
    have h1 := hV.gg
    rw [e, hB.cell] at h1
    cases h1
  have c0 := hV.fn
  have c1 := hB.cell
  have d0 := show w.drew.cell? ⟨bn, 0, none⟩ = _ from c0
  have d1 := show w.drew.cell? ⟨bo, 0, none⟩ = _ from c1
  have HB := hid (show Boxed w.drew bo _ _ from hB)
  have HO := hid (show w.drew.ownsRow R _ 1 _ _ _ from hown)
  have hlR := hV.lR
  have hlo := hV.lo
  have hlm := hV.lm
  have hlg := hV.lg
  have hln := hV.ln
  have hrow : ∀ q, (Value.slice p S.length cap).ownBlock = some q → R ≤ q := fun q hq => (hown.lt q hq).1
  have HROW := hid hrow
  have hgen : ∀ W', w.drew.grownBy W' (some bm) → Nums W' bm (addN S n) → W'.cell? ⟨bn, 0, none⟩ = some (.func (.func 141) #[] #[.pointer (some ⟨bg, 0, none⟩)]) ∧ W'.cell? ⟨bg, 0, none⟩ = some (.map (some bm)) ∧ Boxed W' bo 57 (.slice p S.length cap) ∧ W'.ownsRow R 3 1 (.slice p S.length cap) S.length (ints S) := fun W' hg hN =>
    ⟨hg.cell d0 (by simpa using hmn), hg.cell (show w.drew.cell? ⟨bg, 0, none⟩ = _ from hV.gg) (by simpa using hmg), (hg.block bo (lt_of_block hB) (by simpa using hmo)).trans hB,
      HO.out.kept hg (.inr (fun e => by have := hrow bm e; omega))⟩
  have HGEN := hid hgen
  clear hgen hrow hV hB hown hND
  by_cases hm : n ∈ S
  · have hi := idx_lt hm
    have ha : addN S n = S := if_pos hm
    rw [ha] at C HGEN ⊢
    have hd : (((S.idxOf n : Nat) : Int) == ((S.length : Nat) : Int)) = false := beq_eq_false_iff_ne.2 (by omega)
    generalize S.idxOf n = ix at *
    clear hm ha hi
    go_enter Tryz.func101, Tryz.ntmps101
    go_wp2_with fail
    go_region_held3 (fun w' => w'.cell? ⟨bn, 0, none⟩ = some (.func (.func 141) #[] #[.pointer (some ⟨bg, 0, none⟩)]) ∧ w'.cell? ⟨bo, 0, none⟩ = some (.slice p S.length cap))
      (first | (with_reducible exact ⟨c0, c1⟩) | (with_reducible exact ⟨d0, d1⟩) | (with_reducible exact ⟨e0, e1⟩))
      ((first | (go_at_call 141; (with_reducible refine C.out.mono ?_); rintro e w2 ⟨rfl, hN2, hg2⟩; have N2 := hid hN2; have G2 := hid hg2; obtain ⟨e0, e2, e3, e4⟩ := HGEN.out _ hg2 hN2; have e1 := e3.cell; have E2 := hid e2; have E3 := hid e3; have E4 := hid e4; clear hN2 hg2 e2 e3 e4)))
    go_wp2
    go_end0
    have hs := G2.out.size
    exact ⟨rfl, ⟨e0, E2.out, N2.out, ⟨_, E3.out, E4.out⟩, hlo, hlg, hlm, hln, Nat.le_trans hlR hs⟩, ((Below.refl _ w).drew).grown G2.out (by have : w.drew.heap.size = w.heap.size := rfl; omega) (fun k e => by cases e; omega), (Kp.of_below ((Below.refl _ w).drew)).trans (Kp.of_bm G2.out)⟩
  · have ha : addN S n = S ++ [n] := if_neg hm
    rw [ha] at C HGEN ⊢
    have hix : S.idxOf n = S.length := List.idxOf_eq_length hm
    rw [hix] at C
    clear hm ha hix
    go_enter Tryz.func101, Tryz.ntmps101
    go_wp2_with fail
    go_region_held3 (fun w' => w'.cell? ⟨bn, 0, none⟩ = some (.func (.func 141) #[] #[.pointer (some ⟨bg, 0, none⟩)]) ∧ w'.cell? ⟨bo, 0, none⟩ = some (.slice p S.length cap))
      (first | (with_reducible exact ⟨c0, c1⟩) | (with_reducible exact ⟨d0, d1⟩) | (with_reducible exact ⟨e0, e1⟩))
      ((first | (go_at_call 141; (with_reducible refine C.out.mono ?_); rintro e w2 ⟨rfl, hN2, hg2⟩; have N2 := hid hN2; have G2 := hid hg2; obtain ⟨e0, e2, e3, e4⟩ := HGEN.out _ hg2 hN2; have e1 := e3.cell; have E0 := hid e0; have E2 := hid e2; have E3 := hid e3; have E4 := hid e4; clear hN2 hg2 e2 e3 e4)))
    have hs := G2.out.size
    have hRw : R ≤ w2.heap.size := Nat.le_trans hlR hs
    have hBl := hid (((Below.refl (min bo bm) w).drew).grown G2.out (by have : w.drew.heap.size = w.heap.size := rfl; omega) (fun k e => by cases e; omega))
    go_wp2_with (at_builtin; refine wpList_appI rfl _ _ rfl ?_; refine ⟨R, _, _, n, 1, _, rfl, World.ownsRow.alloc E4.out _, ⟨w2.heap.size, rfl, heap_alloc_new w2 _⟩, by unfold maxLen; omega, by omega, by simp; omega, ?_⟩; intro v' w5 hown' hgrow; obtain ⟨p2, cap2, rfl⟩ := rowI_form hown'; have HO5 := hid hown'; have G5 := hid hgrow; have A2 := hid (show Boxed (w2.alloc (.cells #[.int .i64 n] 3)) bo _ _ from (heap_alloc_old w2 _ (lt_of_block E3.out)).trans E3.out); have B5 := hid (show Boxed w5 bo _ _ from (hgrow.block bo (lt_of_block A2.out) (fun e => by have := HROW.out bo e.symm; omega)).trans A2.out); have f5 := B5.out.frozen; have c5 := B5.out.cell; clear hown' hgrow e0 e1)
    go_end0
    have hset := grownBy_setCell' w5 bo (.slice p2 (S.length + 1) cap2)
    have hal := (Below.refl w2.heap.size w2).alloc (Nat.le_refl _) (.cells #[.int .i64 n] 3)
    have hnb : ∀ q, q < R → some q ≠ (Value.slice p S.length cap).ownBlock := fun q hq e => by have := HROW.out q e.symm; omega
    have hz5 := G5.out.size
    have hza : (w2.alloc (.cells #[.int .i64 n] 3)).heap.size = w2.heap.size + 1 := by simp
    refine ⟨rfl, ⟨?_, ?_, ?_, ⟨_, B5.out.set _, ?_⟩, hlo, hlg, hlm, hln, ?_⟩, ?_, ?_⟩
    · exact hset.cell (G5.out.cell (heap_cell_keep hal E0.out) (hnb _ hln)) (by simpa using hno)
    · exact hset.cell (G5.out.cell (heap_cell_keep hal E2.out) (hnb _ hlg)) (by simpa using hgo)
    · exact ((N2.out.keep hal).kept G5.out (hnb _ hlm)).kept hset (by simpa using Ne.symm hmo)
    · have h : (ints S ++ [Value.int .i64 n]) = ints (S ++ [n]) := by simp [ints]
      have h2 : (S ++ [n]).length = S.length + 1 := by simp
      rw [h2, ← h]
      exact HO5.out.kept hset (.inr (fun e => by have := (HO5.out.lt bo e).1; omega))
    · have := hset.size; omega
    · exact ((hBl.out.alloc (by omega) _).grown G5.out (by omega) (fun q e => by have := HROW.out q e; omega)).grown hset (by omega) (fun q e => by cases e; omega)
    · exact ((((Kp.of_below ((Below.refl _ w).drew)).trans (Kp.of_bm G2.out)).trans (Kp.of_below hal)).trans (Kp.of_row (World.ownsRow.alloc E4.out _) G5.out)).trans (Kp.of_bo hset)
end Go.Proofs.YtiaddfedaikaiaaGreatDoor

namespace Go.Proofs.YtiaddfedaikaiaaGreatDoor
open Go.RowKit Go.Maps

mutual
/-- The variables of a term, behind others. -/
def varsT : Tm → List Int → List Int
  | .mk k _ _ _ v l, S => varsR l (if k = 1 then addN S v else S)
def varsR : List Tm → List Int → List Int
  | [], S => S
  | t :: l, S => varsR l (varsT t S)
end
theorem varsT_args (t : Tm) (S : List Int) : varsT t S = varsR t.args (if t.kind = 1 then addN S t.var else S) := by cases t with
  | mk k n u b v l => rw [varsT]; rfl
mutual
theorem varsT_length : ∀ (t : Tm) (S : List Int), (varsT t S).length ≤ S.length + nodes t
  | .mk k n u b v l, S => by
    have h := varsR_length l (if k = 1 then addN S v else S)
    have h2 := addN_length S v
    simp only [varsT, nodes]
    split at h <;> split <;> simp_all <;> omega
theorem varsR_length : ∀ (l : List Tm) (S : List Int), (varsR l S).length ≤ S.length + nodesL l
  | [], S => by simp [varsR, nodesL]
  | t :: l, S => by
    have h1 := varsT_length t S
    have h2 := varsR_length l (varsT t S)
    simp only [varsR, nodesL]
    omega
end
theorem varsR_take (S : List Int) : ∀ (l : List Tm) (k : Nat) (h : k < l.length), varsR (l.take (k + 1)) S = varsT l[k] (varsR (l.take k) S) := by
  intro l
  induction l generalizing S with
  | nil => intro k h; simp at h
  | cons t l ih =>
    intro k h
    cases k with
    | zero => simp [varsR]
    | succ k =>
      have := ih (varsT t S) k (by simpa using h)
      simpa [varsR] using this
/-- Numbers that 64 bits hold. -/
def VarOk (t : Tm) : Prop := (Lit.int .i64 t.var).wf = true
set_option maxRecDepth 100000 in
set_option maxHeartbeats 4000000 in
theorem each_any (w0 : World) (bo bg bm bn R : Nat) (ho : w0.heap.size ≤ bo) (hm : w0.heap.size ≤ bm) (d : Nat) : ∀ (t : Tm) (p : Option Addr) (cap : Nat) (S : List Int) (w : World), nodes t ≤ d → TmAt w0 t p → AllT VarOk t → Below w0.heap.size w0 w → VarSt w bo bg bm bn R S →
    (S.length + nodes t + 1) * 8 ≤ 140737488351232 →
    Calls Tryz.prog 100 #[t.val p cap, .func (.func 101) #[] #[.pointer (some ⟨bn, 0, none⟩), .pointer (some ⟨bo, 0, none⟩)]] w fun e w' => e = .returned (.tuple #[]) ∧ VarSt w' bo bg bm bn R (varsT t S) ∧ Below w0.heap.size w0 w' ∧ Kp bo bm w w' := by
  induction d with
  | zero => intro t p cap S w h; have := nodes_pos t; omega
  | succ d ih =>
    intro t p cap S w hd hT hA hB hV hl
    obtain ⟨W0, hW0⟩ : ∃ W0, W0 = w.alloc (tobj t p cap) := ⟨_, rfl⟩
    have hbw : Below w.heap.size w W0 := by rw [hW0]; exact (Below.refl w.heap.size w).alloc (Nat.le_refl _) (tobj t p cap)
    have HS := hid (show W0.heap[w.heap.size]? = some (tobj t p cap) by rw [hW0]; exact heap_alloc_new w (tobj t p cap))
    have HB := hid (hB.trans (hbw.mono hB.size))
    have HV := hid (hV.keep hbw)
    have HV0 := hid hV
    have hlen := hT.len
    have hne : ∀ k (h : k < t.args.length), nodes t.args[k] ≤ d := fun k h => by have := nodes_lt h; omega
    have HT := hid hT
    have HNE := hid hne
    have HNA := hid (nodes_args t)
    have HAA := hid (fun k hk => hA.arg k hk)
    have HVO := hid (show (Lit.int .i64 t.var).wf = true from hA.head)
    have HE := hid (varsT_args t S)
    have HTK := hid (fun Z k hk => varsR_take Z t.args k hk)
    have HTL := hid (fun k (hk : k < t.args.length) => nodesL_take t.args k hk)
    have HLE := hid (nodesL_take_le t.args)
    have HVL := hid (fun k Z => varsR_length (t.args.take k) Z)
    obtain ⟨x0, x1, x2, x3, x4, x5⟩ := six_of HS.out
    unfold tobj at hW0
    unfold Tm.val at ih ⊢
    unfold maxLen at hlen
    have IH := hid ih
    clear ih hT hA hne HS hB hV hbw
    have hsz : w.heap.size < W0.heap.size := by rw [hW0]; simp
    have HOB := hid (show W0.heap[w.heap.size]? = some (tobj t p cap) by rw [hW0]; exact heap_alloc_new w (tobj t p cap))
    have hno : w.heap.size ≠ bo := by have := HV0.out.lo; have := HV0.out.lR; omega
    have hnm : w.heap.size ≠ bm := by have := HV0.out.lm; have := HV0.out.lR; omega
    have HK0 := hid (show Kp bo bm w W0 by rw [hW0]; exact Kp.of_below ((Below.refl w.heap.size w).alloc (Nat.le_refl _) (tobj t p cap)))
    have HBX := hid (fun (W : World) (hW : Kp bo bm W0 W) => six_of (hW.block HOB.out hno hnm (fun cur e => by unfold tobj at e; cases e)))
    generalize varsT t S = Z at *
    by_cases hk : t.kind = 1
    · have HE2 := hid (show Z = varsR t.args (addN S t.var) by have h := HE.out; rwa [if_pos hk] at h)
      have hSL := addN_length S t.var
      have C := hid (tell_any bo bg bm bn R S t.var W0 HVO.out HV.out (by omega))
      have hd1 : (t.kind == 1) = true := beq_iff_eq.2 hk
      clear HE hk
      generalize addN S t.var = S1 at *
      go_enter Tryz.func100, Tryz.ntmps100
      go_wp2_with (go_at_call 101; rw [← hW0]; (with_reducible refine C.out.mono ?_); rintro e w1 ⟨rfl, hV1, hb1, hk1⟩; have V1 := hid hV1; have B1 := hid (HB.out.trans (hb1.mono (by omega))); have K1 := hid (HK0.out.trans hk1); have c5 := (HBX.out _ hk1).c5; clear hV1 hb1 hk1 C)
      have BS := hid B1.out
      go_loopw [16] (fun i wr => ∃ k : Nat, k ≤ t.args.length ∧ i = .int .i64 (k : Int) ∧ Hid (VarSt wr bo bg bm bn R (varsR (t.args.take k) S1)) ∧ Hid (Below w0.heap.size w0 wr) ∧ Hid (Kp bo bm w wr)) (fun i _ => t.args.length - (intOf i).toNat)
      case atStart => exact ⟨0, by omega, rfl, hid (by simpa [varsR] using V1.out), B1, K1⟩
      case round =>
        clear V1 B1 K1
        obtain ⟨k, hk, rfl, hV, hBr, hKr⟩ := hrel
        by_cases hlt : k < t.args.length
        · obtain ⟨b, o, hp, q, cq, hs, ht⟩ := HT.out.get k hlt
          subst hp
          have hs2 : Six wr b (o + k * 6) t.args[k] q cq := hs.keep hBr.out
          obtain ⟨y0, y1, y2, y3, y4, y5⟩ := hs2
          have HTT := hid ht
          have HNK := hid (HNE.out k hlt)
          have HAK := hid (HAA.out k hlt)
          have hvl := HVL.out k S1
          have htl := HTL.out k hlt
          have hle := HLE.out (k + 1)
          have hna := HNA.out
          have hbd : ((varsR (t.args.take k) S1).length + nodes t.args[k] + 1) * 8 ≤ 140737488351232 := by omega
          have HBD := hid hbd
          have HTS := hid (HTK.out S1 k hlt)
          have hbz := hid ((Below.refl wr.heap.size wr).alloc (Nat.le_refl _) (tobj t.args[k] q cq))
          clear hs ht hvl htl hle hna hbd
          unfold tobj at hbz
          generalize t.args[k] = u at *
          generalize varsR (t.args.take k) S1 = Sk at *
          have HC := hid (IH.out u q cq Sk _ HNK.out HTT.out HAK.out (hBr.out.trans (hbz.out.mono hBr.out.size)) (hV.out.keep hbz.out) HBD.out)
          go_wp2_with (go_at_call 100; (with_reducible refine HC.out.mono ?_); rintro e w2 ⟨rfl, hV2, hb2, hk2⟩; have V2 := hid hV2; have B2 := hid hb2; have K2 := hid ((hKr.out.trans (Kp.of_below hbz.out)).trans hk2); clear hV2 hb2 hk2)
          go_roundw
          case rel => exact ⟨k + 1, by omega, by go_num, hid (by rw [HTS.out]; exact V2.out), B2, K2⟩
          case measure => simp [intOf]; omega
        · obtain rfl : k = t.args.length := by omega
          clear hlt
          go_wp2_with fail
          go_end0
          exact ⟨rfl, by rw [HE2.out]; have h := hV.out; rwa [List.take_length] at h, hBr.out, hKr.out⟩
    · have HE2 := hid (show Z = varsR t.args S by have h := HE.out; rwa [if_neg hk] at h)
      have hd1 : (t.kind == 1) = false := beq_eq_false_iff_ne.2 hk
      have hSL : S.length ≤ S.length + 1 := Nat.le_succ _
      clear HE hk
      obtain ⟨S1, hS1⟩ : ∃ S1, S1 = S := ⟨_, rfl⟩
      rw [← hS1] at HE2 HV
      have hSL : S1.length ≤ S.length + 1 := by rw [hS1]; exact hSL
      clear hS1
      go_enter Tryz.func100, Tryz.ntmps100
      go_wp2_with fail
      rw [← hW0]
      have V1 := HV
      have B1 := HB
      have K1 := HK0
      go_loopw [16] (fun i wr => ∃ k : Nat, k ≤ t.args.length ∧ i = .int .i64 (k : Int) ∧ Hid (VarSt wr bo bg bm bn R (varsR (t.args.take k) S1)) ∧ Hid (Below w0.heap.size w0 wr) ∧ Hid (Kp bo bm w wr)) (fun i _ => t.args.length - (intOf i).toNat)
      case atStart => exact ⟨0, by omega, rfl, hid (by simpa [varsR] using V1.out), B1, K1⟩
      case round =>
        clear V1 B1 K1
        obtain ⟨k, hk, rfl, hV, hBr, hKr⟩ := hrel
        by_cases hlt : k < t.args.length
        · obtain ⟨b, o, hp, q, cq, hs, ht⟩ := HT.out.get k hlt
          subst hp
          have hs2 : Six wr b (o + k * 6) t.args[k] q cq := hs.keep hBr.out
          obtain ⟨y0, y1, y2, y3, y4, y5⟩ := hs2
          have HTT := hid ht
          have HNK := hid (HNE.out k hlt)
          have HAK := hid (HAA.out k hlt)
          have hvl := HVL.out k S1
          have htl := HTL.out k hlt
          have hle := HLE.out (k + 1)
          have hna := HNA.out
          have hbd : ((varsR (t.args.take k) S1).length + nodes t.args[k] + 1) * 8 ≤ 140737488351232 := by omega
          have HBD := hid hbd
          have HTS := hid (HTK.out S1 k hlt)
          have hbz := hid ((Below.refl wr.heap.size wr).alloc (Nat.le_refl _) (tobj t.args[k] q cq))
          clear hs ht hvl htl hle hna hbd
          unfold tobj at hbz
          generalize t.args[k] = u at *
          generalize varsR (t.args.take k) S1 = Sk at *
          have HC := hid (IH.out u q cq Sk _ HNK.out HTT.out HAK.out (hBr.out.trans (hbz.out.mono hBr.out.size)) (hV.out.keep hbz.out) HBD.out)
          go_wp2_with (go_at_call 100; (with_reducible refine HC.out.mono ?_); rintro e w2 ⟨rfl, hV2, hb2, hk2⟩; have V2 := hid hV2; have B2 := hid hb2; have K2 := hid ((hKr.out.trans (Kp.of_below hbz.out)).trans hk2); clear hV2 hb2 hk2)
          go_roundw
          case rel => exact ⟨k + 1, by omega, by go_num, hid (by rw [HTS.out]; exact V2.out), B2, K2⟩
          case measure => simp [intOf]; omega
        · obtain rfl : k = t.args.length := by omega
          clear hlt
          go_wp2_with fail
          go_end0
          exact ⟨rfl, by rw [HE2.out]; have h := hV.out; rwa [List.take_length] at h, hBr.out, hKr.out⟩
end Go.Proofs.YtiaddfedaikaiaaGreatDoor

namespace Go.Proofs.YtiaddfedaikaiaaGreatDoor
open Go.RowKit Go.Maps

theorem rowI_base {w : World} {B b n : Nat} {v : Value} {xs : List Value} (h : w.ownsRow B 3 1 v n xs) (hb : b ≤ B) : w.ownsRow b 3 1 v n xs := by
  refine ⟨h.1, ?_⟩
  rcases h.2 with h | ⟨g, cap, cur, h1, h2, h3⟩
  · exact .inl h
  · exact .inr ⟨g, cap, cur, h1, Nat.le_trans hb h2, h3⟩
section
variable (vn vi : ByteArray → Bool) (vb : Int → Bool) (D : Tm → Prop)
set_option maxRecDepth 100000 in
set_option maxHeartbeats 4000000 in
theorem variables_bad (l : List Tm) (p : Option Addr) (cap : Nat) (w : World) (hlen : l.length ≤ maxLen) (hR : l = [] ∨ ∃ b o, p = some ⟨b, o, none⟩ ∧ RowT w l b o) (hO : Oracle vn vi vb D w) (hD : AllR D l) (he : checksErr vn vi vb l ≠ 0) :
    Calls Tryz.prog 49 #[.slice p l.length cap] w fun e w' => e = .returned (.tuple #[.slice none 0 0, .int .i64 (checksErr vn vi vb l)]) ∧ Below w.heap.size w w' := by
  have C := hid (checks_any vn vi vb D l p cap w hlen hR hO hD)
  generalize checksErr vn vi vb l = y at *
  have hq : (y == 0) = false := beq_eq_false_iff_ne.2 he
  have hq2 : (y != 0) = true := by simp [he]
  clear he hR hO hD
  go_enter Tryz.func49, Tryz.ntmps49
  go_wp2_with (go_at_call 98; (with_reducible refine C.out.mono ?_); rintro e w1 ⟨rfl, hb1⟩; have B1 := hid hb1; clear hb1 C)
  go_ret2
  exact ⟨rfl, B1.out⟩
set_option maxRecDepth 100000 in
set_option maxHeartbeats 4000000 in
theorem variables_good (l : List Tm) (p : Option Addr) (cap : Nat) (w : World) (hlen : l.length ≤ maxLen) (hR : l = [] ∨ ∃ b o, p = some ⟨b, o, none⟩ ∧ RowT w l b o) (hO : Oracle vn vi vb D w) (hD : AllR D l) (he : checksErr vn vi vb l = 0) (hV : AllR VarOk l) (hsz : (nodesL l + 1) * 8 ≤ 140737488351232) :
    Calls Tryz.prog 49 #[.slice p l.length cap] w fun e w' => ∃ v, e = .returned (.tuple #[v, .int .i64 0]) ∧ w'.ownsRow w.heap.size 3 1 v (varsR l []).length (ints (varsR l [])) ∧ Below w.heap.size w w' := by
  have C := checks_any vn vi vb D l p cap w hlen hR hO hD
  rw [he] at C
  have HC := hid C
  have HR := hid hR
  have HVA := hid (fun k hk => hV.get (l := l) k hk)
  have HTK := hid (fun k hk => varsR_take [] l k hk)
  have HTL := hid (fun k (hk : k < l.length) => nodesL_take l k hk)
  have HLE := hid (nodesL_take_le l)
  have HVL := hid (fun k => varsR_length (l.take k) [])
  have hmm := @run_makeMap Tryz.prog
  clear C he hR hO hD hV
  unfold maxLen at hlen
  go_enter Tryz.func49, Tryz.ntmps49
  go_wp2_with (first
    | (go_at_call 98; (with_reducible refine HC.out.mono ?_); rintro e w1 ⟨rfl, hb1⟩; have B1 := hid hb1; clear hb1 HC)
    | (go_at_call 99; (with_reducible refine (numbering_any _).mono ?_); rintro e w2 ⟨rfl, hw2⟩; have HW2 := hid hw2; clear hw2))
  obtain ⟨W3, hW3⟩ : ∃ W3, W3 = w2.alloc (.cells #[.func (.func 141) #[] #[.pointer (some ⟨w1.heap.size + 1 + 1, 0, none⟩)]] 137) := ⟨_, rfl⟩
  rw [← hW3]
  have e2 := HW2.out
  have z0 : (w1.alloc (.cells #[.slice none 0 0] 57)).heap.size = w1.heap.size + 1 := by simp
  rw [z0] at e2
  have hs2 : w2.heap.size = w1.heap.size + 3 := by rw [e2]; simp
  have n1 := Nums.made (w1.alloc (.cells #[.slice none 0 0] 57))
  rw [z0] at n1
  have g1 := World.alloc_heap_new ((w1.alloc (.cells #[.slice none 0 0] 57)).alloc (.map #[] 0)) (.cells #[.map (some (w1.heap.size + 1))] 161)
  rw [← e2, World.size_alloc, z0] at g1
  have hb3 : Below w2.heap.size w2 W3 := by rw [hW3]; exact (Below.refl _ _).alloc (Nat.le_refl _) _
  have hb2a : Below w1.heap.size w1 (w1.alloc (.cells #[.slice none 0 0] 57)) := (Below.refl _ _).alloc (Nat.le_refl _) _
  have hb2b : Below (w1.heap.size + 1) (w1.alloc (.cells #[.slice none 0 0] 57)) w2 := by rw [e2]; exact ((Below.refl _ _).alloc (by simp) _).alloc (by simp) _
  have hb2 : Below w1.heap.size w1 w2 := hb2a.trans (hb2b.mono (by omega))
  have hb13 : Below w1.heap.size w1 W3 := hb2.trans (hb3.mono (by omega))
  have V0 : VarSt W3 w1.heap.size (w1.heap.size + 1 + 1) (w1.heap.size + 1) w2.heap.size (w2.heap.size + 1) [] := by
    refine ⟨?_, ?_, ?_, ⟨.slice none 0 0, ?_, World.ownsRow_nil _ _ _ _⟩, by omega, by omega, by omega, by omega, ?_⟩
    · rw [hW3]; exact (cells_of (World.alloc_heap_new w2 _) 0).trans rfl
    · exact heap_cell_keep hb3 ((cells_of g1 0).trans rfl)
    · refine Nums.keep ?_ hb3
      rw [e2]
      exact n1.keep ((Below.refl _ _).alloc (Nat.le_refl _) _)
    · have h : Boxed (w1.alloc (.cells #[.slice none 0 0] 57)) w1.heap.size 57 (.slice none 0 0) := Boxed.new w1 _ _
      have h2 : Boxed w2 w1.heap.size 57 (.slice none 0 0) := (hb2b.block _ (by omega)).trans h
      exact (hb3.block _ (by omega)).trans h2
    · rw [hW3]; simp
  obtain ⟨bo, hbo⟩ : ∃ bo, bo = w1.heap.size := ⟨_, rfl⟩
  have hwb : w.heap.size ≤ bo := by have := B1.out.size; omega
  obtain ⟨bn, hbn⟩ : ∃ bn, bn = w2.heap.size := ⟨_, rfl⟩
  have hbb : bo ≤ bn := by omega
  rw [← hbo, ← hbn] at V0
  rw [← hbo, ← hbn]
  have HV0 := hid V0
  have HB3 := hid (B1.out.trans (hb13.mono B1.out.size))
  clear V0 hb13 hb2 hb2b hb2a hb3 g1 n1 hs2 z0 e2 hW3 HW2 hbo hbn B1
  go_loopw [17] (fun i wr => ∃ k : Nat, k ≤ l.length ∧ i = .int .i64 (k : Int) ∧ Hid (VarSt wr bo (bo + 1 + 1) (bo + 1) bn (bn + 1) (varsR (l.take k) [])) ∧ Hid (Below w.heap.size w wr)) (fun i _ => l.length - (intOf i).toNat)
  case atStart => exact ⟨0, by omega, rfl, hid (by simpa [varsR] using HV0.out), HB3⟩
  case round =>
    clear HV0 HB3
    obtain ⟨k, hk, rfl, hV, hBr⟩ := hrel
    by_cases hlt : k < l.length
    · obtain ⟨b, o, hp, hRT⟩ : ∃ b o, p = some ⟨b, o, none⟩ ∧ RowT w l b o := by
        rcases HR.out with rfl | h
        · simp at hlt
        · exact h
      subst hp
      obtain ⟨q, cq, hs, ht⟩ := hRT.get k hlt
      have hs2 : Six wr b (o + k * 6) l[k] q cq := hs.keep hBr.out
      obtain ⟨y0, y1, y2, y3, y4, y5⟩ := hs2
      have HTT := hid ht
      have HVK := hid (HVA.out k hlt)
      have hvl := HVL.out k
      have htl := HTL.out k hlt
      have hle := HLE.out (k + 1)
      simp only [List.length_nil] at hvl
      have HBD := hid (show ((varsR (l.take k) []).length + nodes l[k] + 1) * 8 ≤ 140737488351232 by omega)
      have HTS := hid (HTK.out k hlt)
      have hbz := hid ((Below.refl wr.heap.size wr).alloc (Nat.le_refl _) (tobj l[k] q cq))
      clear hs ht hvl htl hle hRT
      unfold tobj at hbz
      generalize l[k] = u at *
      generalize varsR (l.take k) [] = Sk at *
      have EA := each_any w bo (bo + 1 + 1) (bo + 1) bn (bn + 1) hwb (by omega) (nodes u) u q cq Sk _ (Nat.le_refl _) HTT.out HVK.out (hBr.out.trans (hbz.out.mono hBr.out.size)) (hV.out.keep hbz.out) HBD.out
      unfold Tm.val at EA
      have HC := hid EA
      clear EA
      go_wp2_with (go_at_call 100; (with_reducible refine HC.out.mono ?_); rintro e w4 ⟨rfl, hV2, hb2, hk2⟩; have V2 := hid hV2; have B2 := hid hb2; clear hV2 hb2 hk2)
      go_roundw
      case rel => exact ⟨k + 1, by omega, by go_num, hid (by rw [HTS.out]; exact V2.out), B2⟩
      case measure => simp [intOf]; omega
    · obtain rfl : k = l.length := by omega
      clear hlt
      obtain ⟨v, hv1, hv2⟩ := hV.out.ex
      obtain ⟨p2, cap2, rfl⟩ := rowI_form hv2
      have hvc := hv1.cell
      have HV2 := hid hv2
      clear hv1 hv2
      go_wp2_with fail
      go_ret2
      refine ⟨_, rfl, ?_, hBr.out⟩
      have h := HV2.out
      rw [List.take_length] at h
      exact rowI_base h (by have := hV.out.ln; omega)
end
end Go.Proofs.YtiaddfedaikaiaaGreatDoor
