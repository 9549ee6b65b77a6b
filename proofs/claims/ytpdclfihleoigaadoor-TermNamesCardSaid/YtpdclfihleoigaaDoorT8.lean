/- Walks: the function that Variables hands on, eachVariable at it, Variables. No condition but those that each theorem names. -/
import Derived.Test.YtpdclfihleoigaaDoorT7
import Derived.RangeFuncBox
import Derived.Deep.RegionHeld3
namespace Go.Proofs.YtpdclfihleoigaaDoor
open Go.RowKit Go.Maps

theorem infoInt : (Tryd.prog.info? 3).map (fun i => (i.zero, i.size, i.bytes)) = some (some (.int .i64 0), 1, 8) := by kernel_rfl
def ints (S : List Int) : List Value := S.map (Value.int .i64)
theorem wpList_appI {w : World} {ops : Array Oper} {rest : List Oper} {o : Oper} {a : Act} {Q : Exit → Act → World → Prop} (hgd : o.guard = none) (s x : Operand)
    (ho : o.op = .call { callee := .builtin .append, args := #[s, x], argTypes := #[39, 39] })
    (h : ∃ (base k : Nat) (xs : List Value) (y : Int) (c : Nat) (v : Value), a.eval s = v ∧ w.ownsRow base 3 1 v k xs ∧ (∃ g, a.eval x = .slice (some ⟨g, 0, none⟩) 1 c ∧ w.heap[g]? = some (.cells #[.int .i64 y] 3 (0, 0))) ∧ k + 1 ≤ maxLen ∧ (k + 1) * 8 ≤ 140737488355328 ∧ base ≤ w.heap.size ∧
      ∀ v' w', w'.ownsRow base 3 1 v' (k + 1) (xs ++ [.int .i64 y]) → w.grownBy w' v.ownBlock → wpList Tryd.prog ops Q rest (a.put o.dst v') w') : wpList Tryd.prog ops Q (o :: rest) a w := by
  obtain ⟨base, k, xs, y, c, v, hs, hown, ⟨g, hx, hg⟩, hm, hb, hbase, hK⟩ := h
  obtain ⟨i0, hi, hz0, hz1, hz2⟩ := info_parts infoInt
  refine wpList_append_own w hgd s x 39 ho base 3 i0 (.int .i64 0) 1 8 Tryd.underlying39 hi hz0 hz1 hz2 rfl (by decide) v k xs hs hown ⟨g, 0, none⟩ 1 c [.int .i64 y] hx rfl ?_ (by intro u hu; simp at hu; subst hu; rfl) hm hb hbase ?_
  · intro j u hj
    match j, hj with
    | 0, hj => simp at hj; subst hj; simp [Addr.add, World.cell?, hg]
  · intro v' w' h1 h2 _
    exact hK v' w' h1 h2
theorem rowI_form {w : World} {base n : Nat} {v : Value} {xs : List Value} (h : w.ownsRow base 3 1 v n xs) : ∃ p cap, v = .slice p n cap := by
  rcases h.2 with ⟨rfl, rfl⟩ | ⟨g, cap, cur, rfl, _⟩
  · exact ⟨_, _, rfl⟩
  · exact ⟨_, _, rfl⟩

/-- What Variables keeps: the numbers that were met, in a list of its own and in a map. -/
structure VarSt (w : World) (bo bg bm bn R : Nat) (S : List Int) : Prop where
  fn : w.cell? ⟨bn, 0, none⟩ = some (.func (.func 37) #[] #[.pointer (some ⟨bg, 0, none⟩)])
  gg : w.cell? ⟨bg, 0, none⟩ = some (.map (some bm))
  num : Nums w bm S
  ex : ∃ v, Boxed w bo 39 v ∧ w.ownsRow R 3 1 v S.length (ints S)
  lo : bo < R
  lg : bg < R
  lm : bm < R
  ln : bn < R
  lR : R ≤ w.heap.size
theorem VarSt.keep {w w' : World} {bo bg bm bn R : Nat} {S : List Int} (h : VarSt w bo bg bm bn R S) (hb : Below w.heap.size w w') : VarSt w' bo bg bm bn R S := by
  obtain ⟨v, h1, h2⟩ := h.ex
  have hg : w.grownBy w' none := ⟨hb.os, hb.tape, hb.output, hb.size, fun k hk _ => hb.block k hk⟩
  exact ⟨heap_cell_keep hb h.fn, heap_cell_keep hb h.gg, h.num.keep hb, ⟨v, (hb.block bo (lt_of_block h1)).trans h1, h2.kept hg (by cases v.ownBlock <;> simp)⟩, h.lo, h.lg, h.lm, h.ln, Nat.le_trans h.lR hb.size⟩
theorem nums_ne {w : World} {b q o : Nat} {S : List Int} (h : Nums w b S) {v : Value} (hq : w.cell? ⟨q, o, none⟩ = some v) : q ≠ b := by
  rintro rfl
  obtain ⟨D, ⟨es, clock, h1, _⟩, _⟩ := h
  simp [World.cell?, h1] at hq
/-- All but two blocks, and blocks of ints, as they were. -/
structure Kp (bo bm : Nat) (w w' : World) : Prop where
  os : w'.os = w.os
  tape : w'.tape = w.tape
  output : w'.output = w.output
  size : w.heap.size ≤ w'.heap.size
  same : ∀ k, k < w.heap.size → k ≠ bo → k ≠ bm → (∀ cur, w.heap[k]? ≠ some (.cells cur 3 (0, 0))) → w'.heap[k]? = w.heap[k]?
theorem Kp.refl (bo bm : Nat) (w : World) : Kp bo bm w w := ⟨rfl, rfl, rfl, Nat.le_refl _, fun _ _ _ _ _ => rfl⟩
theorem Kp.trans {bo bm : Nat} {a b c : World} (h : Kp bo bm a b) (k : Kp bo bm b c) : Kp bo bm a c :=
  ⟨k.os.trans h.os, k.tape.trans h.tape, k.output.trans h.output, Nat.le_trans h.size k.size, fun i hi h1 h2 h3 => by
    have e := h.same i hi h1 h2 h3
    exact (k.same i (Nat.lt_of_lt_of_le hi h.size) h1 h2 (fun cur => by rw [e]; exact h3 cur)).trans e⟩
theorem Kp.of_below {bo bm : Nat} {w w' : World} (h : Below w.heap.size w w') : Kp bo bm w w' := ⟨h.os, h.tape, h.output, h.size, fun k hk _ _ _ => h.block k hk⟩
theorem Kp.of_bm {bo bm : Nat} {w w' : World} (h : w.grownBy w' (some bm)) : Kp bo bm w w' := ⟨h.os, h.tape, h.output, h.size, fun k hk _ h2 _ => h.block k hk (by simpa using h2)⟩
theorem Kp.of_bo {bo bm : Nat} {w w' : World} (h : w.grownBy w' (some bo)) : Kp bo bm w w' := ⟨h.os, h.tape, h.output, h.size, fun k hk h1 _ _ => h.block k hk (by simpa using h1)⟩
theorem Kp.of_row {bo bm base n : Nat} {w w' : World} {v : Value} {xs : List Value} (hr : w.ownsRow base 3 1 v n xs) (h : w.grownBy w' v.ownBlock) : Kp bo bm w w' :=
  ⟨h.os, h.tape, h.output, h.size, fun k hk _ _ h3 => h.block k hk (fun e => by
    rcases hr.2 with ⟨rfl, _⟩ | ⟨g, cap, cur, rfl, _, q2, _⟩
    · cases e
    · cases e
      exact h3 cur q2)⟩
theorem Kp.block {bo bm : Nat} {w w' : World} (h : Kp bo bm w w') {k : Nat} {o : Obj} (hk : w.heap[k]? = some o) (h1 : k ≠ bo) (h2 : k ≠ bm) (h3 : ∀ cur, o ≠ .cells cur 3 (0, 0)) : w'.heap[k]? = some o :=
  (h.same k (lt_of_block hk) h1 h2 (fun cur e => by rw [hk] at e; exact h3 cur (Option.some.inj e))).trans hk
theorem idx_lt {S : List Int} {n : Int} (h : n ∈ S) : S.idxOf n < S.length := List.idxOf_lt_length_of_mem h
set_option maxRecDepth 100000 in
set_option maxHeartbeats 4000000 in
theorem tell_any (bo bg bm bn R : Nat) (S : List Int) (n : Int) (w : World) (hw : (Lit.int .i64 n).wf = true) (hV : VarSt w bo bg bm bn R S) (hl : (S.length + 1) * 8 ≤ 140737488351232) :
    Calls Tryd.prog 30 #[.int .i64 n, .pointer (some ⟨bn, 0, none⟩), .pointer (some ⟨bo, 0, none⟩)] w fun e w' => e = .returned (.tuple #[]) ∧ VarSt w' bo bg bm bn R (addN S n) ∧ Below (min bo bm) w w' ∧ Kp bo bm w w' := by
  obtain ⟨v, hB, hown⟩ := hV.ex
  obtain ⟨p, cap, rfl⟩ := rowI_form hown
  have HV := hid hV
  have hND := (hV.num.keep ((Below.refl w.heap.size w).drew))
  have C := hid (number_any bg bm S n w.drew hw (show w.drew.cell? ⟨bg, 0, none⟩ = _ from hV.gg) hND (by omega))
  have hmo : bo ≠ bm := nums_ne hV.num hB.cell
  have hmn : bn ≠ bm := nums_ne hV.num hV.fn
  have hmg : bg ≠ bm := nums_ne hV.num hV.gg
  have hno : bn ≠ bo := by
    intro e
    have h1 := hV.fn
    rw [e, hB.cell] at h1
    cases h1
  have hgo : bg ≠ bo := by
    intro e
    have h1 := hV.gg
    rw [e, hB.cell] at h1
    cases h1
  have c0 := hV.fn
  have c1 := hB.cell
  have d0 := show w.drew.cell? ⟨bn, 0, none⟩ = _ from c0
  have d1 := show w.drew.cell? ⟨bo, 0, none⟩ = _ from c1
  have HB := hid (show Boxed w.drew bo _ _ from hB)
  have HO := hid (show w.drew.ownsRow R _ 1 _ _ _ from hown)
  have hlR := hV.lR
  have hlo := hV.lo
  have hlm := hV.lm
  have hlg := hV.lg
  have hln := hV.ln
  have hrow : ∀ q, (Value.slice p S.length cap).ownBlock = some q → R ≤ q := fun q hq => (hown.lt q hq).1
  have HROW := hid hrow
  have hgen : ∀ W', w.drew.grownBy W' (some bm) → Nums W' bm (addN S n) → W'.cell? ⟨bn, 0, none⟩ = some (.func (.func 37) #[] #[.pointer (some ⟨bg, 0, none⟩)]) ∧ W'.cell? ⟨bg, 0, none⟩ = some (.map (some bm)) ∧ Boxed W' bo 39 (.slice p S.length cap) ∧ W'.ownsRow R 3 1 (.slice p S.length cap) S.length (ints S) := fun W' hg hN =>
    ⟨hg.cell d0 (by simpa using hmn), hg.cell (show w.drew.cell? ⟨bg, 0, none⟩ = _ from hV.gg) (by simpa using hmg), (hg.block bo (lt_of_block hB) (by simpa using hmo)).trans hB,
      HO.out.kept hg (.inr (fun e => by have := hrow bm e; omega))⟩
  have HGEN := hid hgen
  clear hgen hrow hV hB hown hND
  by_cases hm : n ∈ S
  · have hi := idx_lt hm
    have ha : addN S n = S := if_pos hm
    rw [ha] at C HGEN ⊢
    have hd : (((S.idxOf n : Nat) : Int) == ((S.length : Nat) : Int)) = false := beq_eq_false_iff_ne.2 (by omega)
    generalize S.idxOf n = ix at *
    clear hm ha hi
    go_enter Tryd.func30, Tryd.ntmps30
    go_wp2_with fail
    go_region_held3 (fun w' => w'.cell? ⟨bn, 0, none⟩ = some (.func (.func 37) #[] #[.pointer (some ⟨bg, 0, none⟩)]) ∧ w'.cell? ⟨bo, 0, none⟩ = some (.slice p S.length cap))
      (first | (with_reducible exact ⟨c0, c1⟩) | (with_reducible exact ⟨d0, d1⟩) | (with_reducible exact ⟨e0, e1⟩))
      ((first | (go_at_call 37; (with_reducible refine C.out.mono ?_); rintro e w2 ⟨rfl, hN2, hg2⟩; have N2 := hid hN2; have G2 := hid hg2; obtain ⟨e0, e2, e3, e4⟩ := HGEN.out _ hg2 hN2; have e1 := e3.cell; have E2 := hid e2; have E3 := hid e3; have E4 := hid e4; clear hN2 hg2 e2 e3 e4)))
    go_wp2
    go_end0
    have hs := G2.out.size
    exact ⟨rfl, ⟨e0, E2.out, N2.out, ⟨_, E3.out, E4.out⟩, hlo, hlg, hlm, hln, Nat.le_trans hlR hs⟩, ((Below.refl _ w).drew).grown G2.out (by have : w.drew.heap.size = w.heap.size := rfl; omega) (fun k e => by cases e; omega), (Kp.of_below ((Below.refl _ w).drew)).trans (Kp.of_bm G2.out)⟩
  · have ha : addN S n = S ++ [n] := if_neg hm
    rw [ha] at C HGEN ⊢
    have hix : S.idxOf n = S.length := List.idxOf_eq_length hm
    rw [hix] at C
    clear hm ha hix
    go_enter Tryd.func30, Tryd.ntmps30
    go_wp2_with fail
    go_region_held3 (fun w' => w'.cell? ⟨bn, 0, none⟩ = some (.func (.func 37) #[] #[.pointer (some ⟨bg, 0, none⟩)]) ∧ w'.cell? ⟨bo, 0, none⟩ = some (.slice p S.length cap))
      (first | (with_reducible exact ⟨c0, c1⟩) | (with_reducible exact ⟨d0, d1⟩) | (with_reducible exact ⟨e0, e1⟩))
      ((first | (go_at_call 37; (with_reducible refine C.out.mono ?_); rintro e w2 ⟨rfl, hN2, hg2⟩; have N2 := hid hN2; have G2 := hid hg2; obtain ⟨e0, e2, e3, e4⟩ := HGEN.out _ hg2 hN2; have e1 := e3.cell; have E0 := hid e0; have E2 := hid e2; have E3 := hid e3; have E4 := hid e4; clear hN2 hg2 e2 e3 e4)))
    have hs := G2.out.size
    have hRw : R ≤ w2.heap.size := Nat.le_trans hlR hs
    have hBl := hid (((Below.refl (min bo bm) w).drew).grown G2.out (by have : w.drew.heap.size = w.heap.size := rfl; omega) (fun k e => by cases e; omega))
    go_wp2_with (at_builtin; refine wpList_appI rfl _ _ rfl ?_; refine ⟨R, _, _, n, 1, _, rfl, World.ownsRow.alloc E4.out _, ⟨w2.heap.size, rfl, heap_alloc_new w2 _⟩, by unfold maxLen; omega, by omega, by simp; omega, ?_⟩; intro v' w5 hown' hgrow; obtain ⟨p2, cap2, rfl⟩ := rowI_form hown'; have HO5 := hid hown'; have G5 := hid hgrow; have A2 := hid (show Boxed (w2.alloc (.cells #[.int .i64 n] 3)) bo _ _ from (heap_alloc_old w2 _ (lt_of_block E3.out)).trans E3.out); have B5 := hid (show Boxed w5 bo _ _ from (hgrow.block bo (lt_of_block A2.out) (fun e => by have := HROW.out bo e.symm; omega)).trans A2.out); have f5 := B5.out.frozen; have c5 := B5.out.cell; clear hown' hgrow e0 e1)
    go_end0
    have hset := grownBy_setCell' w5 bo (.slice p2 (S.length + 1) cap2)
    have hal := (Below.refl w2.heap.size w2).alloc (Nat.le_refl _) (.cells #[.int .i64 n] 3)
    have hnb : ∀ q, q < R → some q ≠ (Value.slice p S.length cap).ownBlock := fun q hq e => by have := HROW.out q e.symm; omega
    have hz5 := G5.out.size
    have hza : (w2.alloc (.cells #[.int .i64 n] 3)).heap.size = w2.heap.size + 1 := by simp
    refine ⟨rfl, ⟨?_, ?_, ?_, ⟨_, B5.out.set _, ?_⟩, hlo, hlg, hlm, hln, ?_⟩, ?_, ?_⟩
    · exact hset.cell (G5.out.cell (heap_cell_keep hal E0.out) (hnb _ hln)) (by simpa using hno)
    · exact hset.cell (G5.out.cell (heap_cell_keep hal E2.out) (hnb _ hlg)) (by simpa using hgo)
    · exact ((N2.out.keep hal).kept G5.out (hnb _ hlm)).kept hset (by simpa using Ne.symm hmo)
    · have h : (ints S ++ [Value.int .i64 n]) = ints (S ++ [n]) := by simp [ints]
      have h2 : (S ++ [n]).length = S.length + 1 := by simp
      rw [h2, ← h]
      exact HO5.out.kept hset (.inr (fun e => by have := (HO5.out.lt bo e).1; omega))
    · have := hset.size; omega
    · exact ((hBl.out.alloc (by omega) _).grown G5.out (by omega) (fun q e => by have := HROW.out q e; omega)).grown hset (by omega) (fun q e => by cases e; omega)
    · exact ((((Kp.of_below ((Below.refl _ w).drew)).trans (Kp.of_bm G2.out)).trans (Kp.of_below hal)).trans (Kp.of_row (World.ownsRow.alloc E4.out _) G5.out)).trans (Kp.of_bo hset)
end Go.Proofs.YtpdclfihleoigaaDoor
