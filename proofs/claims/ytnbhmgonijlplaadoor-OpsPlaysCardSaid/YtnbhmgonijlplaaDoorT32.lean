/- The document's answer on tables of operators: Class, Find, Is. No condition but those that each theorem names. -/
import Derived.Test.YtnbhmgonijlplaaDoorT25
import Derived.Laws.ResultCell
namespace Go.Proofs.YtnbhmgonijlplaaDoor
open Go.RowKit

set_option maxRecDepth 100000 in
set_option maxHeartbeats 1000000 in
theorem refClass (k : Int) (w : World) : Calls Tryd.prog 38 #[.int .i64 k] w fun e w' => e = .returned (.int .i64 (cls k)) ∧ w = w' := by
  rcases (show k = 1 ∨ k = 2 ∨ k = 3 ∨ k = 4 ∨ k = 5 ∨ k = 6 ∨ k = 7 ∨ (k ≠ 1 ∧ k ≠ 2 ∧ k ≠ 3 ∧ k ≠ 4 ∧ k ≠ 5 ∧ k ≠ 6 ∧ k ≠ 7) by omega) with rfl | rfl | rfl | rfl | rfl | rfl | rfl | ⟨h1, h2, h3, h4, h5, h6, h7⟩
  all_goals
    go_enter Tryd.func38, Tryd.ntmps38
    go_wp2
    go_ret
    first | exact ⟨rfl, rfl⟩ | exact ⟨by simp [cls, h1, h2, h3, h4, h5, h6, h7], rfl⟩

theorem names_eq (a b : ByteArray) : (a.toList == b.toList) = decide (a = b) := by
  rw [str_is]
  congr 1
  refine propext ⟨fun h => h.trans (ByteArray.ext (by rw [Lib.toList_data])), fun h => h.trans (ByteArray.ext (by rw [Lib.toList_data])).symm⟩
/-- Does an operator stand in a place? -/
def keyIs (c : Int) (s : ByteArray) (x : Opn) : Bool := decide (x.name = s) && decide (cls x.typ = c)
/-- The first one of a place. -/
def look (L : List Opn) (c : Int) (s : ByteArray) : Option Opn := L.find? (keyIs c s)
/-- A table of the document's: its operators, in a slice. -/
def RefAt (w : World) (b : Nat) (L : List Opn) : Prop := ∃ v, Boxed w b 71 v ∧ w.ownsRow 0 39 3 v L.length (rowOf L)
theorem row_keep {w w' : World} {base : Nat} {v : Value} {n : Nat} {xs : List Value} (h : w.ownsRow base 39 3 v n xs) (hb : Below w.heap.size w w') : w'.ownsRow base 39 3 v n xs :=
  h.kept (row := none) ⟨hb.os, hb.tape, hb.output, hb.size, fun k hk _ => hb.block k hk⟩ (by cases v.ownBlock <;> simp)
theorem RefAt.keep {w w' : World} {b : Nat} {L : List Opn} (h : RefAt w b L) (hb : Below w.heap.size w w') : RefAt w' b L := by
  obtain ⟨v, h1, h2⟩ := h
  exact ⟨v, heap_keep3 h1 hb, row_keep h2 hb⟩
theorem row_ops {w : World} {base : Nat} {v : Value} {L : List Opn} (h : w.ownsRow base 39 3 v L.length (rowOf L)) : OpsAt w v L := by
  rcases Nat.eq_zero_or_pos L.length with h0 | h0
  · rw [List.length_eq_zero_iff] at h0
    subst h0
    rcases h.2 with ⟨rfl, _⟩ | ⟨g, cap, cur, rfl, _⟩
    · exact ⟨none, 0, rfl, fun i hi => absurd hi (by simp)⟩
    · exact ⟨_, cap, rfl, fun i hi => absurd hi (by simp)⟩
  · obtain ⟨g, cap, rfl, _, _, hR⟩ := row_open h h0
    exact ⟨_, cap, rfl, fun i hi => ⟨g, 0, rfl, by simpa using hR.c0 i hi, by simpa using hR.c1 i hi, by simpa using hR.c2 i hi⟩⟩
theorem look_at {L : List Opn} {c : Int} {s : ByteArray} {k : Nat} (hk : k < L.length) (h : keyIs c s L[k] = true) (hno : ∀ j (hj : j < L.length), j < k → keyIs c s L[j] = false) : look L c s = some L[k] := by
  unfold look
  rw [List.find?_eq_some_iff_getElem]
  exact ⟨h, k, hk, rfl, fun j hj => by rw [hno j (by omega) hj]; rfl⟩
theorem look_no {L : List Opn} {c : Int} {s : ByteArray} (hno : ∀ j (hj : j < L.length), keyIs c s L[j] = false) : look L c s = none := by
  unfold look
  rw [List.find?_eq_none]
  intro x hx
  obtain ⟨j, hj, rfl⟩ := List.getElem_of_mem hx
  rw [hno j hj]
  exact Bool.false_ne_true
/-- What Find answers. -/
def lookV (L : List Opn) (c : Int) (s : ByteArray) : Value := .tuple #[((look L c s).getD Opn.none).val, .bool (look L c s).isSome]

theorem set3 {n : Nat} {w W : World} {g : Nat} {a b c : Value} (hg : W.heap[g]? = some (.cells #[a, b, c] 39 (0, 0))) (hb : Below n w W) (hn : n ≤ g) (x : Opn) :
    (((W.setCell ⟨g, 0, none⟩ (.string x.name)).setCell ⟨g, 1, none⟩ (.int .i64 x.typ)).setCell ⟨g, 2, none⟩ (.int .i64 x.pri)).heap[g]? = some (.cells #[.string x.name, .int .i64 x.typ, .int .i64 x.pri] 39 (0, 0)) ∧
      Below n w (((W.setCell ⟨g, 0, none⟩ (.string x.name)).setCell ⟨g, 1, none⟩ (.int .i64 x.typ)).setCell ⟨g, 2, none⟩ (.int .i64 x.pri)) := by
  have h0 := heap_setCell_same W g 0 _ _ (.string x.name) hg
  have h1 := heap_setCell_same _ g 1 _ _ (.int .i64 x.typ) h0
  have h2 := heap_setCell_same _ g 2 _ _ (.int .i64 x.pri) h1
  refine ⟨h2, ((hb.setCell ?_ _).setCell ?_ _).setCell ?_ _⟩ <;> exact hn
theorem results_op {fn : Func} {p u : Tmp} (h : fn.results = #[.cell p 39, .tmp u]) (tmps : Array Value) (w : World) (g : Nat) (x : Opn) (hp : tmps.getD p undef = .pointer (some ⟨g, 0, none⟩)) (hg : w.heap[g]? = some (.cells #[.string x.name, .int .i64 x.typ, .int .i64 x.pri] 39 (0, 0))) :
    (results fn tmps).run Tryd.prog w = .ok (.tuple #[x.val, tmps.getD u undef]) w := by
  rw [results_cell_tmp h, hp]
  simp [asAddr, Result.andThen, run_loadVar_row w g 39 39 _ _ _ hg Tryd.underlying39 rfl (by kernel_rfl), Opn.val]

set_option maxRecDepth 100000 in
set_option maxHeartbeats 4000000 in
theorem refFind (b : Nat) (L : List Opn) (c : Int) (s : ByteArray) (w : World) (hT : RefAt w b L) (hlen : L.length ≤ 4611686018427387904) :
    Calls Tryd.prog 39 #[.pointer (some ⟨b, 0, none⟩), .int .i64 c, .string s] w fun e w' => e = .returned (lookV L c s) ∧ Below w.heap.size w w' := by
  obtain ⟨v, hB, hv⟩ := hT
  obtain ⟨p, cap, rfl, hx⟩ := row_ops hv
  clear hv
  obtain ⟨W, hW⟩ : ∃ W, W = w.alloc (.cells #[.string ⟨#[]⟩, .int .i64 0, .int .i64 0] 39) := ⟨_, rfl⟩
  have hBW : Below w.heap.size w W := by rw [hW]; exact (Below.refl _ _).alloc (Nat.le_refl _) _
  have HX := hid (show ∀ i (h : i < L.length), ∃ bl off, p = some ⟨bl, off, none⟩ ∧ bl < w.heap.size ∧ W.cell? ⟨bl, off + i * 3, none⟩ = some (.string L[i].name) ∧ W.cell? ⟨bl, off + i * 3 + 1, none⟩ = some (.int .i64 L[i].typ) ∧ W.cell? ⟨bl, off + i * 3 + 2, none⟩ = some (.int .i64 L[i].pri) from fun i hi => by
    obtain ⟨bl, off, hp, h0, h1, h2⟩ := hx i hi
    have hl := World.block_lt_of_cell? w _ h0
    exact ⟨bl, off, hp, by simpa using hl, heap_cell_keep hBW h0, heap_cell_keep hBW h1, heap_cell_keep hBW h2⟩)
  have hc : W.cell? ⟨b, 0, none⟩ = some (.slice p L.length cap) := heap_cell_keep hBW hB.cell
  have hR := hid (show W.heap[w.heap.size]? = some (.cells #[.string ⟨#[]⟩, .int .i64 0, .int .i64 0] 39 (0, 0)) by rw [hW]; exact heap_alloc_new w _)
  have HB := hid hBW
  clear hx hB
  go_enter Tryd.func39, Tryd.ntmps39
  go_wp2
  rw [← hW]
  clear hBW hW
  obtain ⟨z0, z1, z2, f0, f1, f2⟩ := three_cells hR.out
  go_loop [8] (fun i => ∃ k : Nat, k ≤ L.length ∧ i = .int .i64 (k : Int) ∧ Hid (∀ j (hj : j < L.length), j < k → keyIs c s L[j] = false)) (fun i => L.length - (intOf i).toNat)
  case atStart => exact ⟨0, by omega, rfl, hid (fun j _ h => by omega)⟩
  case round =>
    obtain ⟨k, hk, rfl, hno⟩ := hrel
    by_cases hlt : k < L.length
    · obtain ⟨bl, off, rfl, hbl, a0, a1, a2⟩ := HX.out k hlt
      have HS := hid (fun h => look_at (c := c) (s := s) hlt h hno.out)
      have HN := hid (fun (h : keyIs c s L[k] = false) => (show ∀ j (hj : j < L.length), j < k + 1 → keyIs c s L[j] = false from fun j hj h1 => by
        rcases Nat.lt_succ_iff_lt_or_eq.1 h1 with h2 | rfl
        · exact hno.out j hj h2
        · exact h))
      generalize L[k] = x at *
      by_cases hn : x.name = s
      · by_cases hcl : cls x.typ = c
        · have hd1 : (x.name.toList == s.toList) = true := (names_eq _ _).trans (decide_eq_true hn)
          have hd2 : (cls x.typ == c) = true := beq_iff_eq.2 hcl
          have hf := hid (HS.out (by unfold keyIs; rw [decide_eq_true hn, decide_eq_true hcl]; rfl))
          clear hn hcl HS HN
          go_wp2_with (go_at_call 38; (with_reducible refine (refClass _ _).mono ?_); rintro e w5 ⟨rfl, rfl⟩)
          obtain ⟨h1, h2⟩ := set3 hR.out HB.out (Nat.le_refl _) x
          refine ⟨rfl, _, results_op rfl _ _ _ x rfl h1, ?_, h2⟩
          unfold lookV
          rw [hf.out]
          rfl
        · have hd1 : (x.name.toList == s.toList) = true := (names_eq _ _).trans (decide_eq_true hn)
          have hd2 : (cls x.typ == c) = false := beq_eq_false_iff_ne.2 hcl
          have hf := hid (HN.out (by unfold keyIs; rw [decide_eq_false hcl, Bool.and_false]))
          clear hn hcl HS HN
          go_wp2_with (go_at_call 38; (with_reducible refine (refClass _ _).mono ?_); rintro e w5 ⟨rfl, rfl⟩)
          go_round
          case rel => exact ⟨k + 1, by omega, by go_num, hf⟩
          case measure => simp [intOf]; omega
      · have hd1 : (x.name.toList == s.toList) = false := (names_eq _ _).trans (decide_eq_false hn)
        have hf := hid (HN.out (by unfold keyIs; rw [decide_eq_false hn, Bool.false_and]))
        clear hn HS HN
        go_wp2_with (go_at_call 38; (with_reducible refine (refClass _ _).mono ?_); rintro e w5 ⟨rfl, rfl⟩)
        go_round
        case rel => exact ⟨k + 1, by omega, by go_num, hf⟩
        case measure => simp [intOf]; omega
    · obtain rfl : k = L.length := by omega
      clear hlt
      go_wp2
      obtain ⟨h1, h2⟩ := set3 hR.out HB.out (Nat.le_refl _) Opn.none
      refine ⟨rfl, _, results_op rfl _ _ _ Opn.none rfl h1, ?_, h2⟩
      unfold lookV
      rw [look_no fun j hj => hno.out j hj hj]
      rfl
end Go.Proofs.YtnbhmgonijlplaaDoor
