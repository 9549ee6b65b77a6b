/- The document's answer on tables of operators: Add, whatever is asked; asked: the program's table and the document's answer all questions of a name alike. No condition but those that each theorem names. -/
import Derived.Test.YtnbhmgonijlplaaDoorT38
import Derived.Test.YtnbhmgonijlplaaDoorT39
import Derived.Test.YtnbhmgonijlplaaDoorT26
namespace Go.Proofs.YtnbhmgonijlplaaDoor
open Go.RowKit Go.Joins

theorem refAdd (b : Nat) (L : List Opn) (p k : Int) (s : ByteArray) (w : World) (hT : RefAt w b L) (hlen : (L.length + 1) * 32 ≤ 140737488355328) (h0 : look L 0 s = none) :
    Calls Tryd.prog 15 #[.pointer (some ⟨b, 0, none⟩), .int .i64 p, .int .i64 k, .string s] w fun e w' => e = .returned (.int .i64 (refu (look L) p k s)) ∧ RefAt w' b (grownL L p k s) ∧ w.grownBy w' (some b) := by
  by_cases hz : refu (look L) p k s = 0
  · have hg : grownL L p k s = refL L p k s := by unfold grownL refL kept; rw [if_pos hz]
    rw [hz, hg]
    by_cases hp : 0 < p
    · exact refAdd_put b L p k s w hT hlen hz hp
    · exact refAdd_del b L p k s w hT hlen hz hp
  · have hg : grownL L p k s = L := by unfold grownL; rw [if_neg hz]
    rw [hg]
    exact (refAdd_refused b L p k s w hT (by omega) h0 hz).mono fun e w' ⟨he, hb⟩ => ⟨he, hT.keep hb, below_grown hb⟩

set_option maxRecDepth 100000 in
set_option maxHeartbeats 8000000 in
theorem asked_any (bt b n rb : Nat) (L : List Opn) (s : ByteArray) (w : World) (hT : Tab w b n (look L)) (hc : w.cell? ⟨bt, 0, none⟩ = some (.map (some b))) (hR : RefAt w rb L) (hs : s.size ≤ maxLen) (hlen : L.length ≤ 4611686018427387904) :
    Calls Tryd.prog 16 #[.pointer (some ⟨bt, 0, none⟩), .pointer (some ⟨rb, 0, none⟩), .string s] w fun e w' => e = .returned (.bool true) ∧ Below w.heap.size w w' := by
  have P1 := hid (fun (W : World) (hW : Below w.heap.size w W) => pre_any bt b n (look L) s W (hT.keep hW) (heap_cell_keep hW hc) hs)
  have P2 := hid (fun (W : World) (hW : Below w.heap.size w W) => infix_any bt b n (look L) s W (hT.keep hW) (heap_cell_keep hW hc) hs)
  have P3 := hid (fun (W : World) (hW : Below w.heap.size w W) => postfix_any bt b n (look L) s W (hT.keep hW) (heap_cell_keep hW hc) hs)
  have P4 := hid (fun (W : World) (hW : Below w.heap.size w W) => refFind rb L 1 s W (hR.keep hW) hlen)
  have P5 := hid (fun (W : World) (hW : Below w.heap.size w W) => refFind rb L 2 s W (hR.keep hW) hlen)
  have P6 := hid (fun (W : World) (hW : Below w.heap.size w W) => refFind rb L 3 s W (hR.keep hW) hlen)
  have P7 := hid (fun (W : World) (hW : Below w.heap.size w W) => is_any bt b n (look L) s W (hT.keep hW) (heap_cell_keep hW hc) hs)
  have P8 := hid (fun (W : World) (hW : Below w.heap.size w W) => refIs rb L s W (hR.keep hW) hlen)
  have A0 := hid (Below.refl w.heap.size w)
  clear hT hc hR
  unfold lookV at P4 P5 P6
  unfold found at P1 P2 P3
  unfold lookIs at P8
  generalize ((look L 1 s).isSome || (look L 2 s).isSome || (look L 3 s).isSome) = q at *
  generalize (look L 1 s).getD Opn.none = x1 at *
  generalize (look L 2 s).getD Opn.none = x2 at *
  generalize (look L 3 s).getD Opn.none = x3 at *
  generalize (look L 1 s).isSome = q1 at *
  generalize (look L 2 s).isSome = q2 at *
  generalize (look L 3 s).isSome = q3 at *
  have E1 := eq39 x1 x1
  have E2 := eq39 x2 x2
  have E3 := eq39 x3 x3
  rw [show opEq x1 x1 = true from decide_eq_true rfl] at E1
  rw [show opEq x2 x2 = true from decide_eq_true rfl] at E2
  rw [show opEq x3 x3 = true from decide_eq_true rfl] at E3
  have GU := guard39
  unfold Opn.val at P1 P2 P3 P4 P5 P6
  go_enter Tryd.func16, Tryd.ntmps16
  go_wp2_with (first
    | (go_at_call 31; (with_reducible refine (P1.out _ A0.out).mono ?_); rintro e w1 ⟨rfl, hb1⟩; have S1 := hid (hb1.alloc hb1.size (.cells #[.string x1.name, .int .i64 x1.typ, .int .i64 x1.pri] 39)); have A1 := hid (A0.out.trans (S1.out.mono A0.out.size)); have N1 := hid (heap_alloc_new w1 (.cells #[.string x1.name, .int .i64 x1.typ, .int .i64 x1.pri] 39)); clear hb1 P1)
    | (go_at_call 27; (with_reducible refine (P2.out _ A1.out).mono ?_); rintro e w2 ⟨rfl, hb2⟩; have S2 := hid (hb2.alloc hb2.size (.cells #[.string x2.name, .int .i64 x2.typ, .int .i64 x2.pri] 39)); have A2 := hid (A1.out.trans (S2.out.mono A1.out.size)); have N2 := hid (heap_alloc_new w2 (.cells #[.string x2.name, .int .i64 x2.typ, .int .i64 x2.pri] 39)); clear hb2 P2)
    | (go_at_call 28; (with_reducible refine (P3.out _ A2.out).mono ?_); rintro e w3 ⟨rfl, hb3⟩; have S3 := hid (hb3.alloc hb3.size (.cells #[.string x3.name, .int .i64 x3.typ, .int .i64 x3.pri] 39)); have A3 := hid (A2.out.trans (S3.out.mono A2.out.size)); have N3 := hid (heap_alloc_new w3 (.cells #[.string x3.name, .int .i64 x3.typ, .int .i64 x3.pri] 39)); clear hb3 P3)
    | (go_at_call 39; (with_reducible refine (P4.out _ A3.out).mono ?_); rintro e w4 ⟨rfl, hb4⟩; have S4 := hid (hb4.alloc hb4.size (.cells #[.string x1.name, .int .i64 x1.typ, .int .i64 x1.pri] 39)); have A4 := hid (A3.out.trans (S4.out.mono A3.out.size)); have N4 := hid (heap_alloc_new w4 (.cells #[.string x1.name, .int .i64 x1.typ, .int .i64 x1.pri] 39)); clear hb4 P4)
    | (go_at_call 39; (with_reducible refine (P5.out _ A4.out).mono ?_); rintro e w5 ⟨rfl, hb5⟩; have S5 := hid (hb5.alloc hb5.size (.cells #[.string x2.name, .int .i64 x2.typ, .int .i64 x2.pri] 39)); have A5 := hid (A4.out.trans (S5.out.mono A4.out.size)); have N5 := hid (heap_alloc_new w5 (.cells #[.string x2.name, .int .i64 x2.typ, .int .i64 x2.pri] 39)); clear hb5 P5)
    | (go_at_call 39; (with_reducible refine (P6.out _ A5.out).mono ?_); rintro e w6 ⟨rfl, hb6⟩; have S6 := hid (hb6.alloc hb6.size (.cells #[.string x3.name, .int .i64 x3.typ, .int .i64 x3.pri] 39)); have A6 := hid (A5.out.trans (S6.out.mono A5.out.size)); have N6 := hid (heap_alloc_new w6 (.cells #[.string x3.name, .int .i64 x3.typ, .int .i64 x3.pri] 39)); clear hb6 P6; have T6 := hid (Below.refl (w6.alloc (.cells #[.string x3.name, .int .i64 x3.typ, .int .i64 x3.pri] 39)).heap.size (w6.alloc (.cells #[.string x3.name, .int .i64 x3.typ, .int .i64 x3.pri] 39))); have T5 := S6; have T4 := hid (S5.out.trans (T5.out.mono S5.out.size)); have T3 := hid (S4.out.trans (T4.out.mono S4.out.size)); have T2 := hid (S3.out.trans (T3.out.mono S3.out.size)); have T1 := hid (S2.out.trans (T2.out.mono S2.out.size)); obtain ⟨c10, c11, c12, _⟩ := three_cells (heap_keep3 N1.out T1.out); obtain ⟨c20, c21, c22, _⟩ := three_cells (heap_keep3 N2.out T2.out); obtain ⟨c30, c31, c32, _⟩ := three_cells (heap_keep3 N3.out T3.out); obtain ⟨c40, c41, c42, _⟩ := three_cells (heap_keep3 N4.out T4.out); obtain ⟨c50, c51, c52, _⟩ := three_cells (heap_keep3 N5.out T5.out); obtain ⟨c60, c61, c62, _⟩ := three_cells N6.out)
    | (go_at_call 29; (with_reducible refine (P7.out _ A6.out).mono ?_); rintro e w7 ⟨rfl, hb7⟩; have A7 := hid (A6.out.trans (hb7.mono A6.out.size)); clear hb7 P7)
    | (go_at_call 40; (with_reducible refine (P8.out _ A7.out).mono ?_); rintro e w8 ⟨rfl, hb8⟩; have A8 := hid (A7.out.trans (hb8.mono A7.out.size)); clear hb8 P8))
  go_outline
  go_ret
  exact ⟨rfl, A8.out⟩
end Go.Proofs.YtnbhmgonijlplaaDoor
