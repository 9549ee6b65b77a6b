/- Walks: checkNode, where contracts of ValidString, isNum, areBits are given for the node at hand. No condition but those that each theorem names. -/
import Derived.Test.YtpdclfihleoigaaDoorT4
namespace Go.Proofs.YtpdclfihleoigaaDoor
open Go.RowKit

mutual
/-- A property of each node. -/
def AllT (D : Tm → Prop) : Tm → Prop
  | .mk k n u b v l => D (.mk k n u b v l) ∧ AllR D l
def AllR (D : Tm → Prop) : List Tm → Prop
  | [] => True
  | t :: l => AllT D t ∧ AllR D l
end
theorem AllT.head {D : Tm → Prop} {t : Tm} (h : AllT D t) : D t := by
  cases t; unfold AllT at h; exact h.1
theorem AllR.get {D : Tm → Prop} : ∀ {l : List Tm}, AllR D l → ∀ k (h : k < l.length), AllT D l[k]
  | [], _, k, h => by simp at h
  | t :: l, h, 0, _ => by unfold AllR at h; exact h.1
  | t :: l, h, k + 1, hk => by unfold AllR at h; simpa using AllR.get h.2 k (by simpa using hk)
theorem AllT.arg {D : Tm → Prop} {t : Tm} (h : AllT D t) (k : Nat) (hk : k < t.args.length) : AllT D t.args[k] := by
  cases t; unfold AllT at h; exact h.2.get k hk
/-- Contracts of what looks at names, texts of integers and bits, for the nodes of a kind, from a world on. -/
structure Oracle (vn vi : ByteArray → Bool) (vb : Int → Bool) (D : Tm → Prop) (w : World) : Prop where
  name : ∀ W, Below w.heap.size w W → ∀ t, D t → Calls Tryd.prog 42 #[.string t.name] W fun e w' => e = .returned (.bool (vn t.name)) ∧ Below W.heap.size W w'
  num : ∀ W, Below w.heap.size w W → ∀ t, D t → t.kind = 3 → Calls Tryd.prog 43 #[.string t.num] W fun e w' => e = .returned (.bool (vi t.num)) ∧ Below W.heap.size W w'
  bits : ∀ W, Below w.heap.size w W → ∀ t, D t → t.kind = 4 → Calls Tryd.prog 44 #[.int .u64 t.bits] W fun e w' => e = .returned (.bool (vb t.bits)) ∧ Below W.heap.size W w'
theorem Oracle.keep {vn vi : ByteArray → Bool} {vb : Int → Bool} {D : Tm → Prop} {w w1 : World} (h : Oracle vn vi vb D w) (hb : Below w.heap.size w w1) : Oracle vn vi vb D w1 :=
  ⟨fun W hW => h.name W (hb.trans (hW.mono hb.size)), fun W hW => h.num W (hb.trans (hW.mono hb.size)), fun W hW => h.bits W (hb.trans (hW.mono hb.size))⟩
theorem ret_int {a b : Int} (h : a = b) : Ending.returned (.int .i64 a) = .returned (.int .i64 b) := by rw [h]

set_option maxRecDepth 100000 in
set_option maxHeartbeats 4000000 in
theorem node_any (vn vi : ByteArray → Bool) (vb : Int → Bool) (D : Tm → Prop) (t : Tm) (p : Option Addr) (cap : Nat) (w : World) (hO : Oracle vn vi vb D w) (hD : D t) (hl : t.args.length ≤ maxLen) :
    Calls Tryd.prog 33 #[t.val p cap] w fun e w' => e = .returned (.int .i64 (nodeErr vn vi vb t)) ∧ Below w.heap.size w w' := by
  obtain ⟨W0, hW0⟩ : ∃ W0, W0 = w.alloc (tobj t p cap) := ⟨_, rfl⟩
  have hB := hid (show Below w.heap.size w W0 by rw [hW0]; exact (Below.refl w.heap.size w).alloc (Nat.le_refl _) (tobj t p cap))
  have HS := hid (show W0.heap[w.heap.size]? = some (tobj t p cap) by rw [hW0]; exact heap_alloc_new w (tobj t p cap))
  have FA := fun W => fields_any t p cap W hl
  have HO := hid (hO.keep hB.out)
  have C1 := hid (fun W h => HO.out.name W h t hD)
  have C2 := hid (fun W h => HO.out.num W h t hD)
  have C3 := hid (fun W h => HO.out.bits W h t hD)
  have HQ := hid (rfl : nodeErr vn vi vb t = nodeErr vn vi vb t)
  have HR := hid (Below.refl W0.heap.size W0)
  obtain ⟨x0, x1, x2, x3, x4, x5⟩ := six_of HS.out
  unfold tobj at hW0 HS
  unfold Tm.val at FA ⊢
  have HFA := hid FA
  have KP := hid (fun (W : World) (hW : Below W0.heap.size W0 W) (j : Nat) (v : Value) (h : W0.cell? ⟨w.heap.size, j, none⟩ = some v) => heap_cell_keep hW h)
  obtain ⟨q, hq⟩ : ∃ q, q = nodeErr vn vi vb t := ⟨_, rfl⟩
  rw [← hq]
  unfold nodeErr at hq
  have HN := hid hq
  clear HQ hq HO hO hD FA hl HS
  generalize fieldsOk t = fo at *
  generalize vn t.name = en at *
  generalize vi t.num = eu at *
  generalize vb t.bits = eb at *
  generalize t.kind = kd at *
  generalize t.name = nm at *
  generalize t.num = nu at *
  generalize t.bits = bi at *
  generalize t.var = va at *
  generalize t.args.length = la at *
  have hsz : nm.size ≤ 1000 ∨ 1000 < nm.size := by omega
  have hk : kd = 3 ∨ kd = 4 ∨ (kd ≠ 3 ∧ kd ≠ 4) := by omega
  cases fo
  · clear hsz hk
    go_enter Tryd.func33, Tryd.ntmps33
    go_wp2_with (first
      | (go_at_call 41; rw [← hW0]; (with_reducible refine (HFA.out _).mono ?_); rintro e w1 ⟨rfl, hb1⟩; have B1 := hid (HR.out.trans hb1); clear hb1; have c0 := KP.out _ B1.out _ _ x0; have c1 := KP.out _ B1.out _ _ x1; have c2 := KP.out _ B1.out _ _ x2; have c3 := KP.out _ B1.out _ _ x3))
    go_ret
    exact ⟨ret_int (by rw [HN.out]; simp), hB.out.trans (B1.out.mono hB.out.size)⟩
  · rcases hsz with hsz | hsz
    · cases en
      · clear hk
        go_enter Tryd.func33, Tryd.ntmps33
        go_wp2_with (first
          | (go_at_call 41; rw [← hW0]; (with_reducible refine (HFA.out _).mono ?_); rintro e w1 ⟨rfl, hb1⟩; have B1 := hid (HR.out.trans hb1); clear hb1; have c0 := KP.out _ B1.out _ _ x0; have c1 := KP.out _ B1.out _ _ x1; have c2 := KP.out _ B1.out _ _ x2; have c3 := KP.out _ B1.out _ _ x3)
          | (go_at_call 42; (with_reducible refine (C1.out _ B1.out).mono ?_); rintro e w2 ⟨rfl, hb2⟩; have B2 := hid (B1.out.trans (hb2.mono B1.out.size)); clear hb2))
        go_ret
        exact ⟨ret_int (by rw [HN.out]; simp), hB.out.trans (B2.out.mono hB.out.size)⟩
      · rcases hk with rfl | rfl | ⟨hk1, hk2⟩
        · cases eu
          all_goals
            go_enter Tryd.func33, Tryd.ntmps33
            go_wp2_with (first
              | (go_at_call 41; rw [← hW0]; (with_reducible refine (HFA.out _).mono ?_); rintro e w1 ⟨rfl, hb1⟩; have B1 := hid (HR.out.trans hb1); clear hb1; have c0 := KP.out _ B1.out _ _ x0; have c1 := KP.out _ B1.out _ _ x1; have c2 := KP.out _ B1.out _ _ x2; have c3 := KP.out _ B1.out _ _ x3)
              | (go_at_call 42; (with_reducible refine (C1.out _ B1.out).mono ?_); rintro e w2 ⟨rfl, hb2⟩; have B2 := hid (B1.out.trans (hb2.mono B1.out.size)); clear hb2; have d0 := KP.out _ B2.out _ _ x0; have d2 := KP.out _ B2.out _ _ x2; have d3 := KP.out _ B2.out _ _ x3)
              | (go_at_call 43; (with_reducible refine (C2.out _ B2.out (by simp)).mono ?_); rintro e w3 ⟨rfl, hb3⟩; have B3 := hid (B2.out.trans (hb3.mono B2.out.size)); clear hb3; have e0 := KP.out _ B3.out _ _ x0; have e3 := KP.out _ B3.out _ _ x3))
            go_ret
            exact ⟨ret_int (by rw [HN.out]; simp [hsz]), hB.out.trans (B3.out.mono hB.out.size)⟩
        · cases eb
          all_goals
            go_enter Tryd.func33, Tryd.ntmps33
            go_wp2_with (first
              | (go_at_call 41; rw [← hW0]; (with_reducible refine (HFA.out _).mono ?_); rintro e w1 ⟨rfl, hb1⟩; have B1 := hid (HR.out.trans hb1); clear hb1; have c0 := KP.out _ B1.out _ _ x0; have c1 := KP.out _ B1.out _ _ x1; have c2 := KP.out _ B1.out _ _ x2; have c3 := KP.out _ B1.out _ _ x3)
              | (go_at_call 42; (with_reducible refine (C1.out _ B1.out).mono ?_); rintro e w2 ⟨rfl, hb2⟩; have B2 := hid (B1.out.trans (hb2.mono B1.out.size)); clear hb2; have d0 := KP.out _ B2.out _ _ x0; have d2 := KP.out _ B2.out _ _ x2; have d3 := KP.out _ B2.out _ _ x3)
              | (go_at_call 44; (with_reducible refine (C3.out _ B2.out (by simp)).mono ?_); rintro e w3 ⟨rfl, hb3⟩; have B3 := hid (B2.out.trans (hb3.mono B2.out.size)); clear hb3; have e0 := KP.out _ B3.out _ _ x0; have e3 := KP.out _ B3.out _ _ x3))
            go_ret
            exact ⟨ret_int (by rw [HN.out]; simp [hsz]), hB.out.trans (B3.out.mono hB.out.size)⟩
        · have hq1 : (kd == 3) = false := beq_eq_false_iff_ne.2 hk1
          have hq2 : (kd == 4) = false := beq_eq_false_iff_ne.2 hk2
          have HK := hid (And.intro hk1 hk2)
          clear hk1 hk2
          go_enter Tryd.func33, Tryd.ntmps33
          go_wp2_with (first
            | (go_at_call 41; rw [← hW0]; (with_reducible refine (HFA.out _).mono ?_); rintro e w1 ⟨rfl, hb1⟩; have B1 := hid (HR.out.trans hb1); clear hb1; have c0 := KP.out _ B1.out _ _ x0; have c1 := KP.out _ B1.out _ _ x1; have c2 := KP.out _ B1.out _ _ x2; have c3 := KP.out _ B1.out _ _ x3)
            | (go_at_call 42; (with_reducible refine (C1.out _ B1.out).mono ?_); rintro e w2 ⟨rfl, hb2⟩; have B2 := hid (B1.out.trans (hb2.mono B1.out.size)); clear hb2; have d0 := KP.out _ B2.out _ _ x0; have d2 := KP.out _ B2.out _ _ x2; have d3 := KP.out _ B2.out _ _ x3))
          go_ret
          exact ⟨ret_int (by rw [HN.out]; simp [hsz, HK.out.1, HK.out.2]), hB.out.trans (B2.out.mono hB.out.size)⟩
    · clear hk
      go_enter Tryd.func33, Tryd.ntmps33
      go_wp2_with (first
        | (go_at_call 41; rw [← hW0]; (with_reducible refine (HFA.out _).mono ?_); rintro e w1 ⟨rfl, hb1⟩; have B1 := hid (HR.out.trans hb1); clear hb1; have c0 := KP.out _ B1.out _ _ x0; have c1 := KP.out _ B1.out _ _ x1; have c2 := KP.out _ B1.out _ _ x2; have c3 := KP.out _ B1.out _ _ x3))
      go_ret
      exact ⟨ret_int (by rw [HN.out, decide_eq_false (show ¬ nm.size ≤ 1000 by omega)]; simp), hB.out.trans (B1.out.mono hB.out.size)⟩
end Go.Proofs.YtpdclfihleoigaaDoor
