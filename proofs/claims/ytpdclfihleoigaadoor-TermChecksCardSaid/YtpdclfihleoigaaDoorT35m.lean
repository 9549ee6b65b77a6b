/- What looks at names, integers' texts and floats' bits, for any nodes, where the tables of unicode/utf8 lie as its text lays them: the program's and the document's are the same. The law TermChecks: it answers true of any tree, where the tables of unicode/utf8 lie as its text lays them. -/
import Derived.Test.YtpdclfihleoigaaDoorT33
import Derived.Test.YtpdclfihleoigaaDoorT29m
import Derived.Test.YtpdclfihleoigaaDoorT23m
namespace Go.Proofs.YtpdclfihleoigaaDoor
open Go.RowKit

/-- What each node of a tree in memory holds: texts that may be, bits of 64 binary digits, a number of 64. -/
structure DomA (t : Tm) : Prop where
  name : t.name.size ≤ 9223372036854775807
  num : t.num.size ≤ 9223372036854775807
  lo : 0 ≤ t.bits
  hi : t.bits < 18446744073709551616
  var : (Lit.int .i64 t.var).wf = true
  kind : (Lit.int .i64 t.kind).wf = true
theorem vrest_zero (s : ByteArray) : vrest s 0 = vName s := rfl
theorem oracleA (w : World) (hU : Utf w) : Oracle vName numOk bitsOk DomA w :=
  ⟨fun W hW t hD => Tryd.utf8_ValidString t.name W hD.name (hU.keep hW),
   fun W _ t hD _ => isNum_any t.num W (by unfold maxLen; exact hD.num),
   fun W _ t hD _ => by
    obtain ⟨n, hn⟩ : ∃ n : Nat, t.bits = (n : Int) := ⟨t.bits.toNat, by have := hD.lo; omega⟩
    have h2 := hD.hi
    rw [hn]
    exact (areBits_any n W (by omega)).mono fun e w' ⟨h1, h2⟩ => ⟨h1, by subst h2; exact Below.refl _ _⟩⟩
theorem oracleRA (w : World) : OracleR vName numOk bitsOk DomA w :=
  ⟨fun W _ t hD => by rw [← vrest_zero]; exact utf_any t.name W (by unfold maxLen; exact hD.name),
   fun W _ t hD _ => canonical_any t.num W (by unfold maxLen; exact hD.num),
   fun W _ t hD _ => by
    obtain ⟨n, hn⟩ : ∃ n : Nat, t.bits = (n : Int) := ⟨t.bits.toNat, by have := hD.lo; omega⟩
    have h2 := hD.hi
    rw [hn]
    exact floats_any n W (by omega)⟩
end Go.Proofs.YtpdclfihleoigaaDoor

namespace Go.Proofs.YtpdclfihleoigaaDoor
open Go.RowKit

set_option maxRecDepth 100000 in
set_option maxHeartbeats 8000000 in
theorem checks_yes (t : Tm) (p : Option Addr) (cap : Nat) (w : World) (hU : Utf w) (hT : TmAt w t p) (hD : AllT DomA t) : Calls Tryd.prog 4 #[t.val p cap] w fun e w' => e = .returned (.bool true) ∧ Below w.heap.size w w' := by
  obtain ⟨W0, hW0⟩ : ∃ W0, W0 = w.alloc (tobj t p cap) := ⟨_, rfl⟩
  have hB := hid (show Below w.heap.size w W0 by rw [hW0]; exact (Below.refl w.heap.size w).alloc (Nat.le_refl _) (tobj t p cap))
  have HS := hid (show W0.heap[w.heap.size]? = some (tobj t p cap) by rw [hW0]; exact heap_alloc_new w (tobj t p cap))
  have A := hid (awake_true W0 (hU.keep hB.out))
  have N1 := fun W (h : Below W0.heap.size W0 W) => nodes_any t p cap W ((hT.keep hB.out).keep h)
  have N2 := fun W (h : Below W0.heap.size W0 W) => nodesR_any t p cap W ((hT.keep hB.out).keep h)
  have N3 := fun W (h : Below W0.heap.size W0 W) => check_any vName numOk bitsOk DomA t p cap W ((hT.keep hB.out).keep h) (oracleA W ((hU.keep hB.out).keep h)) hD
  have N4 := fun W (h : Below W0.heap.size W0 W) => checkR_any vName numOk bitsOk DomA t p cap W ((hT.keep hB.out).keep h) (oracleRA W) hD
  have SX := hid (show ∀ W : World, Below W0.heap.size W0 W → (W.cell? ⟨w.heap.size, 0, none⟩ = some (.int .i64 t.kind) ∧ W.cell? ⟨w.heap.size, 1, none⟩ = some (.string t.name) ∧ W.cell? ⟨w.heap.size, 2, none⟩ = some (.string t.num) ∧ W.cell? ⟨w.heap.size, 3, none⟩ = some (.int .u64 t.bits) ∧ W.cell? ⟨w.heap.size, 4, none⟩ = some (.int .i64 t.var) ∧ W.cell? ⟨w.heap.size, 5, none⟩ = some (.slice p t.args.length cap)) from fun W h => (six_free (obj_keep HS.out h)).1)
  unfold tobj at hW0
  unfold Tm.val at N1 N2 N3 N4 ⊢
  generalize capped (nodes t) 4001 = z at *
  generalize checkErr vName numOk bitsOk t = y at *
  have H1 := hid N1
  have H2 := hid N2
  have H3 := hid N3
  have H4 := hid N4
  clear N1 N2 N3 N4 hU hT hD HS
  generalize t.kind = kd at *
  generalize t.name = nm at *
  generalize t.num = nu at *
  generalize t.bits = bi at *
  generalize t.var = va at *
  generalize t.args.length = la at *
  go_enter Tryd.func4, Tryd.ntmps4
  go_wp2_with (go_at_call 6; rw [← hW0]; (with_reducible refine A.out.mono ?_); rintro e w1 ⟨rfl, hb1⟩; have C1 := hid hb1; clear hb1)
  have s1 := SX.out w1 C1.out
  go_region_held3 (fun w' => w'.cell? ⟨w.heap.size, 0, none⟩ = some (.int .i64 kd) ∧ w'.cell? ⟨w.heap.size, 1, none⟩ = some (.string nm) ∧ w'.cell? ⟨w.heap.size, 2, none⟩ = some (.string nu) ∧ w'.cell? ⟨w.heap.size, 3, none⟩ = some (.int .u64 bi) ∧ w'.cell? ⟨w.heap.size, 4, none⟩ = some (.int .i64 va) ∧ w'.cell? ⟨w.heap.size, 5, none⟩ = some (.slice p la cap))
    (first
      | (with_reducible exact s1)
      | (with_reducible exact SX.out _ (bl_drew C1.out))
      | (with_reducible exact SX.out _ C2.out)
      | (with_reducible exact SX.out _ C3.out)
      | (with_reducible exact SX.out _ C4.out)
      | (with_reducible exact SX.out _ C5.out)
      | fail)
    ((first
      | (go_at_call 7; (with_reducible refine (H1.out _ (bl_drew C1.out)).mono ?_); rintro e w2 ⟨rfl, hb2⟩; have C2 := hid (bl_call (bl_drew C1.out) hb2); clear hb2)
      | (go_at_call 8; (with_reducible refine (H2.out _ C2.out).mono ?_); rintro e w3 ⟨rfl, hb3⟩; have C3 := hid (bl_call C2.out hb3); clear hb3)
      | (go_at_call 9; (with_reducible refine (H3.out _ C3.out).mono ?_); rintro e w4 ⟨rfl, hb4⟩; have C4 := hid (bl_call C3.out hb4); clear hb4)
      | (go_at_call 10; (with_reducible refine (H4.out _ C4.out).mono ?_); rintro e w5 ⟨rfl, hb5⟩; have C5 := hid (bl_call C4.out hb5); clear hb5)))
  all_goals go_wp2
  all_goals go_ret
  all_goals exact ⟨rfl, hB.out.trans (C5.out.mono hB.out.size)⟩
end Go.Proofs.YtpdclfihleoigaaDoor
