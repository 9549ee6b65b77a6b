/- Walk of the document's one at a node of kind 3, where contracts of UTF, canonical, floats are given for the node at hand. No condition but those that the theorem names. -/
import Derived.Test.YtkapejcbmonfkaaGreatDoorT31m
namespace Go.Proofs.YtkapejcbmonfkaaGreatDoor
open Go.RowKit

set_option maxRecDepth 100000 in
set_option maxHeartbeats 8000000 in
theorem oneR3 (vn vi : ByteArray → Bool) (vb : Int → Bool) (D : Tm → Prop) (t : Tm) (p : Option Addr) (cap : Nat) (w : World) (hO : OracleR vn vi vb D w) (hD : D t) (hl : t.args.length ≤ maxLen) (hk : t.kind = 3) :
    Calls Tryz.prog 101 #[t.val p cap] w fun e w' => e = .returned (.int .i64 (nodeErr vn vi vb t)) ∧ Below w.heap.size w w' := by
  unfold maxLen at hl
  have C1 := hid (fun W h => hO.name W h t hD)
  have C2 := hid (fun W h => hO.num W h t hD)
  have C3 := hid (fun W h => hO.bits W h t hD)
  have AL := hid (fun o => (Below.refl w.heap.size w).alloc (Nat.le_refl _) o)
  unfold Tm.val
  obtain ⟨q, hq⟩ : ∃ q, q = nodeErr vn vi vb t := ⟨_, rfl⟩
  rw [← hq]
  unfold nodeErr fieldsOk at hq
  have HQ := hid hq
  clear hq hO hD
  generalize vn t.name = en at *
  generalize vi t.num = eu at *
  generalize vb t.bits = eb at *
  generalize t.kind = kd at *
  generalize t.name = nm at *
  generalize t.num = nu at *
  generalize t.bits = bi at *
  generalize t.var = va at *
  generalize t.args.length = la at *
  subst hk
  have hnm : nm.toList.isEmpty = true ∨ nm.toList.isEmpty = false := by cases nm.toList.isEmpty <;> simp
  have hnu : nu.toList.isEmpty = true ∨ nu.toList.isEmpty = false := by cases nu.toList.isEmpty <;> simp
  rcases hnm with hnm | hnm <;> rcases hnu with hnu | hnu
  all_goals
    cases en <;> cases eu
    all_goals
      go_enter Tryz.func101, Tryz.ntmps101
      go_wp2_with (first
          | (go_at_call 113; (with_reducible refine (C1.out _ (AL.out _)).mono ?_); rintro e w1 ⟨rfl, rfl⟩)
          | (go_at_call 114; (with_reducible refine (C2.out _ (AL.out _) (by first | trivial | rfl)).mono ?_); rintro e w3 ⟨rfl, hb3⟩; have B3 := hid ((AL.out _).trans (hb3.mono (AL.out _).size)); clear hb3))
      all_goals
        go_ret
        refine ⟨ret_int ?_, by first | exact AL.out _ | exact B3.out⟩
        rw [HQ.out]
        clear HQ AL C1 C2 C3
        simp_all
        try omega
end Go.Proofs.YtkapejcbmonfkaaGreatDoor
