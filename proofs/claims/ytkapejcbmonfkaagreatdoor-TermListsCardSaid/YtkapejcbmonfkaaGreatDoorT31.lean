/- Walks of the document's answer: count, Nodes, one, all, Check, Checks, of any trees. No condition but those that each theorem names. -/
import Derived.Test.YtkapejcbmonfkaaGreatDoorT6m
import Derived.Test.YtkapejcbmonfkaaGreatDoorT27m
import Derived.Test.YtkapejcbmonfkaaGreatDoorT30
namespace Go.Proofs.YtkapejcbmonfkaaGreatDoor
open Go.RowKit

set_option maxRecDepth 100000 in
set_option maxHeartbeats 2000000 in
theorem countR_any (d : Nat) : ∀ (t : Tm) (p : Option Addr) (cap : Nat) (n : Nat) (w : World), nodes t ≤ d → TmAt w t p → n ≤ 4000 →
    Calls Tryz.prog 98 #[t.val p cap, .int .i64 (n : Int)] w fun e w' => e = .returned (.int .i64 (capped (n + nodes t) 4001)) ∧ Below w.heap.size w w' := by
  induction d with
  | zero => intro t p cap n w h; have := nodes_pos t; omega
  | succ d ih =>
    intro t p cap n w hd hT hm
    obtain ⟨W0, hW0⟩ : ∃ W0, W0 = w.alloc (tobj t p cap) := ⟨_, rfl⟩
    have hB := hid (show Below w.heap.size w W0 by rw [hW0]; exact (Below.refl w.heap.size w).alloc (Nat.le_refl _) (tobj t p cap))
    have HS := hid (show W0.heap[w.heap.size]? = some (tobj t p cap) by rw [hW0]; exact heap_alloc_new w (tobj t p cap))
    unfold tobj at hW0
    unfold Tm.val at ih ⊢
    have IH := hid ih
    have HT := hid hT
    have hlen := hT.len
    unfold maxLen at hlen
    have HNE := hid (fun k (h : k < t.args.length) => (show nodes t.args[k] ≤ d by have := nodes_lt h; omega))
    have HN := hid (nodes_args t)
    clear ih hT
    go_enter Tryz.func98, Tryz.ntmps98
    go_wp2_with fail
    rw [← hW0]
    clear hW0
    go_loopw [1, 5] (fun c i wr => ∃ (k m : Nat), k ≤ t.args.length ∧ i = .int .i64 (k : Int) ∧ c = .int .i64 (m : Int) ∧ m ≤ 4001 ∧ Hid ((m : Int) = capped (n + 1 + nodesL (t.args.take k)) 4001) ∧ Hid (Below w.heap.size w wr) ∧ Hid (wr.heap[w.heap.size]? = some (tobj t p cap))) (fun _ i _ => t.args.length - (intOf i).toNat)
    case atStart => exact ⟨0, n + 1, by omega, rfl, by simp, by omega, hid (by simp [nodesL, capped]; omega), hB, HS⟩
    case round =>
      clear hB HS
      obtain ⟨k, m, hk, rfl, rfl, hm1, hc, hBr, hSr⟩ := hrel
      have x5 : wr.cell? ⟨w.heap.size, 5, none⟩ = some (.slice p t.args.length cap) := (six_of hSr.out).c5
      by_cases hlt : k < t.args.length
      · by_cases hcm : m ≤ 4000
        · obtain ⟨b, o, rfl, q, cq, hs, ht⟩ := (HT.out.keep hBr.out).get k hlt
          obtain ⟨y0, y1, y2, y3, y4, y5⟩ := hs
          have HTK := hid ht
          have HSUM := hid (nodesL_take t.args k hlt)
          have HNK := hid (HNE.out k hlt)
          clear ht
          generalize t.args[k] = u at *
          have HC := hid (IH.out u q cq m wr HNK.out HTK.out hcm)
          obtain ⟨z, hz⟩ : ∃ z : Nat, (z : Int) = capped (m + nodes u) 4001 := ⟨(capped (m + nodes u) 4001).toNat, by unfold capped; split <;> omega⟩
          rw [← hz] at HC
          have hz1 : z ≤ 4001 := by unfold capped at hz; split at hz <;> omega
          have HZ := hid (show (z : Int) = capped (n + 1 + nodesL (t.args.take (k + 1))) 4001 by
            have h1 := hc.out
            have h2 := HSUM.out
            rw [hz, h2]
            unfold capped at h1 ⊢
            split at h1 <;> split <;> split <;> omega)
          clear hz
          go_wp2_with (go_at_call 98; (with_reducible refine HC.out.mono ?_); rintro e w2 ⟨rfl, hb2⟩; have B2 := hid (hBr.out.trans (hb2.mono hBr.out.size)); have S2 := hid (hb2.block _ (lt_of_block hSr.out) |>.trans hSr.out); clear hb2)
          go_roundw
          case rel => exact ⟨k + 1, z, by omega, by go_num, rfl, hz1, HZ, B2, S2⟩
          case measure => simp [intOf]; omega
        · obtain rfl : m = 4001 := by omega
          go_wp2_with fail
          go_ret
          refine ⟨?_, hBr.out⟩
          have h1 := hc.out
          have h2 := nodesL_take_le t.args k
          have h3 := HN.out
          have h4 : capped (n + nodes t) 4001 = 4001 := by
            unfold capped at h1 ⊢
            split at h1 <;> split <;> omega
          rw [h4]
          rfl
      · obtain rfl : k = t.args.length := by omega
        go_wp2_with fail
        go_ret
        refine ⟨?_, hBr.out⟩
        have h1 := hc.out
        have h3 := HN.out
        rw [List.take_length] at h1
        show Ending.returned (.int .i64 (m : Int)) = _
        rw [h1, h3]
        congr 3
        omega
set_option maxRecDepth 100000 in
theorem nodesR_any (t : Tm) (p : Option Addr) (cap : Nat) (w : World) (hT : TmAt w t p) :
    Calls Tryz.prog 72 #[t.val p cap] w fun e w' => e = .returned (.int .i64 (capped (nodes t) 4001)) ∧ Below w.heap.size w w' := by
  have HT := hid (hT.keep ((Below.refl w.heap.size w).alloc (Nat.le_refl _) (.cells #[.int .i64 t.kind, .string t.name, .string t.num, .int .u64 t.bits, .int .i64 t.var, .slice p t.args.length cap] 25)))
  have C := fun W h => countR_any (nodes t) t p cap 0 W (Nat.le_refl _) h (by omega)
  obtain ⟨z, hz⟩ : ∃ z : Nat, (z : Int) = capped (nodes t) 4001 := ⟨(capped (nodes t) 4001).toNat, by unfold capped; split <;> omega⟩
  rw [Nat.zero_add, ← hz, show ((0 : Nat) : Int) = 0 from rfl] at C
  rw [← hz]
  have hz1 : z ≤ 4000 ∨ z = 4001 := by unfold capped at hz; split at hz <;> omega
  unfold Tm.val at C ⊢
  have HC := hid C
  clear C hT hz
  rcases hz1 with hz1 | rfl
  all_goals
    go_enter Tryz.func72, Tryz.ntmps72
    go_wp2_with (go_at_call 98; (with_reducible refine (HC.out _ HT.out).mono ?_); rintro e w2 ⟨rfl, hb2⟩; have B2 := hid hb2; clear hb2)
    go_ret
    exact ⟨rfl, ((Below.refl w.heap.size w).alloc (Nat.le_refl _) _).trans (B2.out.mono (by simp))⟩
/-- Contracts of what the document asks of names, texts of integers and bits, for the nodes of a kind, from a world on. -/
structure OracleR (vn vi : ByteArray → Bool) (vb : Int → Bool) (D : Tm → Prop) (w : World) : Prop where
  name : ∀ W, Below w.heap.size w W → ∀ t, D t → Calls Tryz.prog 113 #[.string t.name] W fun e w' => e = .returned (.bool (vn t.name)) ∧ W = w'
  num : ∀ W, Below w.heap.size w W → ∀ t, D t → t.kind = 3 → Calls Tryz.prog 114 #[.string t.num] W fun e w' => e = .returned (.bool (vi t.num)) ∧ Below W.heap.size W w'
  bits : ∀ W, Below w.heap.size w W → ∀ t, D t → t.kind = 4 → Calls Tryz.prog 115 #[.int .u64 t.bits] W fun e w' => e = .returned (.bool (vb t.bits)) ∧ W = w'
theorem OracleR.keep {vn vi : ByteArray → Bool} {vb : Int → Bool} {D : Tm → Prop} {w w1 : World} (h : OracleR vn vi vb D w) (hb : Below w.heap.size w w1) : OracleR vn vi vb D w1 :=
  ⟨fun W hW => h.name W (hb.trans (hW.mono hb.size)), fun W hW => h.num W (hb.trans (hW.mono hb.size)), fun W hW => h.bits W (hb.trans (hW.mono hb.size))⟩
end Go.Proofs.YtkapejcbmonfkaaGreatDoor
