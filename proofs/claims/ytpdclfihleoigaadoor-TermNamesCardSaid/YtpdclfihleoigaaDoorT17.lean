/- Walks: SameInts of two lists that are the same. No condition but those that the theorem names. -/
import Derived.Test.YtpdclfihleoigaaDoorT8
namespace Go.Proofs.YtpdclfihleoigaaDoor
open Go.RowKit

theorem rowI_get {w : World} {base : Nat} {v : Value} {S : List Int} (h : w.ownsRow base 3 1 v S.length (ints S)) {p : Option Addr} {cap : Nat} (hv : v = .slice p S.length cap) (k : Nat) (hk : k < S.length) : ∃ g, p = some ⟨g, 0, none⟩ ∧ w.cell? ⟨g, k, none⟩ = some (.int .i64 S[k]) := by
  rcases h.2 with ⟨h1, h2⟩ | ⟨g, cap', cur, h1, h2⟩
  · omega
  · rw [hv] at h1
    cases h1
    have hc := h.cells (g := g) (by rw [hv]; rfl) k (.int .i64 S[k]) (by simp [ints, hk])
    rw [Addr.add_lit, Nat.zero_add] at hc
    exact ⟨g, rfl, hc⟩
set_option maxRecDepth 100000 in
set_option maxHeartbeats 4000000 in
theorem sameInts_yes (S : List Int) (v1 v2 : Value) (b1 b2 : Nat) (w : World) (h1 : w.ownsRow b1 3 1 v1 S.length (ints S)) (h2 : w.ownsRow b2 3 1 v2 S.length (ints S)) (hl : S.length ≤ 4611686018427387904) :
    Calls Tryd.prog 20 #[v1, v2] w fun e w' => e = .returned (.bool true) ∧ Below w.heap.size w w' := by
  obtain ⟨p1, c1, rfl⟩ := rowI_form h1
  obtain ⟨p2, c2, rfl⟩ := rowI_form h2
  have H1 := hid (fun k hk => rowI_get h1 rfl k hk)
  have H2 := hid (fun k hk => rowI_get h2 rfl k hk)
  have HB := hid (Below.refl w.heap.size w)
  clear h1 h2
  go_enter Tryd.func20, Tryd.ntmps20
  go_wp2
  go_loopw [5] (fun i wr => ∃ k : Nat, k ≤ S.length ∧ i = .int .i64 (k : Int) ∧ Hid (Below w.heap.size w wr)) (fun i _ => S.length - (intOf i).toNat)
  case atStart => exact ⟨0, by omega, rfl, HB⟩
  case round =>
    clear HB
    obtain ⟨k, hk, rfl, hB⟩ := hrel
    by_cases hlt : k < S.length
    · obtain ⟨g1, hg1, x1⟩ := H1.out k hlt
      obtain ⟨g2, hg2, x2⟩ := H2.out k hlt
      subst hg1 hg2
      have y1 := heap_cell_keep hB.out x1
      have y2 := heap_cell_keep hB.out x2
      clear x1 x2
      generalize S[k] = z at *
      go_wp2
      go_quiet (fail)
      go_wp2
      go_roundw
      case rel => exact ⟨k + 1, by omega, by go_num, hid ⟨hB.out.os, hB.out.tape, hB.out.output, hB.out.size, hB.out.block⟩⟩
      case measure => simp [intOf]; omega
    · obtain rfl : k = S.length := by omega
      clear hlt
      go_wp2
      go_ret
      exact ⟨rfl, hB.out⟩
end Go.Proofs.YtpdclfihleoigaaDoor
