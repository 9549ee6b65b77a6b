/- Walks: long. -/
import Derived.Test.YtldafoojkimdeaaDoorW8
namespace Go.Proofs.YtldafoojkimdeaaDoor
open Go.RowKit Lm

/-- Too many bits. -/
def tooLong (A : List Nat) : Bool := decide (4096 < bl (val A))

set_option maxRecDepth 100000 in
set_option maxHeartbeats 1000000 in
theorem long2_any (g : Nat) (na : Bool) (aa : Option Addr) (la ca : Nat) (A : List Nat) (nb : Bool) (ab : Option Addr) (lb cb : Nat) (B : List Nat) (w : World) (hA : Rd w aa la ca A) (hB : Rd w ab lb cb B)
    (h0 : w.cell? ⟨g, 0, none⟩ = some (.bool na)) (h1 : w.cell? ⟨g, 1, none⟩ = some (.slice aa la ca)) (h2 : w.cell? ⟨g, 2, none⟩ = some (.bool nb)) (h3 : w.cell? ⟨g, 3, none⟩ = some (.slice ab lb cb)) :
    Calls Tryd.prog 77 #[.slice (some ⟨g, 0, none⟩) 2 2] w fun e w' => e = .returned (.bool (tooLong A || tooLong B)) ∧ Below w.heap.size w w' := by
  have hg := World.block_lt_of_cell? w _ h0
  simp only at hg
  go_enter Tryd.func77, Tryd.ntmps77
  go_wp2
  go_loopw [7] (fun i wr => ∃ k : Nat, k ≤ 2 ∧ i = .int .i64 (k : Int) ∧ Hid ((1 ≤ k → bl (val A) ≤ 4096) ∧ (2 ≤ k → bl (val B) ≤ 4096)) ∧ Below w.heap.size w wr) (fun i _ => 2 - (intOf i).toNat)
  case atStart => exact ⟨0, by omega, rfl, hid ⟨fun h => by omega, fun h => by omega⟩, Below.refl _ _⟩
  case round =>
    obtain ⟨k, hk, rfl, hd, hB1⟩ := hrel
    have k0 := (hB1.cell (p := ⟨g, 0, none⟩) hg).trans h0
    have k1 := (hB1.cell (p := ⟨g, 1, none⟩) hg).trans h1
    have k2 := (hB1.cell (p := ⟨g, 2, none⟩) hg).trans h2
    have k3 := (hB1.cell (p := ⟨g, 3, none⟩) hg).trans h3
    have hA1 := hA.keep hB1
    have hB1' := hB.keep hB1
    clear h0 h1 h2 h3
    obtain rfl | rfl | rfl : k = 0 ∨ k = 1 ∨ k = 2 := by omega
    · by_cases hb : bl (val A) ≤ 4096
      · go_wp2_with (go_at_call 32; refine (bits_any _ _ _ _ A _ (hA1.alloc _)).mono ?_; rintro e w2 ⟨rfl, hb2⟩)
        go_roundw
        case rel => exact ⟨1, by omega, rfl, hid ⟨fun _ => hb, fun h => by omega⟩, hB1.trans ((balloc hb2).mono hB1.size)⟩
        case measure => simp [intOf]
      · have e := hid (show (tooLong A || tooLong B) = true by unfold tooLong; simp; left; omega)
        go_wp2_with (go_at_call 32; refine (bits_any _ _ _ _ A _ (hA1.alloc _)).mono ?_; rintro e w2 ⟨rfl, hb2⟩)
        go_ret
        exact ⟨by rw [e.out]; rfl, hB1.trans ((balloc hb2).mono hB1.size)⟩
    · have hbA := hd.out.1 (by omega)
      by_cases hb : bl (val B) ≤ 4096
      · clear hbA
        go_wp2_with (go_at_call 32; refine (bits_any _ _ _ _ B _ (hB1'.alloc _)).mono ?_; rintro e w2 ⟨rfl, hb2⟩)
        go_roundw
        case rel => exact ⟨2, by omega, rfl, hid ⟨fun _ => hd.out.1 (by omega), fun _ => hb⟩, hB1.trans ((balloc hb2).mono hB1.size)⟩
        case measure => simp [intOf]
      · have e := hid (show (tooLong A || tooLong B) = true by unfold tooLong; simp; right; omega)
        clear hbA
        go_wp2_with (go_at_call 32; refine (bits_any _ _ _ _ B _ (hB1'.alloc _)).mono ?_; rintro e w2 ⟨rfl, hb2⟩)
        go_ret
        exact ⟨by rw [e.out]; rfl, hB1.trans ((balloc hb2).mono hB1.size)⟩
    · have hbA := hd.out.1 (by omega)
      have hbB := hd.out.2 (by omega)
      have e := hid (show (tooLong A || tooLong B) = false by unfold tooLong; simp; omega)
      clear hbA hbB
      go_wp2
      go_ret
      exact ⟨by rw [e.out]; rfl, hB1⟩

set_option maxRecDepth 100000 in
set_option maxHeartbeats 1000000 in
theorem long1_any (g : Nat) (na : Bool) (aa : Option Addr) (la ca : Nat) (A : List Nat) (w : World) (hA : Rd w aa la ca A)
    (h0 : w.cell? ⟨g, 0, none⟩ = some (.bool na)) (h1 : w.cell? ⟨g, 1, none⟩ = some (.slice aa la ca)) :
    Calls Tryd.prog 77 #[.slice (some ⟨g, 0, none⟩) 1 1] w fun e w' => e = .returned (.bool (tooLong A)) ∧ Below w.heap.size w w' := by
  have hg := World.block_lt_of_cell? w _ h0
  simp only at hg
  go_enter Tryd.func77, Tryd.ntmps77
  go_wp2
  go_loopw [7] (fun i wr => ∃ k : Nat, k ≤ 1 ∧ i = .int .i64 (k : Int) ∧ Hid (1 ≤ k → bl (val A) ≤ 4096) ∧ Below w.heap.size w wr) (fun i _ => 1 - (intOf i).toNat)
  case atStart => exact ⟨0, by omega, rfl, hid (fun h => by omega), Below.refl _ _⟩
  case round =>
    obtain ⟨k, hk, rfl, hd, hB1⟩ := hrel
    have k0 := (hB1.cell (p := ⟨g, 0, none⟩) hg).trans h0
    have k1 := (hB1.cell (p := ⟨g, 1, none⟩) hg).trans h1
    have hA1 := hA.keep hB1
    clear h0 h1
    obtain rfl | rfl : k = 0 ∨ k = 1 := by omega
    · by_cases hb : bl (val A) ≤ 4096
      · go_wp2_with (go_at_call 32; refine (bits_any _ _ _ _ A _ (hA1.alloc _)).mono ?_; rintro e w2 ⟨rfl, hb2⟩)
        go_roundw
        case rel => exact ⟨1, by omega, rfl, hid (fun _ => hb), hB1.trans ((balloc hb2).mono hB1.size)⟩
        case measure => simp [intOf]
      · have e := hid (show tooLong A = true by unfold tooLong; simp; omega)
        go_wp2_with (go_at_call 32; refine (bits_any _ _ _ _ A _ (hA1.alloc _)).mono ?_; rintro e w2 ⟨rfl, hb2⟩)
        go_ret
        exact ⟨by rw [e.out]; rfl, hB1.trans ((balloc hb2).mono hB1.size)⟩
    · have hbA := hd.out (by omega)
      have e := hid (show tooLong A = false by unfold tooLong; simp; omega)
      clear hbA
      go_wp2
      go_ret
      exact ⟨by rw [e.out]; rfl, hB1⟩
end Go.Proofs.YtldafoojkimdeaaDoor
