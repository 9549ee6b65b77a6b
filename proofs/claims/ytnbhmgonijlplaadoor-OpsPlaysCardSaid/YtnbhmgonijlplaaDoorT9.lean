/- Walks: words of the document's answer, at the words of the types. No condition but those that each theorem names. -/
import Derived.Test.YtnbhmgonijlplaaDoorT8
import Derived.Deep.AppendLies
import Derived.Maps.AppendAt
namespace Go.Proofs.YtnbhmgonijlplaaDoor
open Go.RowKit

def frW (k : Nat) : Nat := [0, 0, 0, 3, 3, 3, 6, 6, 6, 6, 10, 10, 10, 10, 14, 14, 14, 14, 18, 18, 18, 21, 21, 21, 24].getD k 0
def cnW (k : Nat) : Nat := [0, 0, 0, 1, 1, 1, 2, 2, 2, 2, 3, 3, 3, 3, 4, 4, 4, 4, 5, 5, 5, 6, 6, 6, 7].getD k 0
def twW : List Value := [.string ⟨#[102, 120]⟩, .string ⟨#[102, 121]⟩, .string ⟨#[120, 102, 120]⟩, .string ⟨#[120, 102, 121]⟩, .string ⟨#[121, 102, 120]⟩, .string ⟨#[120, 102]⟩, .string ⟨#[121, 102]⟩]
/-- The list of the words that lie behind the first k bytes. -/
def OwnW (B : Nat) (w : World) (v : Value) (k : Nat) : Prop := w.ownsRow B 9 1 v (cnW k) (twW.take (cnW k))
theorem OwnW.le {B : Nat} {w : World} {v : Value} {k : Nat} (h : OwnW B w v k) : ∀ k, v.ownBlock = some k → B ≤ k := by
  rcases h.2 with ⟨rfl, -⟩ | ⟨g', cap, cur, rfl, hB, -⟩
  · simp [Value.ownBlock]
  · intro k e
    simp [Value.ownBlock] at e
    omega
theorem info9 : (Tryd.prog.info? 9).map (fun i => (i.zero, i.size, i.bytes)) = some (some (.string ByteArray.empty), 1, 16) := by kernel_rfl

set_option maxRecDepth 100000 in
set_option maxHeartbeats 16000000 in
theorem words35 (w : World) : Calls Tryd.prog 35 #[.string ⟨#[102, 120, 32, 102, 121, 32, 120, 102, 120, 32, 120, 102, 121, 32, 121, 102, 120, 32, 120, 102, 32, 121, 102]⟩] w fun e w' => ∃ v, e = .returned v ∧ w'.ownsRow w.heap.size 9 1 v 7 twW ∧ Below w.heap.size w w' := by
  obtain ⟨i0, hi, hz0, hz1, hz2⟩ := info_parts info9
  go_enter Tryd.func35, Tryd.ntmps35
  go_wp2
  go_loopw [3, 4, 5] (fun o f i wr => ∃ k : Nat, k ≤ 24 ∧ i = .int .i64 (k : Int) ∧ f = .int .i64 (frW k : Int) ∧ Hid (OwnW w.heap.size wr o k) ∧ Hid (Below w.heap.size w wr)) (fun _ _ i _ => 24 - (intOf i).toNat)
  case atStart => exact ⟨0, by omega, rfl, rfl, hid (World.ownsRow_nil _ _ _ _), hid (Below.refl _ _)⟩
  case round =>
    obtain ⟨k, hk, rfl, rfl, hO, hB⟩ := hrel
    rcases (show k = 0 ∨ k = 1 ∨ k = 2 ∨ k = 3 ∨ k = 4 ∨ k = 5 ∨ k = 6 ∨ k = 7 ∨ k = 8 ∨ k = 9 ∨ k = 10 ∨ k = 11 ∨ k = 12 ∨ k = 13 ∨ k = 14 ∨ k = 15 ∨ k = 16 ∨ k = 17 ∨ k = 18 ∨ k = 19 ∨ k = 20 ∨ k = 21 ∨ k = 22 ∨ k = 23 ∨ k = 24 by omega) with rfl | rfl | rfl | rfl | rfl | rfl | rfl | rfl | rfl | rfl | rfl | rfl | rfl | rfl | rfl | rfl | rfl | rfl | rfl | rfl | rfl | rfl | rfl | rfl | rfl
    · have hf : ((frW 0 : Nat) : Int) = 0 := rfl
      rw [hf]; clear hf
      have ix : ∀ w, (Instr.index 9 (.string ⟨#[102, 120, 32, 102, 121, 32, 120, 102, 120, 32, 120, 102, 121, 32, 121, 102, 120, 32, 120, 102, 32, 121, 102]⟩) (.int .i64 0)).run Tryd.prog w = .ok (.int .u8 102) w := fun _ => by kernel_rfl
      go_wp2
      go_roundw
      case rel => exact ⟨1, by omega, rfl, rfl, hO, hB⟩
      case measure => simp [intOf]
    · have hf : ((frW 1 : Nat) : Int) = 0 := rfl
      rw [hf]; clear hf
      have ix : ∀ w, (Instr.index 9 (.string ⟨#[102, 120, 32, 102, 121, 32, 120, 102, 120, 32, 120, 102, 121, 32, 121, 102, 120, 32, 120, 102, 32, 121, 102]⟩) (.int .i64 1)).run Tryd.prog w = .ok (.int .u8 120) w := fun _ => by kernel_rfl
      go_wp2
      go_roundw
      case rel => exact ⟨2, by omega, rfl, rfl, hO, hB⟩
      case measure => simp [intOf]
    · have hf : ((frW 2 : Nat) : Int) = 0 := rfl
      rw [hf]; clear hf
      have ix : ∀ w, (Instr.index 9 (.string ⟨#[102, 120, 32, 102, 121, 32, 120, 102, 120, 32, 120, 102, 121, 32, 121, 102, 120, 32, 120, 102, 32, 121, 102]⟩) (.int .i64 2)).run Tryd.prog w = .ok (.int .u8 32) w := fun _ => by kernel_rfl
      have hsl : ∀ w, (Instr.slice 9 (.string ⟨#[102, 120, 32, 102, 121, 32, 120, 102, 120, 32, 120, 102, 121, 32, 121, 102, 120, 32, 120, 102, 32, 121, 102]⟩) (some (.int .i64 0)) (some (.int .i64 2)) none).run Tryd.prog w = .ok (.string ⟨#[102, 120]⟩) w := fun _ => by kernel_rfl
      have hsz := hB.out.size
      go_wp2_with (at_builtin; refine wpList_append_own _ rfl _ _ 63 rfl w.heap.size 9 i0 (.string ByteArray.empty) 1 16 Tryd.underlying63 hi hz0 hz1 hz2 rfl (by decide) _ _ _ rfl (World.ownsRow.alloc hO.out _) ⟨wr.heap.size, 0, none⟩ 1 1 [.string ⟨#[102, 120]⟩] rfl rfl ?c1 ?c2 ?c3 ?c4 ?c5 ?_)
      case c1 =>
        intro j u hj
        match j, hj with
        | 0, hj => simp at hj; subst hj; simp [Addr.add]
      case c2 => intro u hu; simp at hu; subst hu; rfl
      case c3 => decide
      case c4 => decide
      case c5 => simp; omega
      intro v' w5 hown' hgrow _
      have hb5 := hid ((hB.out.alloc hB.out.size _).grown hgrow (by simp; omega) hO.out.le)
      have hO5 := hid (show OwnW w.heap.size w5 v' 3 from hown')
      clear hgrow hown'
      go_wp2
      go_roundw
      case rel => exact ⟨3, by omega, rfl, rfl, hO5, hb5⟩
      case measure => simp [intOf]
    · have hf : ((frW 3 : Nat) : Int) = 3 := rfl
      rw [hf]; clear hf
      have ix : ∀ w, (Instr.index 9 (.string ⟨#[102, 120, 32, 102, 121, 32, 120, 102, 120, 32, 120, 102, 121, 32, 121, 102, 120, 32, 120, 102, 32, 121, 102]⟩) (.int .i64 3)).run Tryd.prog w = .ok (.int .u8 102) w := fun _ => by kernel_rfl
      go_wp2
      go_roundw
      case rel => exact ⟨4, by omega, rfl, rfl, hO, hB⟩
      case measure => simp [intOf]
    · have hf : ((frW 4 : Nat) : Int) = 3 := rfl
      rw [hf]; clear hf
      have ix : ∀ w, (Instr.index 9 (.string ⟨#[102, 120, 32, 102, 121, 32, 120, 102, 120, 32, 120, 102, 121, 32, 121, 102, 120, 32, 120, 102, 32, 121, 102]⟩) (.int .i64 4)).run Tryd.prog w = .ok (.int .u8 121) w := fun _ => by kernel_rfl
      go_wp2
      go_roundw
      case rel => exact ⟨5, by omega, rfl, rfl, hO, hB⟩
      case measure => simp [intOf]
    · have hf : ((frW 5 : Nat) : Int) = 3 := rfl
      rw [hf]; clear hf
      have ix : ∀ w, (Instr.index 9 (.string ⟨#[102, 120, 32, 102, 121, 32, 120, 102, 120, 32, 120, 102, 121, 32, 121, 102, 120, 32, 120, 102, 32, 121, 102]⟩) (.int .i64 5)).run Tryd.prog w = .ok (.int .u8 32) w := fun _ => by kernel_rfl
      have hsl : ∀ w, (Instr.slice 9 (.string ⟨#[102, 120, 32, 102, 121, 32, 120, 102, 120, 32, 120, 102, 121, 32, 121, 102, 120, 32, 120, 102, 32, 121, 102]⟩) (some (.int .i64 3)) (some (.int .i64 5)) none).run Tryd.prog w = .ok (.string ⟨#[102, 121]⟩) w := fun _ => by kernel_rfl
      have hsz := hB.out.size
      go_wp2_with (at_builtin; refine wpList_append_own _ rfl _ _ 63 rfl w.heap.size 9 i0 (.string ByteArray.empty) 1 16 Tryd.underlying63 hi hz0 hz1 hz2 rfl (by decide) _ _ _ rfl (World.ownsRow.alloc hO.out _) ⟨wr.heap.size, 0, none⟩ 1 1 [.string ⟨#[102, 121]⟩] rfl rfl ?c1 ?c2 ?c3 ?c4 ?c5 ?_)
      case c1 =>
        intro j u hj
        match j, hj with
        | 0, hj => simp at hj; subst hj; simp [Addr.add]
      case c2 => intro u hu; simp at hu; subst hu; rfl
      case c3 => decide
      case c4 => decide
      case c5 => simp; omega
      intro v' w5 hown' hgrow _
      have hb5 := hid ((hB.out.alloc hB.out.size _).grown hgrow (by simp; omega) hO.out.le)
      have hO5 := hid (show OwnW w.heap.size w5 v' 6 from hown')
      clear hgrow hown'
      go_wp2
      go_roundw
      case rel => exact ⟨6, by omega, rfl, rfl, hO5, hb5⟩
      case measure => simp [intOf]
    · have hf : ((frW 6 : Nat) : Int) = 6 := rfl
      rw [hf]; clear hf
      have ix : ∀ w, (Instr.index 9 (.string ⟨#[102, 120, 32, 102, 121, 32, 120, 102, 120, 32, 120, 102, 121, 32, 121, 102, 120, 32, 120, 102, 32, 121, 102]⟩) (.int .i64 6)).run Tryd.prog w = .ok (.int .u8 120) w := fun _ => by kernel_rfl
      go_wp2
      go_roundw
      case rel => exact ⟨7, by omega, rfl, rfl, hO, hB⟩
      case measure => simp [intOf]
    · have hf : ((frW 7 : Nat) : Int) = 6 := rfl
      rw [hf]; clear hf
      have ix : ∀ w, (Instr.index 9 (.string ⟨#[102, 120, 32, 102, 121, 32, 120, 102, 120, 32, 120, 102, 121, 32, 121, 102, 120, 32, 120, 102, 32, 121, 102]⟩) (.int .i64 7)).run Tryd.prog w = .ok (.int .u8 102) w := fun _ => by kernel_rfl
      go_wp2
      go_roundw
      case rel => exact ⟨8, by omega, rfl, rfl, hO, hB⟩
      case measure => simp [intOf]
    · have hf : ((frW 8 : Nat) : Int) = 6 := rfl
      rw [hf]; clear hf
      have ix : ∀ w, (Instr.index 9 (.string ⟨#[102, 120, 32, 102, 121, 32, 120, 102, 120, 32, 120, 102, 121, 32, 121, 102, 120, 32, 120, 102, 32, 121, 102]⟩) (.int .i64 8)).run Tryd.prog w = .ok (.int .u8 120) w := fun _ => by kernel_rfl
      go_wp2
      go_roundw
      case rel => exact ⟨9, by omega, rfl, rfl, hO, hB⟩
      case measure => simp [intOf]
    · have hf : ((frW 9 : Nat) : Int) = 6 := rfl
      rw [hf]; clear hf
      have ix : ∀ w, (Instr.index 9 (.string ⟨#[102, 120, 32, 102, 121, 32, 120, 102, 120, 32, 120, 102, 121, 32, 121, 102, 120, 32, 120, 102, 32, 121, 102]⟩) (.int .i64 9)).run Tryd.prog w = .ok (.int .u8 32) w := fun _ => by kernel_rfl
      have hsl : ∀ w, (Instr.slice 9 (.string ⟨#[102, 120, 32, 102, 121, 32, 120, 102, 120, 32, 120, 102, 121, 32, 121, 102, 120, 32, 120, 102, 32, 121, 102]⟩) (some (.int .i64 6)) (some (.int .i64 9)) none).run Tryd.prog w = .ok (.string ⟨#[120, 102, 120]⟩) w := fun _ => by kernel_rfl
      have hsz := hB.out.size
      go_wp2_with (at_builtin; refine wpList_append_own _ rfl _ _ 63 rfl w.heap.size 9 i0 (.string ByteArray.empty) 1 16 Tryd.underlying63 hi hz0 hz1 hz2 rfl (by decide) _ _ _ rfl (World.ownsRow.alloc hO.out _) ⟨wr.heap.size, 0, none⟩ 1 1 [.string ⟨#[120, 102, 120]⟩] rfl rfl ?c1 ?c2 ?c3 ?c4 ?c5 ?_)
      case c1 =>
        intro j u hj
        match j, hj with
        | 0, hj => simp at hj; subst hj; simp [Addr.add]
      case c2 => intro u hu; simp at hu; subst hu; rfl
      case c3 => decide
      case c4 => decide
      case c5 => simp; omega
      intro v' w5 hown' hgrow _
      have hb5 := hid ((hB.out.alloc hB.out.size _).grown hgrow (by simp; omega) hO.out.le)
      have hO5 := hid (show OwnW w.heap.size w5 v' 10 from hown')
      clear hgrow hown'
      go_wp2
      go_roundw
      case rel => exact ⟨10, by omega, rfl, rfl, hO5, hb5⟩
      case measure => simp [intOf]
    · have hf : ((frW 10 : Nat) : Int) = 10 := rfl
      rw [hf]; clear hf
      have ix : ∀ w, (Instr.index 9 (.string ⟨#[102, 120, 32, 102, 121, 32, 120, 102, 120, 32, 120, 102, 121, 32, 121, 102, 120, 32, 120, 102, 32, 121, 102]⟩) (.int .i64 10)).run Tryd.prog w = .ok (.int .u8 120) w := fun _ => by kernel_rfl
      go_wp2
      go_roundw
      case rel => exact ⟨11, by omega, rfl, rfl, hO, hB⟩
      case measure => simp [intOf]
    · have hf : ((frW 11 : Nat) : Int) = 10 := rfl
      rw [hf]; clear hf
      have ix : ∀ w, (Instr.index 9 (.string ⟨#[102, 120, 32, 102, 121, 32, 120, 102, 120, 32, 120, 102, 121, 32, 121, 102, 120, 32, 120, 102, 32, 121, 102]⟩) (.int .i64 11)).run Tryd.prog w = .ok (.int .u8 102) w := fun _ => by kernel_rfl
      go_wp2
      go_roundw
      case rel => exact ⟨12, by omega, rfl, rfl, hO, hB⟩
      case measure => simp [intOf]
    · have hf : ((frW 12 : Nat) : Int) = 10 := rfl
      rw [hf]; clear hf
      have ix : ∀ w, (Instr.index 9 (.string ⟨#[102, 120, 32, 102, 121, 32, 120, 102, 120, 32, 120, 102, 121, 32, 121, 102, 120, 32, 120, 102, 32, 121, 102]⟩) (.int .i64 12)).run Tryd.prog w = .ok (.int .u8 121) w := fun _ => by kernel_rfl
      go_wp2
      go_roundw
      case rel => exact ⟨13, by omega, rfl, rfl, hO, hB⟩
      case measure => simp [intOf]
    · have hf : ((frW 13 : Nat) : Int) = 10 := rfl
      rw [hf]; clear hf
      have ix : ∀ w, (Instr.index 9 (.string ⟨#[102, 120, 32, 102, 121, 32, 120, 102, 120, 32, 120, 102, 121, 32, 121, 102, 120, 32, 120, 102, 32, 121, 102]⟩) (.int .i64 13)).run Tryd.prog w = .ok (.int .u8 32) w := fun _ => by kernel_rfl
      have hsl : ∀ w, (Instr.slice 9 (.string ⟨#[102, 120, 32, 102, 121, 32, 120, 102, 120, 32, 120, 102, 121, 32, 121, 102, 120, 32, 120, 102, 32, 121, 102]⟩) (some (.int .i64 10)) (some (.int .i64 13)) none).run Tryd.prog w = .ok (.string ⟨#[120, 102, 121]⟩) w := fun _ => by kernel_rfl
      have hsz := hB.out.size
      go_wp2_with (at_builtin; refine wpList_append_own _ rfl _ _ 63 rfl w.heap.size 9 i0 (.string ByteArray.empty) 1 16 Tryd.underlying63 hi hz0 hz1 hz2 rfl (by decide) _ _ _ rfl (World.ownsRow.alloc hO.out _) ⟨wr.heap.size, 0, none⟩ 1 1 [.string ⟨#[120, 102, 121]⟩] rfl rfl ?c1 ?c2 ?c3 ?c4 ?c5 ?_)
      case c1 =>
        intro j u hj
        match j, hj with
        | 0, hj => simp at hj; subst hj; simp [Addr.add]
      case c2 => intro u hu; simp at hu; subst hu; rfl
      case c3 => decide
      case c4 => decide
      case c5 => simp; omega
      intro v' w5 hown' hgrow _
      have hb5 := hid ((hB.out.alloc hB.out.size _).grown hgrow (by simp; omega) hO.out.le)
      have hO5 := hid (show OwnW w.heap.size w5 v' 14 from hown')
      clear hgrow hown'
      go_wp2
      go_roundw
      case rel => exact ⟨14, by omega, rfl, rfl, hO5, hb5⟩
      case measure => simp [intOf]
    · have hf : ((frW 14 : Nat) : Int) = 14 := rfl
      rw [hf]; clear hf
      have ix : ∀ w, (Instr.index 9 (.string ⟨#[102, 120, 32, 102, 121, 32, 120, 102, 120, 32, 120, 102, 121, 32, 121, 102, 120, 32, 120, 102, 32, 121, 102]⟩) (.int .i64 14)).run Tryd.prog w = .ok (.int .u8 121) w := fun _ => by kernel_rfl
      go_wp2
      go_roundw
      case rel => exact ⟨15, by omega, rfl, rfl, hO, hB⟩
      case measure => simp [intOf]
    · have hf : ((frW 15 : Nat) : Int) = 14 := rfl
      rw [hf]; clear hf
      have ix : ∀ w, (Instr.index 9 (.string ⟨#[102, 120, 32, 102, 121, 32, 120, 102, 120, 32, 120, 102, 121, 32, 121, 102, 120, 32, 120, 102, 32, 121, 102]⟩) (.int .i64 15)).run Tryd.prog w = .ok (.int .u8 102) w := fun _ => by kernel_rfl
      go_wp2
      go_roundw
      case rel => exact ⟨16, by omega, rfl, rfl, hO, hB⟩
      case measure => simp [intOf]
    · have hf : ((frW 16 : Nat) : Int) = 14 := rfl
      rw [hf]; clear hf
      have ix : ∀ w, (Instr.index 9 (.string ⟨#[102, 120, 32, 102, 121, 32, 120, 102, 120, 32, 120, 102, 121, 32, 121, 102, 120, 32, 120, 102, 32, 121, 102]⟩) (.int .i64 16)).run Tryd.prog w = .ok (.int .u8 120) w := fun _ => by kernel_rfl
      go_wp2
      go_roundw
      case rel => exact ⟨17, by omega, rfl, rfl, hO, hB⟩
      case measure => simp [intOf]
    · have hf : ((frW 17 : Nat) : Int) = 14 := rfl
      rw [hf]; clear hf
      have ix : ∀ w, (Instr.index 9 (.string ⟨#[102, 120, 32, 102, 121, 32, 120, 102, 120, 32, 120, 102, 121, 32, 121, 102, 120, 32, 120, 102, 32, 121, 102]⟩) (.int .i64 17)).run Tryd.prog w = .ok (.int .u8 32) w := fun _ => by kernel_rfl
      have hsl : ∀ w, (Instr.slice 9 (.string ⟨#[102, 120, 32, 102, 121, 32, 120, 102, 120, 32, 120, 102, 121, 32, 121, 102, 120, 32, 120, 102, 32, 121, 102]⟩) (some (.int .i64 14)) (some (.int .i64 17)) none).run Tryd.prog w = .ok (.string ⟨#[121, 102, 120]⟩) w := fun _ => by kernel_rfl
      have hsz := hB.out.size
      go_wp2_with (at_builtin; refine wpList_append_own _ rfl _ _ 63 rfl w.heap.size 9 i0 (.string ByteArray.empty) 1 16 Tryd.underlying63 hi hz0 hz1 hz2 rfl (by decide) _ _ _ rfl (World.ownsRow.alloc hO.out _) ⟨wr.heap.size, 0, none⟩ 1 1 [.string ⟨#[121, 102, 120]⟩] rfl rfl ?c1 ?c2 ?c3 ?c4 ?c5 ?_)
      case c1 =>
        intro j u hj
        match j, hj with
        | 0, hj => simp at hj; subst hj; simp [Addr.add]
      case c2 => intro u hu; simp at hu; subst hu; rfl
      case c3 => decide
      case c4 => decide
      case c5 => simp; omega
      intro v' w5 hown' hgrow _
      have hb5 := hid ((hB.out.alloc hB.out.size _).grown hgrow (by simp; omega) hO.out.le)
      have hO5 := hid (show OwnW w.heap.size w5 v' 18 from hown')
      clear hgrow hown'
      go_wp2
      go_roundw
      case rel => exact ⟨18, by omega, rfl, rfl, hO5, hb5⟩
      case measure => simp [intOf]
    · have hf : ((frW 18 : Nat) : Int) = 18 := rfl
      rw [hf]; clear hf
      have ix : ∀ w, (Instr.index 9 (.string ⟨#[102, 120, 32, 102, 121, 32, 120, 102, 120, 32, 120, 102, 121, 32, 121, 102, 120, 32, 120, 102, 32, 121, 102]⟩) (.int .i64 18)).run Tryd.prog w = .ok (.int .u8 120) w := fun _ => by kernel_rfl
      go_wp2
      go_roundw
      case rel => exact ⟨19, by omega, rfl, rfl, hO, hB⟩
      case measure => simp [intOf]
    · have hf : ((frW 19 : Nat) : Int) = 18 := rfl
      rw [hf]; clear hf
      have ix : ∀ w, (Instr.index 9 (.string ⟨#[102, 120, 32, 102, 121, 32, 120, 102, 120, 32, 120, 102, 121, 32, 121, 102, 120, 32, 120, 102, 32, 121, 102]⟩) (.int .i64 19)).run Tryd.prog w = .ok (.int .u8 102) w := fun _ => by kernel_rfl
      go_wp2
      go_roundw
      case rel => exact ⟨20, by omega, rfl, rfl, hO, hB⟩
      case measure => simp [intOf]
    · have hf : ((frW 20 : Nat) : Int) = 18 := rfl
      rw [hf]; clear hf
      have ix : ∀ w, (Instr.index 9 (.string ⟨#[102, 120, 32, 102, 121, 32, 120, 102, 120, 32, 120, 102, 121, 32, 121, 102, 120, 32, 120, 102, 32, 121, 102]⟩) (.int .i64 20)).run Tryd.prog w = .ok (.int .u8 32) w := fun _ => by kernel_rfl
      have hsl : ∀ w, (Instr.slice 9 (.string ⟨#[102, 120, 32, 102, 121, 32, 120, 102, 120, 32, 120, 102, 121, 32, 121, 102, 120, 32, 120, 102, 32, 121, 102]⟩) (some (.int .i64 18)) (some (.int .i64 20)) none).run Tryd.prog w = .ok (.string ⟨#[120, 102]⟩) w := fun _ => by kernel_rfl
      have hsz := hB.out.size
      go_wp2_with (at_builtin; refine wpList_append_own _ rfl _ _ 63 rfl w.heap.size 9 i0 (.string ByteArray.empty) 1 16 Tryd.underlying63 hi hz0 hz1 hz2 rfl (by decide) _ _ _ rfl (World.ownsRow.alloc hO.out _) ⟨wr.heap.size, 0, none⟩ 1 1 [.string ⟨#[120, 102]⟩] rfl rfl ?c1 ?c2 ?c3 ?c4 ?c5 ?_)
      case c1 =>
        intro j u hj
        match j, hj with
        | 0, hj => simp at hj; subst hj; simp [Addr.add]
      case c2 => intro u hu; simp at hu; subst hu; rfl
      case c3 => decide
      case c4 => decide
      case c5 => simp; omega
      intro v' w5 hown' hgrow _
      have hb5 := hid ((hB.out.alloc hB.out.size _).grown hgrow (by simp; omega) hO.out.le)
      have hO5 := hid (show OwnW w.heap.size w5 v' 21 from hown')
      clear hgrow hown'
      go_wp2
      go_roundw
      case rel => exact ⟨21, by omega, rfl, rfl, hO5, hb5⟩
      case measure => simp [intOf]
    · have hf : ((frW 21 : Nat) : Int) = 21 := rfl
      rw [hf]; clear hf
      have ix : ∀ w, (Instr.index 9 (.string ⟨#[102, 120, 32, 102, 121, 32, 120, 102, 120, 32, 120, 102, 121, 32, 121, 102, 120, 32, 120, 102, 32, 121, 102]⟩) (.int .i64 21)).run Tryd.prog w = .ok (.int .u8 121) w := fun _ => by kernel_rfl
      go_wp2
      go_roundw
      case rel => exact ⟨22, by omega, rfl, rfl, hO, hB⟩
      case measure => simp [intOf]
    · have hf : ((frW 22 : Nat) : Int) = 21 := rfl
      rw [hf]; clear hf
      have ix : ∀ w, (Instr.index 9 (.string ⟨#[102, 120, 32, 102, 121, 32, 120, 102, 120, 32, 120, 102, 121, 32, 121, 102, 120, 32, 120, 102, 32, 121, 102]⟩) (.int .i64 22)).run Tryd.prog w = .ok (.int .u8 102) w := fun _ => by kernel_rfl
      go_wp2
      go_roundw
      case rel => exact ⟨23, by omega, rfl, rfl, hO, hB⟩
      case measure => simp [intOf]
    · have hf : ((frW 23 : Nat) : Int) = 21 := rfl
      rw [hf]; clear hf
      have hsl : ∀ w, (Instr.slice 9 (.string ⟨#[102, 120, 32, 102, 121, 32, 120, 102, 120, 32, 120, 102, 121, 32, 121, 102, 120, 32, 120, 102, 32, 121, 102]⟩) (some (.int .i64 21)) (some (.int .i64 23)) none).run Tryd.prog w = .ok (.string ⟨#[121, 102]⟩) w := fun _ => by kernel_rfl
      have hsz := hB.out.size
      go_wp2_with (at_builtin; refine wpList_append_own _ rfl _ _ 63 rfl w.heap.size 9 i0 (.string ByteArray.empty) 1 16 Tryd.underlying63 hi hz0 hz1 hz2 rfl (by decide) _ _ _ rfl (World.ownsRow.alloc hO.out _) ⟨wr.heap.size, 0, none⟩ 1 1 [.string ⟨#[121, 102]⟩] rfl rfl ?c1 ?c2 ?c3 ?c4 ?c5 ?_)
      case c1 =>
        intro j u hj
        match j, hj with
        | 0, hj => simp at hj; subst hj; simp [Addr.add]
      case c2 => intro u hu; simp at hu; subst hu; rfl
      case c3 => decide
      case c4 => decide
      case c5 => simp; omega
      intro v' w5 hown' hgrow _
      have hb5 := hid ((hB.out.alloc hB.out.size _).grown hgrow (by simp; omega) hO.out.le)
      have hO5 := hid (show OwnW w.heap.size w5 v' 24 from hown')
      clear hgrow hown'
      go_wp2
      go_roundw
      case rel => exact ⟨24, by omega, rfl, rfl, hO5, hb5⟩
      case measure => simp [intOf]
    · go_wp2
      go_ret
      exact ⟨_, rfl, hO.out, hB.out⟩
end Go.Proofs.YtnbhmgonijlplaaDoor
