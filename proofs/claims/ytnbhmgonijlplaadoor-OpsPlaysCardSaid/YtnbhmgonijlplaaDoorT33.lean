/- The document's answer on tables of operators: Is. No condition but those that the theorem names. -/
import Derived.Test.YtnbhmgonijlplaaDoorT32
namespace Go.Proofs.YtnbhmgonijlplaaDoor
open Go.RowKit

def lookIs (L : List Opn) (s : ByteArray) : Bool := (look L 1 s).isSome || (look L 2 s).isSome || (look L 3 s).isSome
set_option maxRecDepth 100000 in
set_option maxHeartbeats 4000000 in
theorem refIs (b : Nat) (L : List Opn) (s : ByteArray) (w : World) (hT : RefAt w b L) (hlen : L.length ≤ 4611686018427387904) :
    Calls Tryd.prog 40 #[.pointer (some ⟨b, 0, none⟩), .string s] w fun e w' => e = .returned (.bool (lookIs L s)) ∧ Below w.heap.size w w' := by
  have FND := hid (fun (c : Int) (W : World) (hW : Below w.heap.size w W) => refFind b L c s W (hT.keep hW) hlen)
  have HB := hid (Below.refl w.heap.size w)
  clear hT
  go_enter Tryd.func40, Tryd.ntmps40
  go_wp2
  unfold lookV at FND
  have HI : Hid (lookIs L s = ((look L 1 s).isSome || (look L 2 s).isSome || (look L 3 s).isSome)) := hid rfl
  go_loopw [5] (fun i wr => (i = .int .i64 1 ∨ (i = .int .i64 2 ∧ (look L 1 s).isSome = false) ∨ (i = .int .i64 3 ∧ (look L 1 s).isSome = false ∧ (look L 2 s).isSome = false) ∨ (i = .int .i64 4 ∧ (look L 1 s).isSome = false ∧ (look L 2 s).isSome = false ∧ (look L 3 s).isSome = false)) ∧ Hid (Below w.heap.size w wr)) (fun i _ => 5 - (intOf i).toNat)
  case atStart => exact ⟨Or.inl rfl, HB⟩
  case round =>
    obtain ⟨hi, hBk⟩ := hrel
    rcases hi with rfl | ⟨rfl, h1⟩ | ⟨rfl, h1, h2⟩ | ⟨rfl, h1, h2, h3⟩
    · obtain ⟨q, hq⟩ : ∃ q, (look L 1 s).isSome = q := ⟨_, rfl⟩
      have FN := hid (FND.out 1 wr hBk.out)
      rw [hq] at FN
      generalize (look L 1 s).getD Opn.none = x at FN
      unfold Opn.val at FN
      cases q
      · go_wp2_with (go_at_call 39; (with_reducible refine FN.out.mono ?_); rintro e w1 ⟨rfl, hb1⟩; have B1 := hid ((hBk.out.trans (hb1.mono hBk.out.size)).alloc (Nat.le_trans hBk.out.size hb1.size) (.cells #[.string x.name, .int .i64 x.typ, .int .i64 x.pri] 39)); clear hb1 FN)
        go_roundw
        case rel => exact ⟨.inr (.inl ⟨rfl, hq⟩), B1⟩
        case measure => simp [intOf]
      · go_wp2_with (go_at_call 39; (with_reducible refine FN.out.mono ?_); rintro e w1 ⟨rfl, hb1⟩; have B1 := hid ((hBk.out.trans (hb1.mono hBk.out.size)).alloc (Nat.le_trans hBk.out.size hb1.size) (.cells #[.string x.name, .int .i64 x.typ, .int .i64 x.pri] 39)); clear hb1 FN)
        go_ret
        exact ⟨by rw [HI.out, hq]; simp, B1.out⟩
    · obtain ⟨q, hq⟩ : ∃ q, (look L 2 s).isSome = q := ⟨_, rfl⟩
      have FN := hid (FND.out 2 wr hBk.out)
      rw [hq] at FN
      generalize (look L 2 s).getD Opn.none = x at FN
      unfold Opn.val at FN
      cases q
      · go_wp2_with (go_at_call 39; (with_reducible refine FN.out.mono ?_); rintro e w1 ⟨rfl, hb1⟩; have B1 := hid ((hBk.out.trans (hb1.mono hBk.out.size)).alloc (Nat.le_trans hBk.out.size hb1.size) (.cells #[.string x.name, .int .i64 x.typ, .int .i64 x.pri] 39)); clear hb1 FN)
        go_roundw
        case rel => exact ⟨.inr (.inr (.inl ⟨rfl, h1, hq⟩)), B1⟩
        case measure => simp [intOf]
      · go_wp2_with (go_at_call 39; (with_reducible refine FN.out.mono ?_); rintro e w1 ⟨rfl, hb1⟩; have B1 := hid ((hBk.out.trans (hb1.mono hBk.out.size)).alloc (Nat.le_trans hBk.out.size hb1.size) (.cells #[.string x.name, .int .i64 x.typ, .int .i64 x.pri] 39)); clear hb1 FN)
        go_ret
        exact ⟨by rw [HI.out, hq]; simp, B1.out⟩
    · obtain ⟨q, hq⟩ : ∃ q, (look L 3 s).isSome = q := ⟨_, rfl⟩
      have FN := hid (FND.out 3 wr hBk.out)
      rw [hq] at FN
      generalize (look L 3 s).getD Opn.none = x at FN
      unfold Opn.val at FN
      cases q
      · go_wp2_with (go_at_call 39; (with_reducible refine FN.out.mono ?_); rintro e w1 ⟨rfl, hb1⟩; have B1 := hid ((hBk.out.trans (hb1.mono hBk.out.size)).alloc (Nat.le_trans hBk.out.size hb1.size) (.cells #[.string x.name, .int .i64 x.typ, .int .i64 x.pri] 39)); clear hb1 FN)
        go_roundw
        case rel => exact ⟨.inr (.inr (.inr (⟨rfl, h1, h2, hq⟩))), B1⟩
        case measure => simp [intOf]
      · go_wp2_with (go_at_call 39; (with_reducible refine FN.out.mono ?_); rintro e w1 ⟨rfl, hb1⟩; have B1 := hid ((hBk.out.trans (hb1.mono hBk.out.size)).alloc (Nat.le_trans hBk.out.size hb1.size) (.cells #[.string x.name, .int .i64 x.typ, .int .i64 x.pri] 39)); clear hb1 FN)
        go_ret
        exact ⟨by rw [HI.out, hq]; simp, B1.out⟩
    · go_wp2
      go_ret
      exact ⟨by rw [HI.out, h1, h2, h3]; rfl, hBk.out⟩
end Go.Proofs.YtnbhmgonijlplaaDoor
