/- The document's answer on tables of operators: Add where it refuses. No condition but those that the theorem names. -/
import Derived.Test.YtnbhmgonijlplaaDoorT34
namespace Go.Proofs.YtnbhmgonijlplaaDoor
open Go.RowKit Go.Joins

section
variable (b : Nat) (L : List Opn) (p k : Int) (s : ByteArray) (w : World) (hT : RefAt w b L) (hlen : L.length ≤ 4611686018427387904)
include hT hlen
set_option maxRecDepth 100000 in
set_option maxHeartbeats 8000000 in
theorem refAdd_refused (h0 : look L 0 s = none) (hz0 : refu (look L) p k s ≠ 0) : Calls Tryd.prog 15 #[.pointer (some ⟨b, 0, none⟩), .int .i64 p, .int .i64 k, .string s] w fun e w' => e = .returned (.int .i64 (refu (look L) p k s)) ∧ Below w.heap.size w w' := by
  obtain ⟨z, hz⟩ : ∃ z, z = refu (look L) p k s := ⟨_, rfl⟩
  rw [← hz] at hz0 ⊢
  unfold refu at hz
  obtain ⟨c, hck⟩ : ∃ c, c = cls k := ⟨_, rfl⟩
  have HC : Hid (cls k = c) := hid hck.symm
  have hcr := cls_range k
  rw [← hck] at hz hcr
  clear hck
  have FA := hid (refFind b L 2 s w hT hlen)
  have FB := hid (fun (W : World) (hW : Below w.heap.size w W) => refFind b L 3 s W (hT.keep hW) hlen)
  clear hT
  unfold lookV Opn.val at FA FB
  have hr : (look L (riv c) s).isSome = (if c = 2 then (look L 3 s).isSome else if c = 3 then (look L 2 s).isSome else false) := by
    unfold riv
    split
    · rfl
    · split
      · rfl
      · rw [h0]; rfl
  rw [hr] at hz
  clear hr h0
  generalize (look L 2 s).getD Opn.none = x2 at *
  generalize (look L 3 s).getD Opn.none = x3 at *
  generalize (look L 2 s).isSome = q2 at *
  generalize (look L 3 s).isSome = q3 at *
  by_cases hp : p < 0 ∨ 1200 < p
  · rw [if_pos hp] at hz
    subst hz
    rcases hp with hp | hp
    all_goals
      (try have hp2 : ¬ p < 0 := by omega)
      go_enter Tryd.func15, Tryd.ntmps15
      go_wp2_with (first
        | (go_at_call 38; (with_reducible refine (refClass _ _).mono ?_); rintro e w5 ⟨rfl, rfl⟩; rw [HC.out])
        | (go_at_call 39; (with_reducible refine FA.out.mono ?_); rintro e w1 ⟨rfl, hb1⟩; have B1 := hid (hb1.alloc hb1.size (.cells #[.string x2.name, .int .i64 x2.typ, .int .i64 x2.pri] 39)); clear hb1 FA)
        | (go_at_call 39; (with_reducible refine (FB.out _ B1.out).mono ?_); rintro e w2 ⟨rfl, hb2⟩; have B2 := hid ((B1.out.trans (hb2.mono B1.out.size)).alloc (Nat.le_trans B1.out.size hb2.size) (.cells #[.string x3.name, .int .i64 x3.typ, .int .i64 x3.pri] 39)); clear hb2 FB))
      go_ret
      exact ⟨rfl, B2.out⟩
  · rw [if_neg hp] at hz
    have n1 : ¬ p < 0 := by omega
    have n2 : ¬ 1200 < p := by omega
    clear hp
    by_cases hk : c = 0
    · rw [if_pos hk] at hz
      subst hz
      subst hk
      go_enter Tryd.func15, Tryd.ntmps15
      go_wp2_with (first
        | (go_at_call 38; (with_reducible refine (refClass _ _).mono ?_); rintro e w5 ⟨rfl, rfl⟩; rw [HC.out])
        | (go_at_call 39; (with_reducible refine FA.out.mono ?_); rintro e w1 ⟨rfl, hb1⟩; have B1 := hid (hb1.alloc hb1.size (.cells #[.string x2.name, .int .i64 x2.typ, .int .i64 x2.pri] 39)); clear hb1 FA)
        | (go_at_call 39; (with_reducible refine (FB.out _ B1.out).mono ?_); rintro e w2 ⟨rfl, hb2⟩; have B2 := hid ((B1.out.trans (hb2.mono B1.out.size)).alloc (Nat.le_trans B1.out.size hb2.size) (.cells #[.string x3.name, .int .i64 x3.typ, .int .i64 x3.pri] 39)); clear hb2 FB))
      go_ret
      exact ⟨rfl, B2.out⟩
    · rw [if_neg hk] at hz
      have hk2 : (c == 0) = false := by simpa using hk
      clear hk
      rcases nm_cases s with ⟨e, hn⟩ | ⟨e, hn⟩ | ⟨e, hn⟩ | ⟨e, hn⟩ | ⟨⟨e1, e2, e3, e4⟩, hn⟩
      all_goals obtain ⟨t1, t2, t3, t4⟩ := hn
      · rw [if_pos e] at hz
        subst hz
        clear e
        go_enter Tryd.func15, Tryd.ntmps15
        go_wp2_with (first
          | (go_at_call 38; (with_reducible refine (refClass _ _).mono ?_); rintro e w5 ⟨rfl, rfl⟩; rw [HC.out])
          | (go_at_call 39; (with_reducible refine FA.out.mono ?_); rintro e w1 ⟨rfl, hb1⟩; have B1 := hid (hb1.alloc hb1.size (.cells #[.string x2.name, .int .i64 x2.typ, .int .i64 x2.pri] 39)); clear hb1 FA)
          | (go_at_call 39; (with_reducible refine (FB.out _ B1.out).mono ?_); rintro e w2 ⟨rfl, hb2⟩; have B2 := hid ((B1.out.trans (hb2.mono B1.out.size)).alloc (Nat.le_trans B1.out.size hb2.size) (.cells #[.string x3.name, .int .i64 x3.typ, .int .i64 x3.pri] 39)); clear hb2 FB))
        go_ret
        exact ⟨rfl, B2.out⟩
      · rw [if_neg (by rw [e]; decide)] at hz
        by_cases hc2 : c = 2
        · subst hc2
          by_cases hm : 1 ≤ p ∧ p ≤ 1000
          · rw [if_pos (.inl ⟨e, fun h => by omega⟩)] at hz
            obtain ⟨m1, m2⟩ := hm
            subst hz
            clear e
            go_enter Tryd.func15, Tryd.ntmps15
            go_wp2_with (first
              | (go_at_call 38; (with_reducible refine (refClass _ _).mono ?_); rintro e w5 ⟨rfl, rfl⟩; rw [HC.out])
              | (go_at_call 39; (with_reducible refine FA.out.mono ?_); rintro e w1 ⟨rfl, hb1⟩; have B1 := hid (hb1.alloc hb1.size (.cells #[.string x2.name, .int .i64 x2.typ, .int .i64 x2.pri] 39)); clear hb1 FA)
              | (go_at_call 39; (with_reducible refine (FB.out _ B1.out).mono ?_); rintro e w2 ⟨rfl, hb2⟩; have B2 := hid ((B1.out.trans (hb2.mono B1.out.size)).alloc (Nat.le_trans B1.out.size hb2.size) (.cells #[.string x3.name, .int .i64 x3.typ, .int .i64 x3.pri] 39)); clear hb2 FB))
            go_ret
            exact ⟨rfl, B2.out⟩
          · rw [if_neg (by rintro (⟨_, h⟩ | h | h) <;> first | exact h ⟨rfl, by omega⟩ | exact absurd (e.symm.trans h) (by decide))] at hz
            have hq : q3 = true ∧ 0 < p := by
              by_cases h : q3 = true ∧ 0 < p
              · exact h
              · exact absurd (by rw [hz]; simpa using h) hz0
            obtain ⟨rfl, hp0⟩ := hq
            have hzz : z = 43 := by rw [hz]; simp [hp0]
            subst hzz
            have hp1 : ¬ p ≤ 1000 := by omega
            have hp2 : 1 ≤ p := by omega
            clear e hz hm
            go_enter Tryd.func15, Tryd.ntmps15
            go_wp2_with (first
              | (go_at_call 38; (with_reducible refine (refClass _ _).mono ?_); rintro e w5 ⟨rfl, rfl⟩; rw [HC.out])
              | (go_at_call 39; (with_reducible refine FA.out.mono ?_); rintro e w1 ⟨rfl, hb1⟩; have B1 := hid (hb1.alloc hb1.size (.cells #[.string x2.name, .int .i64 x2.typ, .int .i64 x2.pri] 39)); clear hb1 FA)
              | (go_at_call 39; (with_reducible refine (FB.out _ B1.out).mono ?_); rintro e w2 ⟨rfl, hb2⟩; have B2 := hid ((B1.out.trans (hb2.mono B1.out.size)).alloc (Nat.le_trans B1.out.size hb2.size) (.cells #[.string x3.name, .int .i64 x3.typ, .int .i64 x3.pri] 39)); clear hb2 FB))
            go_ret
            exact ⟨rfl, B2.out⟩
        · rw [if_pos (.inl ⟨e, fun h => hc2 h.1⟩)] at hz
          have hc3 : (c != 2) = true := by simpa using hc2
          subst hz
          clear e hc2
          go_enter Tryd.func15, Tryd.ntmps15
          go_wp2_with (first
            | (go_at_call 38; (with_reducible refine (refClass _ _).mono ?_); rintro e w5 ⟨rfl, rfl⟩; rw [HC.out])
            | (go_at_call 39; (with_reducible refine FA.out.mono ?_); rintro e w1 ⟨rfl, hb1⟩; have B1 := hid (hb1.alloc hb1.size (.cells #[.string x2.name, .int .i64 x2.typ, .int .i64 x2.pri] 39)); clear hb1 FA)
            | (go_at_call 39; (with_reducible refine (FB.out _ B1.out).mono ?_); rintro e w2 ⟨rfl, hb2⟩; have B2 := hid ((B1.out.trans (hb2.mono B1.out.size)).alloc (Nat.le_trans B1.out.size hb2.size) (.cells #[.string x3.name, .int .i64 x3.typ, .int .i64 x3.pri] 39)); clear hb2 FB))
          go_ret
          exact ⟨rfl, B2.out⟩
      · rw [if_neg (by rw [e]; decide), if_pos (.inr (.inl e))] at hz
        subst hz
        clear e
        go_enter Tryd.func15, Tryd.ntmps15
        go_wp2_with (first
          | (go_at_call 38; (with_reducible refine (refClass _ _).mono ?_); rintro e w5 ⟨rfl, rfl⟩; rw [HC.out])
          | (go_at_call 39; (with_reducible refine FA.out.mono ?_); rintro e w1 ⟨rfl, hb1⟩; have B1 := hid (hb1.alloc hb1.size (.cells #[.string x2.name, .int .i64 x2.typ, .int .i64 x2.pri] 39)); clear hb1 FA)
          | (go_at_call 39; (with_reducible refine (FB.out _ B1.out).mono ?_); rintro e w2 ⟨rfl, hb2⟩; have B2 := hid ((B1.out.trans (hb2.mono B1.out.size)).alloc (Nat.le_trans B1.out.size hb2.size) (.cells #[.string x3.name, .int .i64 x3.typ, .int .i64 x3.pri] 39)); clear hb2 FB))
        go_ret
        exact ⟨rfl, B2.out⟩
      · rw [if_neg (by rw [e]; decide), if_pos (.inr (.inr e))] at hz
        subst hz
        clear e
        go_enter Tryd.func15, Tryd.ntmps15
        go_wp2_with (first
          | (go_at_call 38; (with_reducible refine (refClass _ _).mono ?_); rintro e w5 ⟨rfl, rfl⟩; rw [HC.out])
          | (go_at_call 39; (with_reducible refine FA.out.mono ?_); rintro e w1 ⟨rfl, hb1⟩; have B1 := hid (hb1.alloc hb1.size (.cells #[.string x2.name, .int .i64 x2.typ, .int .i64 x2.pri] 39)); clear hb1 FA)
          | (go_at_call 39; (with_reducible refine (FB.out _ B1.out).mono ?_); rintro e w2 ⟨rfl, hb2⟩; have B2 := hid ((B1.out.trans (hb2.mono B1.out.size)).alloc (Nat.le_trans B1.out.size hb2.size) (.cells #[.string x3.name, .int .i64 x3.typ, .int .i64 x3.pri] 39)); clear hb2 FB))
        go_ret
        exact ⟨rfl, B2.out⟩
      · rw [if_neg e1, if_neg (by rintro (⟨h, _⟩ | h | h) <;> first | exact e2 h | exact e3 h | exact e4 h)] at hz
        clear e1 e2 e3 e4
        have hq : ((c = 2 ∧ q3 = true) ∨ (c = 3 ∧ q2 = true)) ∧ 0 < p ∧ z = 43 := by
          by_cases h2 : c = 2
          · subst h2
            by_cases h : q3 = true ∧ 0 < p
            · exact ⟨.inl ⟨rfl, h.1⟩, h.2, by rw [hz]; simp [h]⟩
            · exact absurd (by rw [hz]; simpa using h) hz0
          · by_cases h3 : c = 3
            · subst h3
              by_cases h : q2 = true ∧ 0 < p
              · exact ⟨.inr ⟨rfl, h.1⟩, h.2, by rw [hz]; simp [h]⟩
              · exact absurd (by rw [hz]; simpa using h) hz0
            · exact absurd (by rw [hz]; simp [h2, h3]) hz0
        obtain ⟨⟨rfl, rfl⟩ | ⟨rfl, rfl⟩, hp0, rfl⟩ := hq
        all_goals
          clear hz
          go_enter Tryd.func15, Tryd.ntmps15
          go_wp2_with (first
            | (go_at_call 38; (with_reducible refine (refClass _ _).mono ?_); rintro e w5 ⟨rfl, rfl⟩; rw [HC.out])
            | (go_at_call 39; (with_reducible refine FA.out.mono ?_); rintro e w1 ⟨rfl, hb1⟩; have B1 := hid (hb1.alloc hb1.size (.cells #[.string x2.name, .int .i64 x2.typ, .int .i64 x2.pri] 39)); clear hb1 FA)
            | (go_at_call 39; (with_reducible refine (FB.out _ B1.out).mono ?_); rintro e w2 ⟨rfl, hb2⟩; have B2 := hid ((B1.out.trans (hb2.mono B1.out.size)).alloc (Nat.le_trans B1.out.size hb2.size) (.cells #[.string x3.name, .int .i64 x3.typ, .int .i64 x3.pri] 39)); clear hb2 FB))
          go_ret
          exact ⟨rfl, B2.out⟩
end
end Go.Proofs.YtnbhmgonijlplaaDoor
