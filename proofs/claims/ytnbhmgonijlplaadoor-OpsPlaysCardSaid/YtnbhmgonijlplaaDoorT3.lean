/- Walks: rival, refusal, Add. No condition but those that each theorem names. -/
import Derived.Test.YtnbhmgonijlplaaDoorT2
namespace Go.Proofs.YtnbhmgonijlplaaDoor
open Go.RowKit

/-- The class that a name of a class may not be of. -/
def riv (c : Int) : Int := if c = 2 then 3 else if c = 3 then 2 else 0
theorem rival_any (c : Int) (w : World) : Calls Tryd.prog 50 #[.int .i64 c] w fun e w' => e = .returned (.int .i64 (riv c)) ∧ w = w' := by
  rcases (show c = 2 ∨ c = 3 ∨ (c ≠ 2 ∧ c ≠ 3) by omega) with rfl | rfl | ⟨h1, h2⟩
  · go_enter Tryd.func50, Tryd.ntmps50
    go_wp2
    go_ret
    exact ⟨rfl, rfl⟩
  · go_enter Tryd.func50, Tryd.ntmps50
    go_wp2
    go_ret
    exact ⟨rfl, rfl⟩
  · have e : Hid (riv c = 0) := hid (by unfold riv; rw [if_neg h1, if_neg h2])
    have a1 : (c == 2) = false := by simpa using h1
    have a2 : (c == 3) = false := by simpa using h2
    clear h1 h2
    rw [e.out]
    go_enter Tryd.func50, Tryd.ntmps50
    go_wp2
    go_ret
    exact ⟨rfl, rfl⟩

/-- Why a name may not become an operator; nought: it may. -/
def refu (F : Fn) (p k : Int) (s : ByteArray) : Int :=
  if p < 0 ∨ 1200 < p then 40 else if cls k = 0 then 41 else if s = ⟨#[44]⟩ then 42
  else if (s = ⟨#[124]⟩ ∧ ¬ (cls k = 2 ∧ (p = 0 ∨ 1000 < p))) ∨ s = ⟨#[91, 93]⟩ ∨ s = ⟨#[123, 125]⟩ then 43
  else if (F (riv (cls k)) s).isSome = true ∧ 0 < p then 43 else 0

theorem str_is (s : ByteArray) (l : List UInt8) : (s.toList == l) = decide (s = ⟨l.toArray⟩) := by
  rw [ByteArray.toList_eq]
  by_cases h : s = ⟨l.toArray⟩
  · subst h; simp
  · have h2 : s.data.toList ≠ l := fun e => h (ByteArray.ext (by rw [← e]))
    simp [h, h2]
theorem riv_bounds (c : Int) : 0 ≤ riv c ∧ riv c ≤ 3 := by unfold riv; split <;> (try split) <;> omega

theorem below_grown {w w' : World} {b : Nat} (h : Below w.heap.size w w') : w.grownBy w' (some b) := ⟨h.os, h.tape, h.output, h.size, fun k hk _ => h.block k hk⟩
theorem grown_trans {w w1 w2 : World} {b : Nat} (h : w.grownBy w1 (some b)) (k : w1.grownBy w2 (some b)) : w.grownBy w2 (some b) :=
  ⟨k.os.trans h.os, k.tape.trans h.tape, k.output.trans h.output, Nat.le_trans h.size k.size, fun i h1 h2 => (k.block i (Nat.lt_of_lt_of_le h1 h.size) h2).trans (h.block i h1 h2)⟩

section
variable (bt b n : Nat) (F : Fn) (p k : Int) (s : ByteArray) (w : World) (hT : Tab w b n F) (hc : w.cell? ⟨bt, 0, none⟩ = some (.map (some b))) (hs : s.size ≤ maxLen)
/-- Names that may be refused by themselves: how the tests on a name come out. -/
structure Nm (s : ByteArray) (a b c d : Bool) : Prop where
  t1 : (s.toList == [44]) = a
  t2 : (s.toList == [124]) = b
  t3 : (s.toList == [91, 93]) = c
  t4 : (s.toList == [123, 125]) = d
theorem nm_cases (s : ByteArray) : (s = ⟨#[44]⟩ ∧ Nm s true false false false) ∨ (s = ⟨#[124]⟩ ∧ Nm s false true false false) ∨ (s = ⟨#[91, 93]⟩ ∧ Nm s false false true false) ∨ (s = ⟨#[123, 125]⟩ ∧ Nm s false false false true) ∨
    ((s ≠ ⟨#[44]⟩ ∧ s ≠ ⟨#[124]⟩ ∧ s ≠ ⟨#[91, 93]⟩ ∧ s ≠ ⟨#[123, 125]⟩) ∧ Nm s false false false false) := by
  by_cases h1 : s = ⟨#[44]⟩
  · subst h1; exact .inl ⟨rfl, by rw [ByteArray.toList_eq]; rfl, by rw [ByteArray.toList_eq]; rfl, by rw [ByteArray.toList_eq]; rfl, by rw [ByteArray.toList_eq]; rfl⟩
  · by_cases h2 : s = ⟨#[124]⟩
    · subst h2; exact .inr (.inl ⟨rfl, by rw [ByteArray.toList_eq]; rfl, by rw [ByteArray.toList_eq]; rfl, by rw [ByteArray.toList_eq]; rfl, by rw [ByteArray.toList_eq]; rfl⟩)
    · by_cases h3 : s = ⟨#[91, 93]⟩
      · subst h3; exact .inr (.inr (.inl ⟨rfl, by rw [ByteArray.toList_eq]; rfl, by rw [ByteArray.toList_eq]; rfl, by rw [ByteArray.toList_eq]; rfl, by rw [ByteArray.toList_eq]; rfl⟩))
      · by_cases h4 : s = ⟨#[123, 125]⟩
        · subst h4; exact .inr (.inr (.inr (.inl ⟨rfl, by rw [ByteArray.toList_eq]; rfl, by rw [ByteArray.toList_eq]; rfl, by rw [ByteArray.toList_eq]; rfl, by rw [ByteArray.toList_eq]; rfl⟩)))
        · exact .inr (.inr (.inr (.inr ⟨⟨h1, h2, h3, h4⟩, by rw [str_is]; exact decide_eq_false h1, by rw [str_is]; exact decide_eq_false h2, by rw [str_is]; exact decide_eq_false h3, by rw [str_is]; exact decide_eq_false h4⟩)))

include hT hc hs
set_option maxRecDepth 100000 in
set_option maxHeartbeats 8000000 in
theorem refusal_any : Calls Tryd.prog 36 #[.pointer (some ⟨bt, 0, none⟩), .int .i64 p, .int .i64 k, .string s] w fun e w' => e = .returned (.int .i64 (refu F p k s)) ∧ Below w.heap.size w w' := by
  obtain ⟨z, hz⟩ : ∃ z, z = refu F p k s := ⟨_, rfl⟩
  rw [← hz]
  unfold refu at hz
  obtain ⟨c, hck⟩ : ∃ c, c = cls k := ⟨_, rfl⟩
  have HC : Hid (cls k = c) := hid hck.symm
  rw [← hck] at hz
  clear hck
  have FIND := hid (find_any bt b n F (riv c) s w hT hc (ask_wf (riv_bounds c) hs))
  clear hT hc
  unfold Opn.val at FIND
  generalize found F (riv c) s = x at *
  generalize (F (riv c) s).isSome = q at *
  by_cases hp : p < 0 ∨ 1200 < p
  · rw [if_pos hp] at hz
    subst hz
    clear FIND
    rcases hp with hp | hp
    all_goals
      (try have hp2 : ¬ p < 0 := by omega)
      go_enter Tryd.func36, Tryd.ntmps36
      go_wp2_with (go_at_call 37; (with_reducible refine (classOf_any _ _).mono ?_); rintro e w5 ⟨rfl, rfl⟩; rw [HC.out])
      go_ret
      exact ⟨rfl, Below.refl _ _⟩
  · rw [if_neg hp] at hz
    have n1 : ¬ p < 0 := by omega
    have n2 : ¬ 1200 < p := by omega
    clear hp
    by_cases hk : c = 0
    · rw [if_pos hk] at hz
      subst hz
      subst hk
      clear FIND
      go_enter Tryd.func36, Tryd.ntmps36
      go_wp2_with (go_at_call 37; (with_reducible refine (classOf_any _ _).mono ?_); rintro e w5 ⟨rfl, rfl⟩; rw [HC.out])
      go_ret
      exact ⟨rfl, Below.refl _ _⟩
    · rw [if_neg hk] at hz
      have hk2 : (c == 0) = false := by simpa using hk
      clear hk
      rcases nm_cases s with ⟨e, hn⟩ | ⟨e, hn⟩ | ⟨e, hn⟩ | ⟨e, hn⟩ | ⟨⟨e1, e2, e3, e4⟩, hn⟩
      all_goals obtain ⟨t1, t2, t3, t4⟩ := hn
      · rw [if_pos e] at hz
        subst hz
        clear e FIND
        go_enter Tryd.func36, Tryd.ntmps36
        go_wp2_with (go_at_call 37; (with_reducible refine (classOf_any _ _).mono ?_); rintro e w5 ⟨rfl, rfl⟩; rw [HC.out])
        go_ret
        exact ⟨rfl, Below.refl _ _⟩
      · rw [if_neg (by rw [e]; decide)] at hz
        by_cases hc2 : c = 2
        · subst hc2
          by_cases hp0 : p = 0
          · rw [if_neg (by rintro (⟨_, h⟩ | h | h) <;> first | exact h ⟨rfl, .inl hp0⟩ | exact absurd (e.symm.trans h) (by decide))] at hz
            subst hp0
            clear e n1 n2
            rw [if_neg (by omega)] at hz
            subst hz
            cases q
            all_goals
              go_enter Tryd.func36, Tryd.ntmps36
              go_wp2_with (first
                | (go_at_call 37; (with_reducible refine (classOf_any _ _).mono ?_); rintro e w5 ⟨rfl, rfl⟩; rw [HC.out])
                | (go_at_call 50; (with_reducible refine (rival_any _ _).mono ?_); rintro e w5 ⟨rfl, rfl⟩)
                | (go_at_call 44; (with_reducible refine FIND.out.mono ?_); rintro e w5 ⟨rfl, hb5⟩))
              go_ret
              exact ⟨rfl, hb5.alloc hb5.size _⟩
          · have hp1 : (p == 0) = false := by simpa using hp0
            by_cases hp2 : 1000 < p
            · rw [if_neg (by rintro (⟨_, h⟩ | h | h) <;> first | exact h ⟨rfl, .inr hp2⟩ | exact absurd (e.symm.trans h) (by decide))] at hz
              clear e hp0
              cases q with
              | false =>
                rw [if_neg (by simp)] at hz
                subst hz
                go_enter Tryd.func36, Tryd.ntmps36
                go_wp2_with (first
                  | (go_at_call 37; (with_reducible refine (classOf_any _ _).mono ?_); rintro e w5 ⟨rfl, rfl⟩; rw [HC.out])
                  | (go_at_call 50; (with_reducible refine (rival_any _ _).mono ?_); rintro e w5 ⟨rfl, rfl⟩)
                  | (go_at_call 44; (with_reducible refine FIND.out.mono ?_); rintro e w5 ⟨rfl, hb5⟩))
                go_ret
                exact ⟨rfl, hb5.alloc hb5.size _⟩
              | true =>
                by_cases hp0 : 0 < p
                · rw [if_pos ⟨rfl, hp0⟩] at hz
                  subst hz
                  go_enter Tryd.func36, Tryd.ntmps36
                  go_wp2_with (first
                    | (go_at_call 37; (with_reducible refine (classOf_any _ _).mono ?_); rintro e w5 ⟨rfl, rfl⟩; rw [HC.out])
                    | (go_at_call 50; (with_reducible refine (rival_any _ _).mono ?_); rintro e w5 ⟨rfl, rfl⟩)
                    | (go_at_call 44; (with_reducible refine FIND.out.mono ?_); rintro e w5 ⟨rfl, hb5⟩))
                  go_ret
                  exact ⟨rfl, hb5.alloc hb5.size _⟩
                · exact absurd hp2 (by omega)
            · rw [if_pos (.inl ⟨e, fun h => by omega⟩)] at hz
              subst hz
              clear e FIND hp0
              go_enter Tryd.func36, Tryd.ntmps36
              go_wp2_with (go_at_call 37; (with_reducible refine (classOf_any _ _).mono ?_); rintro e w5 ⟨rfl, rfl⟩; rw [HC.out])
              go_ret
              exact ⟨rfl, Below.refl _ _⟩
        · rw [if_pos (.inl ⟨e, fun h => hc2 h.1⟩)] at hz
          have hc3 : (c == 2) = false := by simpa using hc2
          subst hz
          clear e FIND hc2
          go_enter Tryd.func36, Tryd.ntmps36
          go_wp2_with (go_at_call 37; (with_reducible refine (classOf_any _ _).mono ?_); rintro e w5 ⟨rfl, rfl⟩; rw [HC.out])
          go_ret
          exact ⟨rfl, Below.refl _ _⟩
      · rw [if_neg (by rw [e]; decide), if_pos (.inr (.inl e))] at hz
        subst hz
        clear e FIND
        go_enter Tryd.func36, Tryd.ntmps36
        go_wp2_with (go_at_call 37; (with_reducible refine (classOf_any _ _).mono ?_); rintro e w5 ⟨rfl, rfl⟩; rw [HC.out])
        go_ret
        exact ⟨rfl, Below.refl _ _⟩
      · rw [if_neg (by rw [e]; decide), if_pos (.inr (.inr e))] at hz
        subst hz
        clear e FIND
        go_enter Tryd.func36, Tryd.ntmps36
        go_wp2_with (go_at_call 37; (with_reducible refine (classOf_any _ _).mono ?_); rintro e w5 ⟨rfl, rfl⟩; rw [HC.out])
        go_ret
        exact ⟨rfl, Below.refl _ _⟩
      · rw [if_neg e1, if_neg (by rintro (⟨h, _⟩ | h | h) <;> first | exact e2 h | exact e3 h | exact e4 h)] at hz
        clear e1 e2 e3 e4
        cases q with
        | false =>
          rw [if_neg (by simp)] at hz
          subst hz
          go_enter Tryd.func36, Tryd.ntmps36
          go_wp2_with (first
            | (go_at_call 37; (with_reducible refine (classOf_any _ _).mono ?_); rintro e w5 ⟨rfl, rfl⟩; rw [HC.out])
            | (go_at_call 50; (with_reducible refine (rival_any _ _).mono ?_); rintro e w5 ⟨rfl, rfl⟩)
            | (go_at_call 44; (with_reducible refine FIND.out.mono ?_); rintro e w5 ⟨rfl, hb5⟩))
          go_ret
          exact ⟨rfl, hb5.alloc hb5.size _⟩
        | true =>
          by_cases hp0 : 0 < p
          · rw [if_pos ⟨rfl, hp0⟩] at hz
            subst hz
            go_enter Tryd.func36, Tryd.ntmps36
            go_wp2_with (first
              | (go_at_call 37; (with_reducible refine (classOf_any _ _).mono ?_); rintro e w5 ⟨rfl, rfl⟩; rw [HC.out])
              | (go_at_call 50; (with_reducible refine (rival_any _ _).mono ?_); rintro e w5 ⟨rfl, rfl⟩)
              | (go_at_call 44; (with_reducible refine FIND.out.mono ?_); rintro e w5 ⟨rfl, hb5⟩))
            go_ret
            exact ⟨rfl, hb5.alloc hb5.size _⟩
          · rw [if_neg (fun h => hp0 h.2)] at hz
            subst hz
            go_enter Tryd.func36, Tryd.ntmps36
            go_wp2_with (first
              | (go_at_call 37; (with_reducible refine (classOf_any _ _).mono ?_); rintro e w5 ⟨rfl, rfl⟩; rw [HC.out])
              | (go_at_call 50; (with_reducible refine (rival_any _ _).mono ?_); rintro e w5 ⟨rfl, rfl⟩)
              | (go_at_call 44; (with_reducible refine FIND.out.mono ?_); rintro e w5 ⟨rfl, hb5⟩))
            go_ret
            exact ⟨rfl, hb5.alloc hb5.size _⟩

set_option maxRecDepth 100000 in
set_option maxHeartbeats 2000000 in
/-- Add where it refuses. -/
theorem add_refused (hz : refu F p k s ≠ 0) : Calls Tryd.prog 14 #[.pointer (some ⟨bt, 0, none⟩), .int .i64 p, .int .i64 k, .string s] w fun e w' => e = .returned (.int .i64 (refu F p k s)) ∧ Below w.heap.size w w' := by
  have R := hid (refusal_any bt b n F p k s w hT hc hs)
  clear hT hc
  generalize refu F p k s = z at *
  have hz2 : (z != 0) = true := by simpa using hz
  clear hz
  go_enter Tryd.func14, Tryd.ntmps14
  go_wp2_with (go_at_call 36; (with_reducible refine R.out.mono ?_); rintro e w5 ⟨rfl, hb5⟩)
  go_ret
  exact ⟨rfl, hb5⟩

set_option maxRecDepth 100000 in
set_option maxHeartbeats 2000000 in
/-- Add where it puts. -/
theorem add_put (hn : n < maxLen) (hz : refu F p k s = 0) (hp : 0 < p) : Calls Tryd.prog 14 #[.pointer (some ⟨bt, 0, none⟩), .int .i64 p, .int .i64 k, .string s] w fun e w' => e = .returned (.int .i64 0) ∧ Tab w' b (n + 1) (fset F (cls k) s (some ⟨s, k, p⟩)) ∧ w.grownBy w' (some b) := by
  have R := hid (refusal_any bt b n F p k s w hT hc hs)
  have H := hid hT
  have hlt := World.block_lt_of_cell? w _ hc
  simp at hlt
  have PUT := hid (fun (wx : World) (h1 : Tab wx b n F) (h2 : wx.cell? ⟨bt, 0, none⟩ = some (.map (some b))) => put_any bt b n F ⟨s, k, p⟩ wx h1 h2 ⟨cls_wf k, hs⟩ hn)
  unfold Opn.val at PUT
  simp only at PUT
  rw [hz] at R
  have HC := hid hc
  clear hT hc hz
  have hp0 : (p == 0) = false := by simp; omega
  go_enter Tryd.func14, Tryd.ntmps14
  go_wp2_with (first
    | (go_at_call 36; (with_reducible refine R.out.mono ?_); rintro e w5 ⟨rfl, hb5⟩; have H5 := hid (H.out.keep hb5); have c5 := (hb5.cell (p := ⟨bt, 0, none⟩) hlt).trans HC.out)
    | (go_at_call 33; (with_reducible refine (PUT.out _ H5.out c5).mono ?_); rintro e w6 ⟨rfl, hT6, hg6⟩))
  go_ret
  exact ⟨rfl, hT6, grown_trans (below_grown hb5) hg6⟩
end
end Go.Proofs.YtnbhmgonijlplaaDoor
