/- Walks: comparing two lists of limbs. -/
import Derived.Test.YtldafoojkimdeaaDoorW3
import Derived.Deep.QuietTactic
import Derived.BigQuiet
namespace Go.Proofs.YtldafoojkimdeaaDoor
open Go.RowKit Lm

theorem drew2 (w : World) (a b : Nat) : ∃ q, (w.drewN a).drewN b = w.drewN q := ⟨a + b, World.drewN_drewN _ _ _⟩
theorem drew3 (w : World) (a b c : Nat) : ∃ q, ((w.drewN a).drewN b).drewN c = w.drewN q := ⟨a + b + c, by rw [World.drewN_drewN, World.drewN_drewN, Nat.add_assoc]⟩

set_option maxRecDepth 100000 in
set_option maxHeartbeats 1000000 in
theorem compare_any (aa : Option Addr) (la ca : Nat) (A : List Nat) (ab : Option Addr) (lb cb : Nat) (B : List Nat) (w : World) (hA : Rd w aa la ca A) (hB : Rd w ab lb cb B) (tA : Top A) (tB : Top B) :
    Calls Tryd.prog 74 #[.slice aa la ca, .slice ab lb cb] w fun e w' => e = .returned (.int .i64 (cmp (val A) (val B))) ∧ ∃ q, w' = w.drewN q := by
  have hla := hid hA.size
  have hlb := hid hB.size
  have hm := hA.most
  have hm' := hB.most
  have hr := hA.room
  have hr' := hB.room
  rcases (show la < lb ∨ lb < la ∨ la = lb by omega) with hlt | hlt | rfl
  · have e : cmp (val A) (val B) = -1 := by
      have := top_length tB hA.ok (by rw [hla.out, hlb.out]; exact hlt)
      unfold cmp; rw [if_pos this]
    rw [e]; clear e
    go_enter Tryd.func74, Tryd.ntmps74
    go_wp2
    go_ret
    exact ⟨rfl, 0, rfl⟩
  · have e : cmp (val A) (val B) = 1 := by
      have := top_length tA hB.ok (by rw [hla.out, hlb.out]; exact hlt)
      unfold cmp; rw [if_neg (by omega), if_pos this]
    rw [e]; clear e
    go_enter Tryd.func74, Tryd.ntmps74
    go_wp2
    go_ret
    exact ⟨rfl, 0, rfl⟩
  · go_enter Tryd.func74, Tryd.ntmps74
    go_wp2
    go_loopw [5] (fun i wr => ∃ k : Nat, k ≤ la ∧ i = .int .i64 ((k : Int) - 1) ∧ Hid (∀ j, k ≤ j → j < la → dg A j = dg B j) ∧ ∃ q, wr = w.drewN q) (fun i _ => (intOf i + 1).toNat)
    case atStart => exact ⟨la, by omega, rfl, hid (by intro j h1 h2; omega), 0, rfl⟩
    case round =>
      obtain ⟨k, hk, rfl, hsame, q, rfl⟩ := hrel
      cases k with
      | zero =>
        have e : cmp (val A) (val B) = 0 := by
          have e := val_eq_above A B 0 (by rw [hla.out, hlb.out]) (by omega) (fun j h1 h2 => hsame.out j h1 (by rw [← hla.out]; exact h2))
          simp at e
          subst e; unfold cmp; simp
        have HE := hid e; clear e
        go_wp2
        go_ret
        exact ⟨by rw [HE.out]; rfl, q, rfl⟩
      | succ m =>
        obtain ⟨b, off, rfl, hc⟩ := hA.cells (by omega)
        obtain ⟨b', off', rfl, hc'⟩ := hB.cells (by omega)
        have hcell := hc m (by omega)
        have hcell' := hc' m (by omega)
        clear hc hc'
        have hi1 : (0 : Int) ≤ (m : Int) := by omega
        have hi2 : (m : Int) < (la : Int) := by omega
        rcases (show dg A m < dg B m ∨ dg B m < dg A m ∨ dg A m = dg B m by omega) with hlt | hlt | heq
        · have e : cmp (val A) (val B) = -1 := by
            have := cmp_at A B m hA.ok hB.ok (by rw [hla.out, hlb.out]) (by rw [hla.out]; omega) (fun j h1 h2 => hsame.out j h1 (by rw [← hla.out]; exact h2)) hlt
            unfold cmp; rw [if_pos this]
          have HE := hid e; clear e
          go_wp2
          go_quiet (fail)
          go_wp2
          go_ret
          exact ⟨by rw [HE.out]; rfl, drew2 _ _ _⟩
        · have e : cmp (val A) (val B) = 1 := by
            have := cmp_at B A m hB.ok hA.ok (by rw [hla.out, hlb.out]) (by rw [hlb.out]; omega) (fun j h1 h2 => (hsame.out j h1 (by rw [← hlb.out]; exact h2)).symm) hlt
            unfold cmp; rw [if_neg (by omega), if_pos this]
          have HE := hid e; clear e
          go_wp2
          go_quiet (fail)
          go_wp2
          go_quiet (fail)
          go_wp2
          go_ret
          exact ⟨by rw [HE.out]; rfl, drew3 _ _ _ _⟩
        · have h1 : ¬ dg A m < dg B m := by omega
          have h2 : ¬ dg B m < dg A m := by omega
          have HE := hid heq; clear heq
          go_wp2
          go_quiet (fail)
          go_wp2
          go_quiet (fail)
          go_wp2
          go_roundw
          case rel =>
            refine ⟨m, by omega, by go_num, hid ?_, _, rfl⟩
            intro j h1 h2
            by_cases hj : j = m
            · subst hj; exact HE.out
            · exact hsame.out j (by omega) h2
          case measure => simp [intOf]
end Go.Proofs.YtldafoojkimdeaaDoor
