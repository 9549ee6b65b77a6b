/- Walks: And, Or, Xor, Not where nothing is too long. -/
import Derived.Test.YtldafoojkimdeaaDoorW33
import Derived.Test.YtldafoojkimdeaaDoorW45m
namespace Go.Proofs.YtldafoojkimdeaaDoor
open Go.RowKit Lm

theorem rd_nothing (w : World) : Rd w none 0 0 [] := ⟨rfl, Ok.nil, Nat.le_refl _, by omega, fun h => by omega⟩

set_option maxRecDepth 100000 in
set_option maxHeartbeats 2000000 in
theorem and_good (na : Bool) (aa : Option Addr) (la ca : Nat) (A : List Nat) (nb : Bool) (ab : Option Addr) (lb cb : Nat) (B : List Nat) (w : World) (hA : Rd w aa la ca A) (hB : Rd w ab lb cb B) (hbad : (tooLong A || tooLong B) = false) :
    Calls Tryd.prog 46 #[.agg #[.bool na, .slice aa la ca], .agg #[.bool nb, .slice ab lb cb]] w fun e w' => ∃ n' ao' len' c, e = .returned (.tuple #[.agg #[.bool n', .slice ao' len' len'], .int .i64 c]) ∧ Fits w w' n' ao' len' c (bop landf (num na A) (num nb B)) ∧ Below w.heap.size w w' := by
  go_enter Tryd.func46, Tryd.ntmps46
  go_wp2_with (go_at_call 87; refine (bitwise_good88 _ opn88 na aa la ca A nb ab lb cb B _ (((hA.alloc _).alloc _).alloc _) (((hB.alloc _).alloc _).alloc _) hbad).mono ?_; rintro e w1 ⟨n', ao', len', c, rfl, hfit, hb1⟩; obtain ⟨_, _, p3, hbw⟩ := hp3 _ _ _ _ hb1; obtain ⟨c0, c1, f0, f1⟩ := two_cells p3)
  refine bodyPost_ret (v := .tuple #[.agg #[.bool n', .slice ao' len' len'], .int .i64 c]) (by simp [results, Tryd.results46, go_sem, c0, c1]) rfl ⟨_, _, _, _, rfl, ?_, ?_⟩
  · exact hfit.set2 (by simp; omega) (by simp) (by simp) _ _
  · exact (hbw.setCell (by simp; omega) _).setCell (by simp; omega) _

theorem and_ok {na : Bool} {aa : Option Addr} {la ca : Nat} {A : List Nat} {nb : Bool} {ab : Option Addr} {lb cb : Nat} {B : List Nat} {va vb : Int} (w : World) (hA : Rd w aa la ca A) (hB : Rd w ab lb cb B) (ea : num na A = va) (eb : num nb B = vb) (sa : Sm va) (sb : Sm vb) (sr : Sm (bop landf va vb)) :
    Calls Tryd.prog 46 #[.agg #[.bool na, .slice aa la ca], .agg #[.bool nb, .slice ab lb cb]] w fun e w' => ∃ n' ao' len' C, e = .returned (.tuple #[.agg #[.bool n', .slice ao' len' len'], .int .i64 0]) ∧ Rd w' ao' len' len' C ∧ num n' C = bop landf va vb ∧ Below w.heap.size w w' := by
  refine (and_good na aa la ca A nb ab lb cb B w hA hB (by rw [sa.short ea, sb.short eb]; rfl)).mono ?_
  rintro e w' ⟨n', ao', len', c, rfl, hf, hb⟩
  rw [ea, eb] at hf
  obtain ⟨rfl, C, h1, h2⟩ := hf.read sr
  exact ⟨n', ao', len', C, rfl, h1, h2, hb⟩

set_option maxRecDepth 100000 in
set_option maxHeartbeats 2000000 in
theorem or_good (na : Bool) (aa : Option Addr) (la ca : Nat) (A : List Nat) (nb : Bool) (ab : Option Addr) (lb cb : Nat) (B : List Nat) (w : World) (hA : Rd w aa la ca A) (hB : Rd w ab lb cb B) (hbad : (tooLong A || tooLong B) = false) :
    Calls Tryd.prog 47 #[.agg #[.bool na, .slice aa la ca], .agg #[.bool nb, .slice ab lb cb]] w fun e w' => ∃ n' ao' len' c, e = .returned (.tuple #[.agg #[.bool n', .slice ao' len' len'], .int .i64 c]) ∧ Fits w w' n' ao' len' c (bop lorf (num na A) (num nb B)) ∧ Below w.heap.size w w' := by
  go_enter Tryd.func47, Tryd.ntmps47
  go_wp2_with (go_at_call 87; refine (bitwise_good89 _ opn89 na aa la ca A nb ab lb cb B _ (((hA.alloc _).alloc _).alloc _) (((hB.alloc _).alloc _).alloc _) hbad).mono ?_; rintro e w1 ⟨n', ao', len', c, rfl, hfit, hb1⟩; obtain ⟨_, _, p3, hbw⟩ := hp3 _ _ _ _ hb1; obtain ⟨c0, c1, f0, f1⟩ := two_cells p3)
  refine bodyPost_ret (v := .tuple #[.agg #[.bool n', .slice ao' len' len'], .int .i64 c]) (by simp [results, Tryd.results47, go_sem, c0, c1]) rfl ⟨_, _, _, _, rfl, ?_, ?_⟩
  · exact hfit.set2 (by simp; omega) (by simp) (by simp) _ _
  · exact (hbw.setCell (by simp; omega) _).setCell (by simp; omega) _

theorem or_ok {na : Bool} {aa : Option Addr} {la ca : Nat} {A : List Nat} {nb : Bool} {ab : Option Addr} {lb cb : Nat} {B : List Nat} {va vb : Int} (w : World) (hA : Rd w aa la ca A) (hB : Rd w ab lb cb B) (ea : num na A = va) (eb : num nb B = vb) (sa : Sm va) (sb : Sm vb) (sr : Sm (bop lorf va vb)) :
    Calls Tryd.prog 47 #[.agg #[.bool na, .slice aa la ca], .agg #[.bool nb, .slice ab lb cb]] w fun e w' => ∃ n' ao' len' C, e = .returned (.tuple #[.agg #[.bool n', .slice ao' len' len'], .int .i64 0]) ∧ Rd w' ao' len' len' C ∧ num n' C = bop lorf va vb ∧ Below w.heap.size w w' := by
  refine (or_good na aa la ca A nb ab lb cb B w hA hB (by rw [sa.short ea, sb.short eb]; rfl)).mono ?_
  rintro e w' ⟨n', ao', len', c, rfl, hf, hb⟩
  rw [ea, eb] at hf
  obtain ⟨rfl, C, h1, h2⟩ := hf.read sr
  exact ⟨n', ao', len', C, rfl, h1, h2, hb⟩

set_option maxRecDepth 100000 in
set_option maxHeartbeats 2000000 in
theorem xor_good (na : Bool) (aa : Option Addr) (la ca : Nat) (A : List Nat) (nb : Bool) (ab : Option Addr) (lb cb : Nat) (B : List Nat) (w : World) (hA : Rd w aa la ca A) (hB : Rd w ab lb cb B) (hbad : (tooLong A || tooLong B) = false) :
    Calls Tryd.prog 48 #[.agg #[.bool na, .slice aa la ca], .agg #[.bool nb, .slice ab lb cb]] w fun e w' => ∃ n' ao' len' c, e = .returned (.tuple #[.agg #[.bool n', .slice ao' len' len'], .int .i64 c]) ∧ Fits w w' n' ao' len' c (bop lxorf (num na A) (num nb B)) ∧ Below w.heap.size w w' := by
  go_enter Tryd.func48, Tryd.ntmps48
  go_wp2_with (go_at_call 87; refine (bitwise_good90 _ opn90 na aa la ca A nb ab lb cb B _ (((hA.alloc _).alloc _).alloc _) (((hB.alloc _).alloc _).alloc _) hbad).mono ?_; rintro e w1 ⟨n', ao', len', c, rfl, hfit, hb1⟩; obtain ⟨_, _, p3, hbw⟩ := hp3 _ _ _ _ hb1; obtain ⟨c0, c1, f0, f1⟩ := two_cells p3)
  refine bodyPost_ret (v := .tuple #[.agg #[.bool n', .slice ao' len' len'], .int .i64 c]) (by simp [results, Tryd.results48, go_sem, c0, c1]) rfl ⟨_, _, _, _, rfl, ?_, ?_⟩
  · exact hfit.set2 (by simp; omega) (by simp) (by simp) _ _
  · exact (hbw.setCell (by simp; omega) _).setCell (by simp; omega) _

theorem xor_ok {na : Bool} {aa : Option Addr} {la ca : Nat} {A : List Nat} {nb : Bool} {ab : Option Addr} {lb cb : Nat} {B : List Nat} {va vb : Int} (w : World) (hA : Rd w aa la ca A) (hB : Rd w ab lb cb B) (ea : num na A = va) (eb : num nb B = vb) (sa : Sm va) (sb : Sm vb) (sr : Sm (bop lxorf va vb)) :
    Calls Tryd.prog 48 #[.agg #[.bool na, .slice aa la ca], .agg #[.bool nb, .slice ab lb cb]] w fun e w' => ∃ n' ao' len' C, e = .returned (.tuple #[.agg #[.bool n', .slice ao' len' len'], .int .i64 0]) ∧ Rd w' ao' len' len' C ∧ num n' C = bop lxorf va vb ∧ Below w.heap.size w w' := by
  refine (xor_good na aa la ca A nb ab lb cb B w hA hB (by rw [sa.short ea, sb.short eb]; rfl)).mono ?_
  rintro e w' ⟨n', ao', len', c, rfl, hf, hb⟩
  rw [ea, eb] at hf
  obtain ⟨rfl, C, h1, h2⟩ := hf.read sr
  exact ⟨n', ao', len', C, rfl, h1, h2, hb⟩

set_option maxRecDepth 100000 in
set_option maxHeartbeats 2000000 in
theorem not_good (na : Bool) (aa : Option Addr) (la ca : Nat) (A : List Nat) (w : World) (hA : Rd w aa la ca A) (hbad : tooLong A = false) :
    Calls Tryd.prog 49 #[.agg #[.bool na, .slice aa la ca]] w fun e w' => ∃ n' ao' len' c, e = .returned (.tuple #[.agg #[.bool n', .slice ao' len' len'], .int .i64 c]) ∧ Fits w w' n' ao' len' c (bop lnotf (num na A) 0) ∧ Below w.heap.size w w' := by
  have h0 : num false [] = 0 := rfl
  have hbad2 : (tooLong A || tooLong []) = false := by rw [hbad]; decide
  go_enter Tryd.func49, Tryd.ntmps49
  go_wp2_with (go_at_call 87; refine (bitwise_good91 _ opn91 na aa la ca A false none 0 0 [] _ ((hA.alloc _).alloc _) (rd_nothing _) hbad2).mono ?_; rintro e w1 ⟨n', ao', len', c, rfl, hfit, hb1⟩; have p3 := (show w1.heap[w.heap.size + 1]? = some (.cells #[.bool false, .slice none 0 0] 24 (0, 0)) by simpa using blk_keep hb1); have hbw := balloc2 hb1; obtain ⟨c0, c1, f0, f1⟩ := two_cells p3)
  rw [h0] at hfit
  refine bodyPost_ret (v := .tuple #[.agg #[.bool n', .slice ao' len' len'], .int .i64 c]) (by simp [results, Tryd.results49, go_sem, c0, c1]) rfl ⟨_, _, _, _, rfl, ?_, ?_⟩
  · exact hfit.set2 (by simp; omega) (by simp) (by simp) _ _
  · exact (hbw.setCell (by simp) _).setCell (by simp) _

theorem not_ok {na : Bool} {aa : Option Addr} {la ca : Nat} {A : List Nat} {va : Int} (w : World) (hA : Rd w aa la ca A) (ea : num na A = va) (sa : Sm va) (sr : Sm (bop lnotf va 0)) :
    Calls Tryd.prog 49 #[.agg #[.bool na, .slice aa la ca]] w fun e w' => ∃ n' ao' len' C, e = .returned (.tuple #[.agg #[.bool n', .slice ao' len' len'], .int .i64 0]) ∧ Rd w' ao' len' len' C ∧ num n' C = bop lnotf va 0 ∧ Below w.heap.size w w' := by
  refine (not_good na aa la ca A w hA (sa.short ea)).mono ?_
  rintro e w' ⟨n', ao', len', c, rfl, hf, hb⟩
  rw [ea] at hf
  obtain ⟨rfl, C, h1, h2⟩ := hf.read sr
  exact ⟨n', ao', len', C, rfl, h1, h2, hb⟩
end Go.Proofs.YtldafoojkimdeaaDoor
