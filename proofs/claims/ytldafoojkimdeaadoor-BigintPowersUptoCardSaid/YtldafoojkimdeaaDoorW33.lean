/- Boxes that hold numbers; the operations where nothing is too long; same. -/
import Derived.Test.YtldafoojkimdeaaDoorW10
import Derived.Test.YtldafoojkimdeaaDoorW14
import Derived.Test.YtldafoojkimdeaaDoorW32
namespace Go.Proofs.YtldafoojkimdeaaDoor
open Go.RowKit Lm

/-- A number that is not too long. -/
def Sm (v : Int) : Prop := bl v.natAbs ≤ 4096
theorem sm_of {v : Int} {k : Nat} (h : v.natAbs < 2 ^ k) (hk : k ≤ 4096) : Sm v := Nat.le_trans ((bl_le _ _).2 h) hk
theorem Sm.short {n : Bool} {A : List Nat} {v : Int} (e : num n A = v) (h : Sm v) : tooLong A = false := by
  unfold tooLong; unfold Sm at h; rw [← e, num_abs] at h; simp; exact h

theorem Num.read {base : Nat} {w : World} {n : Bool} {ao : Option Addr} {len : Nat} {v : Int} (h : Num base w n ao len v) : ∃ C, Rd w ao len len C ∧ num n C = v := by
  obtain ⟨L, h1, _, h3, _⟩ := h.rd
  exact ⟨L, h1, h3⟩
theorem Fits.read {w w' : World} {n : Bool} {ao : Option Addr} {len : Nat} {c v : Int} (h : Fits w w' n ao len c v) (hs : Sm v) : c = 0 ∧ ∃ C, Rd w' ao len len C ∧ num n C = v := by
  rcases h with ⟨_, h1, h2⟩ | ⟨h1, _⟩
  · exact ⟨h1, h2.read⟩
  · unfold Sm at hs; omega

/-- A variable's block that holds a number. -/
def Bx (w : World) (g : Nat) (v : Int) : Prop := ∃ n ao len cap A, w.heap[g]? = some (.cells #[.bool n, .slice ao len cap] 24 (0, 0)) ∧ Rd w ao len cap A ∧ num n A = v

theorem Bx.lt {w : World} {g : Nat} {v : Int} (h : Bx w g v) : g < w.heap.size := by
  obtain ⟨n, ao, len, cap, A, h1, _⟩ := h
  exact lt_of_block h1
theorem Bx.keep {w w' : World} {g : Nat} {v : Int} (h : Bx w g v) (hb : Below w.heap.size w w') : Bx w' g v := by
  obtain ⟨n, ao, len, cap, A, h1, h2, h3⟩ := h
  exact ⟨n, ao, len, cap, A, heap_keep h1 hb, h2.keep hb, h3⟩
theorem Bx.alloc {w : World} {g : Nat} {v : Int} (h : Bx w g v) (o : Obj) : Bx (w.alloc o) g v := h.keep ((Below.refl _ _).alloc (Nat.le_refl _) _)
theorem Bx.drew {w : World} {g : Nat} {v : Int} (h : Bx w g v) : Bx w.drew g v := h.keep (Below.refl _ _).drew
theorem Bx.new {w : World} {n : Bool} {ao : Option Addr} {len cap : Nat} {A : List Nat} {v : Int} (h : Rd w ao len cap A) (e : num n A = v) : Bx (w.alloc (.cells #[.bool n, .slice ao len cap] 24)) w.heap.size v :=
  ⟨n, ao, len, cap, A, heap_alloc_new w _, h.alloc _, e⟩

/-- Limbs lie in no struct's block. -/
theorem Rd.pair24 {w : World} {ao : Option Addr} {len cap : Nat} {A : List Nat} (h : Rd w ao len cap A) {b : Nat} {x y : Value} (hp : w.heap[b]? = some (.cells #[x, y] 24 (0, 0))) (hx : ∀ z, x ≠ .int .u32 z) (hy : ∀ z, y ≠ .int .u32 z) (x' y' : Value) :
    Rd ((w.setCell ⟨b, 0, none⟩ x').setCell ⟨b, 1, none⟩ y') ao len cap A :=
  ⟨h.size, h.ok, h.room, h.most, fun h0 => by
    obtain ⟨g, off, e, hc⟩ := h.cells h0
    refine ⟨g, off, e, fun i hi => ?_⟩
    have hgb : g ≠ b := by
      rintro rfl
      have := hc i hi
      simp [World.cell?, hp] at this
      rcases Nat.lt_or_ge (off + i) 2 with h2 | h2
      · rcases (show off + i = 0 ∨ off + i = 1 by omega) with h3 | h3
        · rw [h3] at this; simp at this; exact hx _ this
        · rw [h3] at this; simp at this; exact hy _ this
      · rw [List.getElem?_eq_none (by simp; omega)] at this; cases this
    rw [World.cell?_setCell_other _ _ _ _ (fun e => hgb (congrArg Addr.block e).symm), World.cell?_setCell_other _ _ _ _ (fun e => hgb (congrArg Addr.block e).symm)]
    exact hc i hi⟩
theorem Bx.put_other {w : World} {g b : Nat} {v u : Int} (h : Bx w g v) (hb : Bx w b u) (hg : g ≠ b) (x' y' : Value) : Bx ((w.setCell ⟨b, 0, none⟩ x').setCell ⟨b, 1, none⟩ y') g v := by
  obtain ⟨n, ao, len, cap, A, h1, h2, h3⟩ := h
  obtain ⟨n', ao', len', cap', A', k1, _⟩ := hb
  exact ⟨n, ao, len, cap, A, heap_set (heap_set h1 hg) hg, h2.pair24 k1 (by simp) (by simp) _ _, h3⟩
theorem Bx.put {w : World} {b : Nat} {u : Int} (hb : Bx w b u) {n : Bool} {ao : Option Addr} {len cap : Nat} {A : List Nat} {v : Int} (h : Rd w ao len cap A) (e : num n A = v) :
    Bx ((w.setCell ⟨b, 0, none⟩ (.bool n)).setCell ⟨b, 1, none⟩ (.slice ao len cap)) b v := by
  obtain ⟨n', ao', len', cap', A', k1, _⟩ := hb
  exact ⟨n, ao, len, cap, A, set_pair k1 _ _, h.pair24 k1 (by simp) (by simp) _ _, e⟩
theorem below_put {B : Nat} {w w' : World} (h : Below B w w') {b : Nat} (hb : B ≤ b) (x' y' : Value) : Below B w ((w'.setCell ⟨b, 0, none⟩ x').setCell ⟨b, 1, none⟩ y') := (h.setCell hb _).setCell hb _

theorem add_ok {na : Bool} {aa : Option Addr} {la ca : Nat} {A : List Nat} {nb : Bool} {ab : Option Addr} {lb cb : Nat} {B : List Nat} {va vb : Int} (w : World) (hA : Rd w aa la ca A) (hB : Rd w ab lb cb B) (ea : num na A = va) (eb : num nb B = vb) (sa : Sm va) (sb : Sm vb) (sr : Sm (va + vb)) :
    Calls Tryd.prog 35 #[.agg #[.bool na, .slice aa la ca], .agg #[.bool nb, .slice ab lb cb]] w fun e w' => ∃ n' ao' len' C, e = .returned (.tuple #[.agg #[.bool n', .slice ao' len' len'], .int .i64 0]) ∧ Rd w' ao' len' len' C ∧ num n' C = va + vb ∧ Below w.heap.size w w' := by
  refine (Add_any na aa la ca A nb ab lb cb B w hA hB).mono ?_
  rintro e w' ⟨n', ao', len', c, rfl, hans, hb⟩
  rw [sa.short ea, sb.short eb, ea, eb] at hans
  rcases hans with ⟨h, _⟩ | ⟨_, hf⟩
  · cases h
  · obtain ⟨rfl, C, h1, h2⟩ := hf.read sr
    exact ⟨n', ao', len', C, rfl, h1, h2, hb⟩
theorem sub_ok {na : Bool} {aa : Option Addr} {la ca : Nat} {A : List Nat} {nb : Bool} {ab : Option Addr} {lb cb : Nat} {B : List Nat} {va vb : Int} (w : World) (hA : Rd w aa la ca A) (hB : Rd w ab lb cb B) (ea : num na A = va) (eb : num nb B = vb) (sa : Sm va) (sb : Sm vb) (sr : Sm (va - vb)) :
    Calls Tryd.prog 36 #[.agg #[.bool na, .slice aa la ca], .agg #[.bool nb, .slice ab lb cb]] w fun e w' => ∃ n' ao' len' C, e = .returned (.tuple #[.agg #[.bool n', .slice ao' len' len'], .int .i64 0]) ∧ Rd w' ao' len' len' C ∧ num n' C = va - vb ∧ Below w.heap.size w w' := by
  refine (Sub_any na aa la ca A nb ab lb cb B w hA hB).mono ?_
  rintro e w' ⟨n', ao', len', c, rfl, hans, hb⟩
  rw [sa.short ea, sb.short eb, ea, eb] at hans
  rcases hans with ⟨h, _⟩ | ⟨_, hf⟩
  · cases h
  · obtain ⟨rfl, C, h1, h2⟩ := hf.read sr
    exact ⟨n', ao', len', C, rfl, h1, h2, hb⟩
theorem mul_ok {na : Bool} {aa : Option Addr} {la ca : Nat} {A : List Nat} {nb : Bool} {ab : Option Addr} {lb cb : Nat} {B : List Nat} {va vb : Int} (w : World) (hA : Rd w aa la ca A) (hB : Rd w ab lb cb B) (ea : num na A = va) (eb : num nb B = vb) (sa : Sm va) (sb : Sm vb) (sr : Sm (va * vb)) :
    Calls Tryd.prog 37 #[.agg #[.bool na, .slice aa la ca], .agg #[.bool nb, .slice ab lb cb]] w fun e w' => ∃ n' ao' len' C, e = .returned (.tuple #[.agg #[.bool n', .slice ao' len' len'], .int .i64 0]) ∧ Rd w' ao' len' len' C ∧ num n' C = va * vb ∧ Below w.heap.size w w' := by
  refine (mul_good na aa la ca A nb ab lb cb B w hA hB (by rw [sa.short ea, sb.short eb]; rfl)).mono ?_
  rintro e w' ⟨n', ao', len', c, rfl, hf, hb⟩
  rw [ea, eb] at hf
  obtain ⟨rfl, C, h1, h2⟩ := hf.read sr
  exact ⟨n', ao', len', C, rfl, h1, h2, hb⟩

set_option maxRecDepth 100000 in
set_option maxHeartbeats 1000000 in
theorem same_yes {na : Bool} {aa : Option Addr} {la ca : Nat} {A : List Nat} {nb : Bool} {ab : Option Addr} {lb cb : Nat} {B : List Nat} (w : World) (c : Int) (hA : Rd w aa la ca A) (hB : Rd w ab lb cb B) (he : num na A = num nb B) :
    Calls Tryd.prog 66 #[.agg #[.bool na, .slice aa la ca], .int .i64 c, .agg #[.bool nb, .slice ab lb cb], .int .i64 c] w fun e w' => e = .returned (.bool true) ∧ Below w.heap.size w w' := by
  have HE := hid he
  have hc : (c == c) = true := by simp
  clear he
  go_enter Tryd.func66, Tryd.ntmps66
  go_wp2_with (go_at_call 30; refine (cmp_any na aa la ca A nb ab lb cb B _ ((hA.alloc _).alloc _) ((hB.alloc _).alloc _)).mono ?_; rintro e w1 ⟨rfl, hb1⟩; rw [HE.out, Int.sub_self])
  go_ret
  exact ⟨by simp, balloc2 hb1⟩
end Go.Proofs.YtldafoojkimdeaaDoor
