/- Walks of the document's answer: Cmp, To, Same. No condition but those that each theorem names. -/
import Derived.Test.YtldafoojkimdeaaDoorR5
namespace Go.Proofs.YtldafoojkimdeaaDoor
open Go.RowKit Lm

theorem new2 {w wz : World} {o1 o2 : Obj} (hz : wz = (w.alloc o1).alloc o2) : wz.heap[w.heap.size]? = some o1 ∧ wz.heap[w.heap.size + 1]? = some o2 ∧ Below w.heap.size w wz ∧ w.heap.size + 2 ≤ wz.heap.size := by
  subst hz
  refine ⟨hpS _ (heap_alloc_new w o1), ?_, ((Below.refl _ _).alloc (Nat.le_refl _) _).alloc (by simp) _, by simp⟩
  have := heap_alloc_new (w.alloc o1) o2
  simpa using this

set_option maxRecDepth 100000 in
set_option maxHeartbeats 2000000 in
theorem cmpR (nx : Bool) (xo : Option Addr) (xl xc : Nat) (vx : Int) (ny : Bool) (yo : Option Addr) (yl yc : Nat) (vy : Int) (w : World) (hX : Big w nx xo xl xc vx) (hY : Big w ny yo yl yc vy) (sx : xl ≤ 1073741824) (sy : yl ≤ 1073741824) :
    Calls Tryd.prog 31 #[.agg #[.bool nx, .slice xo xl xc], .agg #[.bool ny, .slice yo yl yc]] w fun e w' => e = .returned (.int .i64 (vx - vy).sign) ∧ Below w.heap.size w w' := by
  go_enter Tryd.func31, Tryd.ntmps31
  go_wp2_with fail
  obtain ⟨wz, hz⟩ : ∃ wz, wz = (w.alloc (.cells #[.bool nx, .slice xo xl xc] 28)).alloc (.cells #[.bool ny, .slice yo yl yc] 28) := ⟨_, rfl⟩
  obtain ⟨hpx, hpy, hzb, hzl⟩ := new2 hz
  rw [← hz]
  clear hz
  obtain ⟨x0, x1, _, _⟩ := two_cells hpx
  obtain ⟨y0, y1, _, _⟩ := two_cells hpy
  have zX := hX.keep hzb
  have zY := hY.keep hzb
  clear hpx hpy hX hY
  go_region_held3 (fun w' => w'.cell? ⟨w.heap.size, 0, none⟩ = some (.bool nx) ∧ w'.cell? ⟨w.heap.size, 1, none⟩ = some (.slice xo xl xc) ∧ w'.cell? ⟨w.heap.size + 1, 0, none⟩ = some (.bool ny) ∧ w'.cell? ⟨w.heap.size + 1, 1, none⟩ = some (.slice yo yl yc)) (first | go_keep | (refine ⟨?_, ?_, ?_, ?_⟩ <;> first | assumption | (simp [go_sem]; assumption)))
    (first
      | (go_at_call 23; (with_reducible refine (minusR _ _ _ _ vy wz.drew zY.drew).mono ?_); rintro e w2 ⟨nm, lm, rfl, hlm, zM, hb2⟩; have hb2' := undrew hb2; have x02 := cell_keep x0 hb2'; have x12 := cell_keep x1 hb2'; have y02 := cell_keep y0 hb2'; have y12 := cell_keep y1 hb2'; have zX2 := zX.keep hb2'; have n0 := World.new_ne w2 _ x02; have n1 := World.new_ne w2 _ x12; have n2 := World.new_ne w2 _ y02; have n3 := World.new_ne w2 _ y12)
      | (go_at_call 23; (with_reducible refine (minusR _ _ _ _ vy ((wz.alloc _).drew) (zY.alloc _).drew).mono ?_); rintro e w2 ⟨nm, lm, rfl, hlm, zM, hb2⟩; have hb2' := balloc (undrew hb2); have x02 := cell_keep x0 hb2'; have x12 := cell_keep x1 hb2'; have y02 := cell_keep y0 hb2'; have y12 := cell_keep y1 hb2'; have zX2 := zX.keep hb2'; have n0 := World.new_ne w2 _ x02; have n1 := World.new_ne w2 _ x12; have n2 := World.new_ne w2 _ y02; have n3 := World.new_ne w2 _ y12; have hkc := blk_keep (undrew hb2))
      | (go_at_call 39; (with_reducible refine (sumR _ _ _ _ vx _ _ _ _ (-vy) w2 zX2 zM sx (by omega)).mono ?_); rintro e w3 ⟨nd, od, ld, cd, rfl, hld, zD, hb3⟩; have hk := heap_keep hkc hb3; obtain ⟨d0, d1, g0, g1⟩ := two_cells hk; have hb4 := hb3; have x03 := cell_keep x02 hb4; have x13 := cell_keep x12 hb4; have y03 := cell_keep y02 hb4; have y13 := cell_keep y12 hb4; have m0 := World.new_ne w3 _ x03; have m1 := World.new_ne w3 _ x13; have m2 := World.new_ne w3 _ y03; have m3 := World.new_ne w3 _ y13)
      | (go_at_call 39; (with_reducible refine (sumR _ _ _ _ vx _ _ _ _ (-vy) w2 zX2 zM sx (by omega)).mono ?_); rintro e w3 ⟨nd, od, ld, cd, rfl, hld, zD, hb3⟩; have hb4 := hb3; have x03 := cell_keep x02 hb4; have x13 := cell_keep x12 hb4; have y03 := cell_keep y02 hb4; have y13 := cell_keep y12 hb4; have m0 := World.new_ne w3 _ x03; have m1 := World.new_ne w3 _ x13; have m2 := World.new_ne w3 _ y03; have m3 := World.new_ne w3 _ y13)
      | (go_at_call 39; (with_reducible refine (sumR _ _ _ _ vx _ _ _ _ (-vy) (w2.alloc _) (zX2.alloc _) (zM.alloc _) sx (by omega)).mono ?_); rintro e w3 ⟨nd, od, ld, cd, rfl, hld, zD, hb3⟩; have hb4 := balloc hb3; have x03 := cell_keep x02 hb4; have x13 := cell_keep x12 hb4; have y03 := cell_keep y02 hb4; have y13 := cell_keep y12 hb4; have m0 := World.new_ne w3 _ x03; have m1 := World.new_ne w3 _ x13; have m2 := World.new_ne w3 _ y03; have m3 := World.new_ne w3 _ y13; have hk := blk_keep hb3; obtain ⟨d0, d1, g0, g1⟩ := two_cells hk))
  all_goals
    have hs2 := hb2'.size
    have hs3 := hb4.size
    have hbz := (hzb.trans (Below.mono hb2' (by first | omega | (simp; omega)))).trans (Below.mono hb4 (by omega))
    clear m0 m1 m2 m3 n0 n1 n2 n3 x03 x13 y03 y13 x02 x12 y02 y12 x0 x1 y0 y1
    have HE : Hid ((vx + -vy).sign = (vx - vy).sign) := hid rfl
    go_wp2_with (go_at_call 29; refine (signR _ _ _ _ (vx + -vy) _ ?_).mono ?_; (first | exact zD.alloc _ | exact zD.other hk (by simp) (by simp) _ _); rintro e w4 ⟨rfl, hb5⟩; rw [HE.out])
    go_ret
    first
      | exact ⟨rfl, hbz.trans (Below.mono (balloc hb5) (by omega))⟩
      | exact ⟨rfl, ((hbz.setCell (by simp; omega) _).setCell (by simp; omega) _).trans (Below.mono hb5 (by simp; omega))⟩
end Go.Proofs.YtldafoojkimdeaaDoor
