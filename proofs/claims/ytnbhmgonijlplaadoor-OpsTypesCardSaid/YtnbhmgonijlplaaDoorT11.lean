/- Walks: Sides of the document's answer. No condition but those that each theorem names. -/
import Derived.Test.YtnbhmgonijlplaaDoorT10
namespace Go.Proofs.YtnbhmgonijlplaaDoor
open Go.RowKit

theorem sl1 (p : Int) : sd (lft 1) p = 0 := rfl
theorem sr1 (p : Int) : sd (rgt 1) p = wrap64 (p - 1) := rfl
theorem sl2 (p : Int) : sd (lft 2) p = 0 := rfl
theorem sr2 (p : Int) : sd (rgt 2) p = p := rfl
theorem sl3 (p : Int) : sd (lft 3) p = wrap64 (p - 1) := rfl
theorem sr3 (p : Int) : sd (rgt 3) p = wrap64 (p - 1) := rfl
theorem sl4 (p : Int) : sd (lft 4) p = wrap64 (p - 1) := rfl
theorem sr4 (p : Int) : sd (rgt 4) p = p := rfl
theorem sl5 (p : Int) : sd (lft 5) p = p := rfl
theorem sr5 (p : Int) : sd (rgt 5) p = wrap64 (p - 1) := rfl
theorem sl6 (p : Int) : sd (lft 6) p = wrap64 (p - 1) := rfl
theorem sr6 (p : Int) : sd (rgt 6) p = 0 := rfl
theorem sl7 (p : Int) : sd (lft 7) p = p := rfl
theorem sr7 (p : Int) : sd (rgt 7) p = 0 := rfl
theorem s_out (k p : Int) (h : ¬ (1 ≤ k ∧ k ≤ 7)) : sd (lft k) p = 0 ∧ sd (rgt k) p = 0 := by
  have h1 : lft k = ⟨#[]⟩ := by unfold lft; rw [if_neg (by omega), if_neg (by omega)]
  have h2 : rgt k = ⟨#[]⟩ := by unfold rgt; rw [if_neg (by omega), if_neg (by omega)]
  rw [h1, h2]
  exact ⟨rfl, rfl⟩
theorem three_new (w : World) (o1 o2 o3 : Obj) (wz : World) (h : wz = ((w.alloc o1).alloc o2).alloc o3) :
    wz.heap[w.heap.size]? = some o1 ∧ wz.heap[w.heap.size + 1]? = some o2 ∧ wz.heap[w.heap.size + 1 + 1]? = some o3 ∧ Below w.heap.size w wz := by
  have h1 := heap_alloc_new w o1
  have h2 := heap_alloc_new (w.alloc o1) o2
  have h3 := heap_alloc_new ((w.alloc o1).alloc o2) o3
  have s1 : (w.alloc o1).heap.size = w.heap.size + 1 := by simp
  have s2 : ((w.alloc o1).alloc o2).heap.size = w.heap.size + 1 + 1 := by simp
  rw [s1] at h2
  rw [s2] at h3
  subst h
  have b3 := (Below.refl ((w.alloc o1).alloc o2).heap.size ((w.alloc o1).alloc o2)).alloc (Nat.le_refl _) o3
  have b2 := (Below.refl (w.alloc o1).heap.size (w.alloc o1)).alloc (Nat.le_refl _) o2
  exact ⟨heap_keep3 (heap_keep3 h1 b2) b3, heap_keep3 h2 b3, h3, (((Below.refl w.heap.size w).alloc (Nat.le_refl _) _).alloc (by simp) _).alloc (by simp; omega) _⟩
set_option maxRecDepth 100000 in
set_option maxHeartbeats 8000000 in
theorem refSides (nm : ByteArray) (k p : Int) (w : World) : Calls Tryd.prog 20 #[.agg #[.string nm, .int .i64 k, .int .i64 p]] w fun e w' => e = .returned (.tuple #[.int .i64 (sd (lft k) p), .int .i64 (sd (rgt k) p)]) ∧ Below w.heap.size w w' := by
  rcases (show k < 1 ∨ 7 < k ∨ k = 1 ∨ k = 2 ∨ k = 3 ∨ k = 4 ∨ k = 5 ∨ k = 6 ∨ k = 7 by omega) with h | h | rfl | rfl | rfl | rfl | rfl | rfl | rfl
  · obtain ⟨e1, e2⟩ := s_out k p (by omega)
    rw [e1, e2]
    clear e1 e2
    skip
    go_enter Tryd.func20, Tryd.ntmps20
    go_wp2
    refine bodyPost_ret (v := .tuple #[.int .i64 0, .int .i64 0]) (by simp [results, Tryd.results20, go_sem]) rfl ⟨rfl, ?_⟩
    exact (((Below.refl w.heap.size w).alloc (Nat.le_refl _) _).alloc (by simp) _).alloc (by simp; omega) _
  · obtain ⟨e1, e2⟩ := s_out k p (by omega)
    rw [e1, e2]
    clear e1 e2
    have h0 : ¬ k < 1 := by omega
    go_enter Tryd.func20, Tryd.ntmps20
    go_wp2
    refine bodyPost_ret (v := .tuple #[.int .i64 0, .int .i64 0]) (by simp [results, Tryd.results20, go_sem]) rfl ⟨rfl, ?_⟩
    exact (((Below.refl w.heap.size w).alloc (Nat.le_refl _) _).alloc (by simp) _).alloc (by simp; omega) _
  · rw [sl1, sr1]
    obtain ⟨wz, hwz⟩ : ∃ wz, wz = ((w.alloc (Obj.cells #[.string nm, .int .i64 1, .int .i64 p] 39)).alloc (Obj.cells #[.int .i64 0, .int .i64 0, .int .i64 0, .int .i64 (wrap64 (p - 1)), .int .i64 (wrap64 (p - 1)), .int .i64 p, .int .i64 (wrap64 (p - 1)), .int .i64 p] 3)).alloc (Obj.cells #[.int .i64 0, .int .i64 (wrap64 (p - 1)), .int .i64 p, .int .i64 (wrap64 (p - 1)), .int .i64 p, .int .i64 (wrap64 (p - 1)), .int .i64 0, .int .i64 0] 3) := ⟨_, rfl⟩
    obtain ⟨p1, p2, p3, hB⟩ := three_new w (Obj.cells #[.string nm, .int .i64 1, .int .i64 p] 39) (Obj.cells #[.int .i64 0, .int .i64 0, .int .i64 0, .int .i64 (wrap64 (p - 1)), .int .i64 (wrap64 (p - 1)), .int .i64 p, .int .i64 (wrap64 (p - 1)), .int .i64 p] 3) (Obj.cells #[.int .i64 0, .int .i64 (wrap64 (p - 1)), .int .i64 p, .int .i64 (wrap64 (p - 1)), .int .i64 p, .int .i64 (wrap64 (p - 1)), .int .i64 0, .int .i64 0] 3) wz hwz
    have c1 : wz.cell? ⟨w.heap.size, 1, none⟩ = some (.int .i64 1) := by simp [World.cell?, p1]
    have c2 : wz.cell? ⟨w.heap.size + 1, 1, none⟩ = some (.int .i64 0) := by simp [World.cell?, p2]
    have c3 : wz.cell? ⟨w.heap.size + 1 + 1, 1, none⟩ = some (.int .i64 (wrap64 (p - 1))) := by simp [World.cell?, p3]
    clear p1 p2 p3
    go_enter Tryd.func20, Tryd.ntmps20
    go_wp2
    rw [← hwz]
    clear hwz
    go_region
    go_wp2
    refine bodyPost_ret (v := .tuple #[.int .i64 0, .int .i64 (wrap64 (p - 1))]) (by simp [results, Tryd.results20, go_sem]) rfl ⟨rfl, ?_⟩
    exact hB.drew
  · rw [sl2, sr2]
    obtain ⟨wz, hwz⟩ : ∃ wz, wz = ((w.alloc (Obj.cells #[.string nm, .int .i64 2, .int .i64 p] 39)).alloc (Obj.cells #[.int .i64 0, .int .i64 0, .int .i64 0, .int .i64 (wrap64 (p - 1)), .int .i64 (wrap64 (p - 1)), .int .i64 p, .int .i64 (wrap64 (p - 1)), .int .i64 p] 3)).alloc (Obj.cells #[.int .i64 0, .int .i64 (wrap64 (p - 1)), .int .i64 p, .int .i64 (wrap64 (p - 1)), .int .i64 p, .int .i64 (wrap64 (p - 1)), .int .i64 0, .int .i64 0] 3) := ⟨_, rfl⟩
    obtain ⟨p1, p2, p3, hB⟩ := three_new w (Obj.cells #[.string nm, .int .i64 2, .int .i64 p] 39) (Obj.cells #[.int .i64 0, .int .i64 0, .int .i64 0, .int .i64 (wrap64 (p - 1)), .int .i64 (wrap64 (p - 1)), .int .i64 p, .int .i64 (wrap64 (p - 1)), .int .i64 p] 3) (Obj.cells #[.int .i64 0, .int .i64 (wrap64 (p - 1)), .int .i64 p, .int .i64 (wrap64 (p - 1)), .int .i64 p, .int .i64 (wrap64 (p - 1)), .int .i64 0, .int .i64 0] 3) wz hwz
    have c1 : wz.cell? ⟨w.heap.size, 1, none⟩ = some (.int .i64 2) := by simp [World.cell?, p1]
    have c2 : wz.cell? ⟨w.heap.size + 1, 2, none⟩ = some (.int .i64 0) := by simp [World.cell?, p2]
    have c3 : wz.cell? ⟨w.heap.size + 1 + 1, 2, none⟩ = some (.int .i64 p) := by simp [World.cell?, p3]
    clear p1 p2 p3
    go_enter Tryd.func20, Tryd.ntmps20
    go_wp2
    rw [← hwz]
    clear hwz
    go_region
    go_wp2
    refine bodyPost_ret (v := .tuple #[.int .i64 0, .int .i64 p]) (by simp [results, Tryd.results20, go_sem]) rfl ⟨rfl, ?_⟩
    exact hB.drew
  · rw [sl3, sr3]
    obtain ⟨wz, hwz⟩ : ∃ wz, wz = ((w.alloc (Obj.cells #[.string nm, .int .i64 3, .int .i64 p] 39)).alloc (Obj.cells #[.int .i64 0, .int .i64 0, .int .i64 0, .int .i64 (wrap64 (p - 1)), .int .i64 (wrap64 (p - 1)), .int .i64 p, .int .i64 (wrap64 (p - 1)), .int .i64 p] 3)).alloc (Obj.cells #[.int .i64 0, .int .i64 (wrap64 (p - 1)), .int .i64 p, .int .i64 (wrap64 (p - 1)), .int .i64 p, .int .i64 (wrap64 (p - 1)), .int .i64 0, .int .i64 0] 3) := ⟨_, rfl⟩
    obtain ⟨p1, p2, p3, hB⟩ := three_new w (Obj.cells #[.string nm, .int .i64 3, .int .i64 p] 39) (Obj.cells #[.int .i64 0, .int .i64 0, .int .i64 0, .int .i64 (wrap64 (p - 1)), .int .i64 (wrap64 (p - 1)), .int .i64 p, .int .i64 (wrap64 (p - 1)), .int .i64 p] 3) (Obj.cells #[.int .i64 0, .int .i64 (wrap64 (p - 1)), .int .i64 p, .int .i64 (wrap64 (p - 1)), .int .i64 p, .int .i64 (wrap64 (p - 1)), .int .i64 0, .int .i64 0] 3) wz hwz
    have c1 : wz.cell? ⟨w.heap.size, 1, none⟩ = some (.int .i64 3) := by simp [World.cell?, p1]
    have c2 : wz.cell? ⟨w.heap.size + 1, 3, none⟩ = some (.int .i64 (wrap64 (p - 1))) := by simp [World.cell?, p2]
    have c3 : wz.cell? ⟨w.heap.size + 1 + 1, 3, none⟩ = some (.int .i64 (wrap64 (p - 1))) := by simp [World.cell?, p3]
    clear p1 p2 p3
    go_enter Tryd.func20, Tryd.ntmps20
    go_wp2
    rw [← hwz]
    clear hwz
    go_region
    go_wp2
    refine bodyPost_ret (v := .tuple #[.int .i64 (wrap64 (p - 1)), .int .i64 (wrap64 (p - 1))]) (by simp [results, Tryd.results20, go_sem]) rfl ⟨rfl, ?_⟩
    exact hB.drew
  · rw [sl4, sr4]
    obtain ⟨wz, hwz⟩ : ∃ wz, wz = ((w.alloc (Obj.cells #[.string nm, .int .i64 4, .int .i64 p] 39)).alloc (Obj.cells #[.int .i64 0, .int .i64 0, .int .i64 0, .int .i64 (wrap64 (p - 1)), .int .i64 (wrap64 (p - 1)), .int .i64 p, .int .i64 (wrap64 (p - 1)), .int .i64 p] 3)).alloc (Obj.cells #[.int .i64 0, .int .i64 (wrap64 (p - 1)), .int .i64 p, .int .i64 (wrap64 (p - 1)), .int .i64 p, .int .i64 (wrap64 (p - 1)), .int .i64 0, .int .i64 0] 3) := ⟨_, rfl⟩
    obtain ⟨p1, p2, p3, hB⟩ := three_new w (Obj.cells #[.string nm, .int .i64 4, .int .i64 p] 39) (Obj.cells #[.int .i64 0, .int .i64 0, .int .i64 0, .int .i64 (wrap64 (p - 1)), .int .i64 (wrap64 (p - 1)), .int .i64 p, .int .i64 (wrap64 (p - 1)), .int .i64 p] 3) (Obj.cells #[.int .i64 0, .int .i64 (wrap64 (p - 1)), .int .i64 p, .int .i64 (wrap64 (p - 1)), .int .i64 p, .int .i64 (wrap64 (p - 1)), .int .i64 0, .int .i64 0] 3) wz hwz
    have c1 : wz.cell? ⟨w.heap.size, 1, none⟩ = some (.int .i64 4) := by simp [World.cell?, p1]
    have c2 : wz.cell? ⟨w.heap.size + 1, 4, none⟩ = some (.int .i64 (wrap64 (p - 1))) := by simp [World.cell?, p2]
    have c3 : wz.cell? ⟨w.heap.size + 1 + 1, 4, none⟩ = some (.int .i64 p) := by simp [World.cell?, p3]
    clear p1 p2 p3
    go_enter Tryd.func20, Tryd.ntmps20
    go_wp2
    rw [← hwz]
    clear hwz
    go_region
    go_wp2
    refine bodyPost_ret (v := .tuple #[.int .i64 (wrap64 (p - 1)), .int .i64 p]) (by simp [results, Tryd.results20, go_sem]) rfl ⟨rfl, ?_⟩
    exact hB.drew
  · rw [sl5, sr5]
    obtain ⟨wz, hwz⟩ : ∃ wz, wz = ((w.alloc (Obj.cells #[.string nm, .int .i64 5, .int .i64 p] 39)).alloc (Obj.cells #[.int .i64 0, .int .i64 0, .int .i64 0, .int .i64 (wrap64 (p - 1)), .int .i64 (wrap64 (p - 1)), .int .i64 p, .int .i64 (wrap64 (p - 1)), .int .i64 p] 3)).alloc (Obj.cells #[.int .i64 0, .int .i64 (wrap64 (p - 1)), .int .i64 p, .int .i64 (wrap64 (p - 1)), .int .i64 p, .int .i64 (wrap64 (p - 1)), .int .i64 0, .int .i64 0] 3) := ⟨_, rfl⟩
    obtain ⟨p1, p2, p3, hB⟩ := three_new w (Obj.cells #[.string nm, .int .i64 5, .int .i64 p] 39) (Obj.cells #[.int .i64 0, .int .i64 0, .int .i64 0, .int .i64 (wrap64 (p - 1)), .int .i64 (wrap64 (p - 1)), .int .i64 p, .int .i64 (wrap64 (p - 1)), .int .i64 p] 3) (Obj.cells #[.int .i64 0, .int .i64 (wrap64 (p - 1)), .int .i64 p, .int .i64 (wrap64 (p - 1)), .int .i64 p, .int .i64 (wrap64 (p - 1)), .int .i64 0, .int .i64 0] 3) wz hwz
    have c1 : wz.cell? ⟨w.heap.size, 1, none⟩ = some (.int .i64 5) := by simp [World.cell?, p1]
    have c2 : wz.cell? ⟨w.heap.size + 1, 5, none⟩ = some (.int .i64 p) := by simp [World.cell?, p2]
    have c3 : wz.cell? ⟨w.heap.size + 1 + 1, 5, none⟩ = some (.int .i64 (wrap64 (p - 1))) := by simp [World.cell?, p3]
    clear p1 p2 p3
    go_enter Tryd.func20, Tryd.ntmps20
    go_wp2
    rw [← hwz]
    clear hwz
    go_region
    go_wp2
    refine bodyPost_ret (v := .tuple #[.int .i64 p, .int .i64 (wrap64 (p - 1))]) (by simp [results, Tryd.results20, go_sem]) rfl ⟨rfl, ?_⟩
    exact hB.drew
  · rw [sl6, sr6]
    obtain ⟨wz, hwz⟩ : ∃ wz, wz = ((w.alloc (Obj.cells #[.string nm, .int .i64 6, .int .i64 p] 39)).alloc (Obj.cells #[.int .i64 0, .int .i64 0, .int .i64 0, .int .i64 (wrap64 (p - 1)), .int .i64 (wrap64 (p - 1)), .int .i64 p, .int .i64 (wrap64 (p - 1)), .int .i64 p] 3)).alloc (Obj.cells #[.int .i64 0, .int .i64 (wrap64 (p - 1)), .int .i64 p, .int .i64 (wrap64 (p - 1)), .int .i64 p, .int .i64 (wrap64 (p - 1)), .int .i64 0, .int .i64 0] 3) := ⟨_, rfl⟩
    obtain ⟨p1, p2, p3, hB⟩ := three_new w (Obj.cells #[.string nm, .int .i64 6, .int .i64 p] 39) (Obj.cells #[.int .i64 0, .int .i64 0, .int .i64 0, .int .i64 (wrap64 (p - 1)), .int .i64 (wrap64 (p - 1)), .int .i64 p, .int .i64 (wrap64 (p - 1)), .int .i64 p] 3) (Obj.cells #[.int .i64 0, .int .i64 (wrap64 (p - 1)), .int .i64 p, .int .i64 (wrap64 (p - 1)), .int .i64 p, .int .i64 (wrap64 (p - 1)), .int .i64 0, .int .i64 0] 3) wz hwz
    have c1 : wz.cell? ⟨w.heap.size, 1, none⟩ = some (.int .i64 6) := by simp [World.cell?, p1]
    have c2 : wz.cell? ⟨w.heap.size + 1, 6, none⟩ = some (.int .i64 (wrap64 (p - 1))) := by simp [World.cell?, p2]
    have c3 : wz.cell? ⟨w.heap.size + 1 + 1, 6, none⟩ = some (.int .i64 0) := by simp [World.cell?, p3]
    clear p1 p2 p3
    go_enter Tryd.func20, Tryd.ntmps20
    go_wp2
    rw [← hwz]
    clear hwz
    go_region
    go_wp2
    refine bodyPost_ret (v := .tuple #[.int .i64 (wrap64 (p - 1)), .int .i64 0]) (by simp [results, Tryd.results20, go_sem]) rfl ⟨rfl, ?_⟩
    exact hB.drew
  · rw [sl7, sr7]
    obtain ⟨wz, hwz⟩ : ∃ wz, wz = ((w.alloc (Obj.cells #[.string nm, .int .i64 7, .int .i64 p] 39)).alloc (Obj.cells #[.int .i64 0, .int .i64 0, .int .i64 0, .int .i64 (wrap64 (p - 1)), .int .i64 (wrap64 (p - 1)), .int .i64 p, .int .i64 (wrap64 (p - 1)), .int .i64 p] 3)).alloc (Obj.cells #[.int .i64 0, .int .i64 (wrap64 (p - 1)), .int .i64 p, .int .i64 (wrap64 (p - 1)), .int .i64 p, .int .i64 (wrap64 (p - 1)), .int .i64 0, .int .i64 0] 3) := ⟨_, rfl⟩
    obtain ⟨p1, p2, p3, hB⟩ := three_new w (Obj.cells #[.string nm, .int .i64 7, .int .i64 p] 39) (Obj.cells #[.int .i64 0, .int .i64 0, .int .i64 0, .int .i64 (wrap64 (p - 1)), .int .i64 (wrap64 (p - 1)), .int .i64 p, .int .i64 (wrap64 (p - 1)), .int .i64 p] 3) (Obj.cells #[.int .i64 0, .int .i64 (wrap64 (p - 1)), .int .i64 p, .int .i64 (wrap64 (p - 1)), .int .i64 p, .int .i64 (wrap64 (p - 1)), .int .i64 0, .int .i64 0] 3) wz hwz
    have c1 : wz.cell? ⟨w.heap.size, 1, none⟩ = some (.int .i64 7) := by simp [World.cell?, p1]
    have c2 : wz.cell? ⟨w.heap.size + 1, 7, none⟩ = some (.int .i64 p) := by simp [World.cell?, p2]
    have c3 : wz.cell? ⟨w.heap.size + 1 + 1, 7, none⟩ = some (.int .i64 0) := by simp [World.cell?, p3]
    clear p1 p2 p3
    go_enter Tryd.func20, Tryd.ntmps20
    go_wp2
    rw [← hwz]
    clear hwz
    go_region
    go_wp2
    refine bodyPost_ret (v := .tuple #[.int .i64 p, .int .i64 0]) (by simp [results, Tryd.results20, go_sem]) rfl ⟨rfl, ?_⟩
    exact hB.drew
end Go.Proofs.YtnbhmgonijlplaaDoor
