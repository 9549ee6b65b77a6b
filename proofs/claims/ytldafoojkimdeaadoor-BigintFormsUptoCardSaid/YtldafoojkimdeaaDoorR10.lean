/- Walk of the law's helper held. No condition but those that the theorem names. -/
import Derived.Test.YtldafoojkimdeaaDoorR9
namespace Go.Proofs.YtldafoojkimdeaaDoor
open Go.RowKit Lm

theorem Grow.cells {B : Nat} {w : World} {g n cap : Nat} {C : List Nat} (h : Grow B w (.slice (some ⟨g, 0, none⟩) n cap) C) : B ≤ g ∧ n = C.length ∧ n ≤ cap ∧ (∀ k, k < C.length → w.cell? ⟨g, k, none⟩ = some (.int .u32 (dg C k : Int))) ∧ (∀ k, w.frozen? ⟨g, k, none⟩ = false) := by
  rcases h.2 with ⟨h', _⟩ | ⟨g', cap', cur, h', hb, hg, hnc, hcm, hcs, htk⟩
  · simp at h'
  · simp only [Value.slice.injEq, Option.some.injEq, Addr.mk.injEq, and_true, true_and] at h'
    obtain ⟨rfl, rfl, rfl⟩ := h'
    refine ⟨hb, rfl, hnc, fun k hk => ?_, fun k => by simp [World.frozen?, hg]⟩
    have h1 := lims_get C k hk
    rw [← htk, List.getElem?_take_of_lt (by omega)] at h1
    simpa [World.cell?, hg] using h1

theorem Grow.keepw {B : Nat} {w w' : World} {g n cap : Nat} {C : List Nat} (h : Grow B w (.slice (some ⟨g, 0, none⟩) n cap) C) (hb : Below w.heap.size w w') : Grow B w' (.slice (some ⟨g, 0, none⟩) n cap) C :=
  World.ownsRow.kept h (row := none) ⟨hb.os, hb.tape, hb.output, hb.size, fun k hk _ => hb.block k hk⟩ (by simp [Value.ownBlock])
theorem Grow.mark {B : Nat} {w : World} {g n cap : Nat} {C : List Nat} (h : Grow B w (.slice (some ⟨g, 0, none⟩) n cap) C) (hn : C.length = n) (k x : Nat) {z : Int} (hz : z = (x : Int)) : Grow B (w.setCell ⟨g, k, none⟩ (.int .u32 z)) (.slice (some ⟨g, 0, none⟩) n cap) (C.set k x) := by
  subst hn; exact h.put k x hz

set_option maxRecDepth 100000 in
set_option maxHeartbeats 2000000 in
theorem heldR (na : Bool) (g cap : Nat) (aa : Option Addr) (la ca : Nat) (A : List Nat) (w0 w : World) (hA0 : Rd w0 aa la ca A) (hb0 : Below w0.heap.size w0 w) (hT : Lent w0.heap.size w g la cap A) (hla : la ≤ 1073741824) :
    Calls Tryd.prog 33 #[.agg #[.bool na, .slice (some ⟨g, 0, none⟩) la cap], .agg #[.bool na, .slice aa la ca]] w fun e w' => e = .returned (.bool true) ∧ Below w0.heap.size w0 w' ∧ (∀ b, b < w.heap.size → b ≠ g → w'.heap[b]? = w.heap[b]?) := by
  have hA := hA0.keep hb0
  have HL := hid hT.size
  obtain ⟨hgB, hn3, hcap, _, _⟩ := hT.own.cells
  have hgw : g < w.heap.size := by
    rcases hT.own.2 with ⟨h', _⟩ | ⟨g', cap', cur, h', hb, hg, _⟩
    · simp at h'
    · simp only [Value.slice.injEq, Option.some.injEq, Addr.mk.injEq, and_true, true_and] at h'
      obtain ⟨rfl, _⟩ := h'
      exact lt_of_block hg
  have HN := hid hn3
  clear hn3
  have heq : (na == na) = true := by simp
  go_enter Tryd.func33, Tryd.ntmps33
  go_wp2_with fail
  obtain ⟨wz, hz⟩ : ∃ wz, wz = (w.alloc (.cells #[.bool na, .slice (some ⟨g, 0, none⟩) la cap] 24)).alloc (.cells #[.bool na, .slice aa la ca] 24) := ⟨_, rfl⟩
  obtain ⟨hpx, hpy, hzb, hzl⟩ := new2 hz
  rw [← hz]
  clear hz
  have hTz := hT.keep hzb
  have hbz0 := hb0.trans (Below.mono hzb hb0.size)
  have HX := hid hpx
  have HY := hid hpy
  clear hpx hpy hT hA
  go_loopw [6, 7] (fun o i wr => ∃ (k : Nat) (C : List Nat), k ≤ la + 3 ∧ o = .bool true ∧ i = .int .i64 (k : Int) ∧ Hid (C.length = la + 3) ∧ Grow w0.heap.size wr (.slice (some ⟨g, 0, none⟩) (la + 3) cap) C ∧ Hid (∀ j, k ≤ j → dg C j = dg (mk3 A) j) ∧ Hid (∀ b, b < wz.heap.size → b ≠ g → wr.heap[b]? = wz.heap[b]?) ∧ Below w0.heap.size w0 wr) (fun _ i _ => la + 3 - (intOf i).toNat)
  case atStart => exact ⟨0, mk3 A, by omega, rfl, rfl, hid (by rw [mk3_len, HL.out]), hTz.own, hid (fun _ _ => rfl), hid (fun _ _ _ => rfl), hbz0⟩
  case round =>
    obtain ⟨k, C, hk, rfl, rfl, hC, hG, hsm, hst, hb⟩ := hrel
    obtain ⟨_, _, _, hcs, hfs⟩ := hG.cells
    obtain ⟨x0, x1, _, _⟩ := two_cells ((hst.out _ (by omega) (by omega)).trans HX.out)
    obtain ⟨y0, y1, _, _⟩ := two_cells ((hst.out _ (by omega) (by omega)).trans HY.out)
    by_cases hgo : k < la + 3
    · have hck := hcs k (by rw [hC.out]; exact hgo)
      have hfk := hfs k
      clear hcs hfs
      by_cases hlow : k < la
      · obtain ⟨b, off, rfl, hc⟩ := (hA0.keep hb).cells (by omega)
        have hcm := hc k hlow
        clear hc
        have hd1 : decide ((k : Int) < (la : Int)) = true := by simp; omega
        have he : ((dg C k : Int) != (dg A k : Int)) = false := by
          rw [hsm.out k (Nat.le_refl _), mk3_low A k (by rw [HL.out]; exact hlow)]; simp
        have hd2 : decide ((la : Int) ≤ (k : Int)) = false := by simp; omega
        have hd3 : decide (k < la) = true := decide_eq_true hlow
        have hd4 : decide (la ≤ k) = false := decide_eq_false (by omega)
        go_wp2
        go_quiet (fail)
        go_wp2
        go_roundw
        case rel =>
          refine ⟨k + 1, C.set k 78, by omega, rfl, by go_num, hid (by rw [List.length_set, hC.out]), (hG.keepw (bdrew (Below.refl _ _) _)).mark hC.out k 78 rfl, hid (fun j hj => ?_), hid (fun b h1 h2 => ?_), (bdrew hb _).setCell (by simp; omega) _⟩
          · rw [dg_set_ne _ _ _ _ (by omega)]; exact hsm.out j (by omega)
          · rw [Below.heap_setCell _ _ _ _ (by simpa using h2)]; exact hst.out b h1 h2
        case measure => simp [intOf]; omega
      · have hd1 : decide ((k : Int) < (la : Int)) = false := by simp; omega
        have he : ((dg C k : Int) != 77) = false := by
          rw [hsm.out k (Nat.le_refl _), mk3_high A k (by rw [HL.out]; omega) (by rw [HL.out]; omega)]; rfl
        have hd2 : decide ((la : Int) ≤ (k : Int)) = true := by simp; omega
        have hd3 : decide (k < la) = false := decide_eq_false hlow
        have hd4 : decide (la ≤ k) = true := decide_eq_true (by omega)
        go_wp2
        go_quiet (fail)
        go_wp2
        go_roundw
        case rel =>
          refine ⟨k + 1, C.set k 78, by omega, rfl, by go_num, hid (by rw [List.length_set, hC.out]), (hG.keepw (bdrew (Below.refl _ _) _)).mark hC.out k 78 rfl, hid (fun j hj => ?_), hid (fun b h1 h2 => ?_), (bdrew hb _).setCell (by simp; omega) _⟩
          · rw [dg_set_ne _ _ _ _ (by omega)]; exact hsm.out j (by omega)
          · rw [Below.heap_setCell _ _ _ _ (by simpa using h2)]; exact hst.out b h1 h2
        case measure => simp [intOf]; omega
    · go_wp2
      go_ret
      exact ⟨rfl, hb, fun b h1 h2 => (hst.out b (by omega) h2).trans (hzb.block b h1)⟩
end Go.Proofs.YtldafoojkimdeaaDoor
