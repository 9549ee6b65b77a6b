/- The document's answer on tables of operators: Sorted. No condition but those that the theorem names. -/
import Derived.Test.YtnbhmgonijlplaaDoorT41
import Derived.Test.YtnbhmgonijlplaaDoorT27
import Derived.Deep.Cut
namespace Go.Proofs.YtnbhmgonijlplaaDoor
open Go.RowKit Go.Joins

theorem lss_names (y z : Opn) : Op.bytesLess y.name.toList z.name.toList = decide (nm y < nm z) := by
  rw [bytesLess_eq, Lib.toList_data, Lib.toList_data]
  rfl
set_option maxRecDepth 100000 in
set_option maxHeartbeats 8000000 in
theorem refSorted (b : Nat) (L : List Opn) (w : World) (hT : RefAt w b L) (hap : Apart L) (hmax : L.length ≤ maxLen) (hby : L.length * 32 ≤ 140737488355328) :
    Calls Tryd.prog 41 #[.pointer (some ⟨b, 0, none⟩)] w fun e w' => ∃ M g cap, e = .returned (.slice (some ⟨g, 0, none⟩) M.length cap) ∧ M.Perm L ∧ M.Pairwise olt ∧ RowAt w' g M ∧ w.heap.size ≤ g ∧ g < w'.heap.size ∧ Below w.heap.size w w' := by
  obtain ⟨v, hB, hv⟩ := hT
  have hc : (w.alloc (.cells #[] 39)).cell? ⟨b, 0, none⟩ = some v := heap_cell_keep ((Below.refl _ _).alloc (Nat.le_refl _) _) hB.cell
  have HV := hid (row_keep hv ((Below.refl _ _).alloc (Nat.le_refl _) (.cells #[] 39)))
  have HAP := hid hap
  clear hv hB hap
  go_enter Tryd.func41, Tryd.ntmps41
  go_wp2_with (at_builtin; refine wpList_copy_row _ rfl _ _ rfl w.heap.size rfl (heap_alloc_new w _) _ _ L rfl HV.out hmax hby ?_; intro g cap w1 hown hg; have HO := hid (row_blk hown); have HG := hid (((Below.refl w.heap.size w).alloc (Nat.le_refl _) (.cells #[] 39)).grown hg (by simp) (fun k e => by cases e; exact Nat.le_refl _)); clear hown hg)
  have hgb := HO.out.1
  go_loopw [4] (fun i wr => ∃ (k : Nat) (X : List Opn), i = .int .i64 (k : Int) ∧ 1 ≤ k ∧ k ≤ L.length + 1 ∧ Hid (X.Perm L ∧ (k ≤ L.length ∨ k = 1) ∧ (X.take k).Pairwise olt ∧ BlkAt wr g X ∧ Below w.heap.size w wr)) (fun i _ => L.length + 1 - (intOf i).toNat)
  case atStart =>
    refine ⟨1, L, rfl, Nat.le_refl _, by omega, hid ⟨List.Perm.refl _, .inr rfl, ?_, HO.out.2, HG.out⟩⟩
    cases L with
    | nil => exact List.Pairwise.nil
    | cons a l => exact List.pairwise_singleton _ _
  case round =>
    clear HO HG HV hc
    obtain ⟨k, X, rfl, hk1, hk2, hX⟩ := hrel
    have hXl := hX.out.1.length_eq
    by_cases hlt : k < L.length
    · have HI := hid (ins_start hX.out.1 (by omega) hX.out.2.2.1)
      have HK := hid hX.out.2.2.2.1
      have HBk := hid hX.out.2.2.2.2
      clear hX
      go_wp2
      go_loopw [5] (fun jv wi => ∃ (m : Nat) (Y : List Opn), jv = .int .i64 (m : Int) ∧ m ≤ L.length ∧ Hid (InsAt Y L k m ∧ BlkAt wi g Y ∧ Below w.heap.size w wi)) (fun j _ => (intOf j).toNat)
      case atStart => exact ⟨k, X, rfl, by omega, hid ⟨HI.out, HK.out, HBk.out⟩⟩
      case round =>
        clear HI HK HBk hXl
        obtain ⟨m, Y, rfl, hml, hY⟩ := hrel
        rcases Nat.eq_zero_or_pos m with hm0 | hm0
        · have hd : decide (0 < m) = false := decide_eq_false (by omega)
          have HD := hid (ins_done HAP.out hY.out.1 (.inl hm0))
          have HBn := hid hY.out.2
          have HP := hid hY.out.1.perm
          clear hm0 hY
          go_wp2_with fail
          go_quiet (first | fail | (go_at_call 38; exact Calls.quiet_of_same ((refClass _ _).mono fun _ _ h => ⟨h.1, h.2.symm⟩)))
          go_wp2
          go_roundw
          case rel => exact ⟨k + 1, Y, by go_num, by omega, by omega, hid ⟨HP.out, .inl (by omega), HD.out, HBn.out.1.of_block rfl, below_drewN HBn.out.2 _⟩⟩
          case measure => simp [intOf]; omega
        · obtain ⟨j, hj⟩ : ∃ j, m = j + 1 := ⟨m - 1, by omega⟩
          have hd : decide (0 < m) = true := decide_eq_true (by omega)
          have hsub : IntKind.i64.wrap ((m : Int) - 1) = (j : Int) := by rw [IntWalk.i64_in _ (by unfold maxLen at hmax; omega)]; omega
          have hmY : m < Y.length := by have := ins_len hY.out.1; omega
          have hjY : j < Y.length := by omega
          have hYl : Y.length = L.length := hY.out.1.perm.length_eq
          obtain ⟨x0, x1, x2, xf0, xf1, xf2⟩ := hY.out.2.1.cells m hmY
          obtain ⟨y0, y1, y2, _, _, _⟩ := hY.out.2.1.cells j hjY
          have HST := hid (fun (ho : olt Y[m] Y[j]) => (show InsAt ((Y.set m Y[j]).set j Y[m]) L k j by subst hj; exact ins_step hY.out.1 hjY hmY ho))
          have HDN := hid (fun (ho : ¬ olt Y[m] Y[j]) => ins_done HAP.out hY.out.1 (.inr ⟨j, hjY, by omega, hj, by subst hj; exact ho⟩))
          have HBn := hid hY.out.2
          have HP := hid hY.out.1.perm
          have hmL : m < L.length := by omega
          have hjL : j < L.length := by omega
          have hjm : j < m := by omega
          clear hY hm0 hj
          generalize Y[m] = y at *
          generalize Y[j] = z at *
          by_cases hn : nm y < nm z
          · have hb : Op.bytesLess y.name.toList z.name.toList = true := (lss_names _ _).trans (decide_eq_true hn)
            have HS := hid (HST.out (.inl hn))
            clear HST HDN hn
            go_wp2_with fail
            go_quiet (first | fail | (go_at_call 38; exact Calls.quiet_of_same ((refClass _ _).mono fun _ _ h => ⟨h.1, h.2.symm⟩)))
            obtain ⟨Wd, hWd⟩ : ∃ Wd, Wd = wr.drewN nq := ⟨_, rfl⟩
            rw [← hWd]
            have KD := hid (show BlkAt Wd g Y from HBn.out.1.of_block (by rw [hWd]; rfl))
            have BD := hid (show Below w.heap.size w Wd by rw [hWd]; exact below_drewN HBn.out.2 nq)
            have d0 := (show Wd.cell? ⟨g, m * 3, none⟩ = wr.cell? ⟨g, m * 3, none⟩ by rw [hWd]; rfl).trans x0
            have d1 := (show Wd.cell? ⟨g, m * 3 + 1, none⟩ = wr.cell? ⟨g, m * 3 + 1, none⟩ by rw [hWd]; rfl).trans x1
            have d2 := (show Wd.cell? ⟨g, m * 3 + 2, none⟩ = wr.cell? ⟨g, m * 3 + 2, none⟩ by rw [hWd]; rfl).trans x2
            have e0 := (show Wd.cell? ⟨g, j * 3, none⟩ = wr.cell? ⟨g, j * 3, none⟩ by rw [hWd]; rfl).trans y0
            have e1 := (show Wd.cell? ⟨g, j * 3 + 1, none⟩ = wr.cell? ⟨g, j * 3 + 1, none⟩ by rw [hWd]; rfl).trans y1
            have e2 := (show Wd.cell? ⟨g, j * 3 + 2, none⟩ = wr.cell? ⟨g, j * 3 + 2, none⟩ by rw [hWd]; rfl).trans y2
            have hba := (Below.refl Wd.heap.size Wd).alloc (Nat.le_refl _) (.cells #[.string y.name, .int .i64 y.typ, .int .i64 y.pri] 39)
            have hgl := KD.out.lt
            clear hWd x0 x1 x2 y0 y1 y2 xf0 xf1 xf2 HBn
            go_upto_region 9 with fail
            obtain ⟨W8, h8⟩ : ∃ W8, W8 = Wd.alloc (.cells #[.string y.name, .int .i64 y.typ, .int .i64 y.pri] 39) := ⟨_, rfl⟩
            rw [← h8]
            rw [← h8] at hba
            have K8 := hid (KD.out.of_block (hba.block g hgl))
            have B8 := hid (BD.out.trans (hba.mono BD.out.size))
            have X8 := hid (show W8.heap[Wd.heap.size]? = some (.cells #[.string y.name, .int .i64 y.typ, .int .i64 y.pri] 39 (0, 0)) by rw [h8]; exact heap_alloc_new Wd _)
            have f0 := heap_cell_keep hba d0
            have f1 := heap_cell_keep hba d1
            have f2 := heap_cell_keep hba d2
            have g0 := heap_cell_keep hba e0
            have g1 := heap_cell_keep hba e1
            have g2 := heap_cell_keep hba e2
            obtain ⟨_, _, _, fz0, fz1, fz2⟩ := K8.out.cells m hmY
            clear h8 hba d0 d1 d2 e0 e1 e2 KD BD
            go_upto_region 10 with fail
            obtain ⟨W9, h9⟩ : ∃ W9, W9 = ((W8.setCell ⟨g, m * 3, none⟩ (.string z.name)).setCell ⟨g, m * 3 + 1, none⟩ (.int .i64 z.typ)).setCell ⟨g, m * 3 + 2, none⟩ (.int .i64 z.pri) := ⟨_, rfl⟩
            rw [← h9]
            have K9 := hid (show BlkAt W9 g (Y.set m z) by rw [h9]; exact K8.out.set m hmY z)
            have B9 := hid (show Below w.heap.size w W9 by rw [h9]; exact ((B8.out.setCell hgb _).setCell hgb _).setCell hgb _)
            have hne : Wd.heap.size ≠ g := by omega
            obtain ⟨i0, i1, i2, _⟩ := three_cells (show W9.heap[Wd.heap.size]? = some (.cells #[.string y.name, .int .i64 y.typ, .int .i64 y.pri] 39 (0, 0)) by
              rw [h9, heap_setCell_other _ _ _ _ hne, heap_setCell_other _ _ _ _ hne, heap_setCell_other _ _ _ _ hne]; exact X8.out)
            obtain ⟨j0, j1, j2, jz0, jz1, jz2⟩ := K9.out.cells j (by rw [List.length_set]; exact hjY)
            generalize (Y.set m z)[j]'(by rw [List.length_set]; exact hjY) = u at *
            clear h9 f0 f1 f2 g0 g1 g2 fz0 fz1 fz2 K8 B8 X8
            go_wp2
            go_roundw
            case rel => exact ⟨j, (Y.set m z).set j y, by go_num, by omega, hid ⟨HS.out, K9.out.set j (by rw [List.length_set]; exact hjY) y, ((B9.out.setCell hgb _).setCell hgb _).setCell hgb _⟩⟩
            case measure => simp [intOf]; omega
          · have hb : Op.bytesLess y.name.toList z.name.toList = false := (lss_names _ _).trans (decide_eq_false hn)
            by_cases he : y.name = z.name
            · have hq : (y.name.toList == z.name.toList) = true := (names_eq _ _).trans (decide_eq_true he)
              by_cases hcl : cls y.typ < cls z.typ
              · have hl : decide (cls y.typ < cls z.typ) = true := decide_eq_true hcl
                have HS := hid (HST.out (.inr ⟨by unfold nm; rw [he], hcl⟩))
                clear HST HDN hn he hcl
                go_wp2_with fail
                go_quiet (first | fail | (go_at_call 38; exact Calls.quiet_of_same ((refClass _ _).mono fun _ _ h => ⟨h.1, h.2.symm⟩)))
                obtain ⟨Wd, hWd⟩ : ∃ Wd, Wd = wr.drewN nq := ⟨_, rfl⟩
                rw [← hWd]
                have KD := hid (show BlkAt Wd g Y from HBn.out.1.of_block (by rw [hWd]; rfl))
                have BD := hid (show Below w.heap.size w Wd by rw [hWd]; exact below_drewN HBn.out.2 nq)
                have d0 := (show Wd.cell? ⟨g, m * 3, none⟩ = wr.cell? ⟨g, m * 3, none⟩ by rw [hWd]; rfl).trans x0
                have d1 := (show Wd.cell? ⟨g, m * 3 + 1, none⟩ = wr.cell? ⟨g, m * 3 + 1, none⟩ by rw [hWd]; rfl).trans x1
                have d2 := (show Wd.cell? ⟨g, m * 3 + 2, none⟩ = wr.cell? ⟨g, m * 3 + 2, none⟩ by rw [hWd]; rfl).trans x2
                have e0 := (show Wd.cell? ⟨g, j * 3, none⟩ = wr.cell? ⟨g, j * 3, none⟩ by rw [hWd]; rfl).trans y0
                have e1 := (show Wd.cell? ⟨g, j * 3 + 1, none⟩ = wr.cell? ⟨g, j * 3 + 1, none⟩ by rw [hWd]; rfl).trans y1
                have e2 := (show Wd.cell? ⟨g, j * 3 + 2, none⟩ = wr.cell? ⟨g, j * 3 + 2, none⟩ by rw [hWd]; rfl).trans y2
                have hba := (Below.refl Wd.heap.size Wd).alloc (Nat.le_refl _) (.cells #[.string y.name, .int .i64 y.typ, .int .i64 y.pri] 39)
                have hgl := KD.out.lt
                clear hWd x0 x1 x2 y0 y1 y2 xf0 xf1 xf2 HBn
                go_upto_region 9 with fail
                obtain ⟨W8, h8⟩ : ∃ W8, W8 = Wd.alloc (.cells #[.string y.name, .int .i64 y.typ, .int .i64 y.pri] 39) := ⟨_, rfl⟩
                rw [← h8]
                rw [← h8] at hba
                have K8 := hid (KD.out.of_block (hba.block g hgl))
                have B8 := hid (BD.out.trans (hba.mono BD.out.size))
                have X8 := hid (show W8.heap[Wd.heap.size]? = some (.cells #[.string y.name, .int .i64 y.typ, .int .i64 y.pri] 39 (0, 0)) by rw [h8]; exact heap_alloc_new Wd _)
                have f0 := heap_cell_keep hba d0
                have f1 := heap_cell_keep hba d1
                have f2 := heap_cell_keep hba d2
                have g0 := heap_cell_keep hba e0
                have g1 := heap_cell_keep hba e1
                have g2 := heap_cell_keep hba e2
                obtain ⟨_, _, _, fz0, fz1, fz2⟩ := K8.out.cells m hmY
                clear h8 hba d0 d1 d2 e0 e1 e2 KD BD
                go_upto_region 10 with fail
                obtain ⟨W9, h9⟩ : ∃ W9, W9 = ((W8.setCell ⟨g, m * 3, none⟩ (.string z.name)).setCell ⟨g, m * 3 + 1, none⟩ (.int .i64 z.typ)).setCell ⟨g, m * 3 + 2, none⟩ (.int .i64 z.pri) := ⟨_, rfl⟩
                rw [← h9]
                have K9 := hid (show BlkAt W9 g (Y.set m z) by rw [h9]; exact K8.out.set m hmY z)
                have B9 := hid (show Below w.heap.size w W9 by rw [h9]; exact ((B8.out.setCell hgb _).setCell hgb _).setCell hgb _)
                have hne : Wd.heap.size ≠ g := by omega
                obtain ⟨i0, i1, i2, _⟩ := three_cells (show W9.heap[Wd.heap.size]? = some (.cells #[.string y.name, .int .i64 y.typ, .int .i64 y.pri] 39 (0, 0)) by
                  rw [h9, heap_setCell_other _ _ _ _ hne, heap_setCell_other _ _ _ _ hne, heap_setCell_other _ _ _ _ hne]; exact X8.out)
                obtain ⟨j0, j1, j2, jz0, jz1, jz2⟩ := K9.out.cells j (by rw [List.length_set]; exact hjY)
                generalize (Y.set m z)[j]'(by rw [List.length_set]; exact hjY) = u at *
                clear h9 f0 f1 f2 g0 g1 g2 fz0 fz1 fz2 K8 B8 X8
                go_wp2
                go_roundw
                case rel => exact ⟨j, (Y.set m z).set j y, by go_num, by omega, hid ⟨HS.out, K9.out.set j (by rw [List.length_set]; exact hjY) y, ((B9.out.setCell hgb _).setCell hgb _).setCell hgb _⟩⟩
                case measure => simp [intOf]; omega
              · have hl : decide (cls y.typ < cls z.typ) = false := decide_eq_false hcl
                have HD := hid (HDN.out (by rintro (h | ⟨_, h⟩); exact hn h; exact hcl h))
                clear HST HDN hn he hcl
                go_wp2_with fail
                go_quiet (first | fail | (go_at_call 38; exact Calls.quiet_of_same ((refClass _ _).mono fun _ _ h => ⟨h.1, h.2.symm⟩)))
                go_wp2
                go_roundw
                case rel => exact ⟨k + 1, Y, by go_num, by omega, by omega, hid ⟨HP.out, .inl (by omega), HD.out, HBn.out.1.of_block rfl, below_drewN HBn.out.2 _⟩⟩
                case measure => simp [intOf]; omega
            · have hq : (y.name.toList == z.name.toList) = false := (names_eq _ _).trans (decide_eq_false he)
              have HD := hid (HDN.out (by rintro (h | ⟨h, _⟩); exact hn h; exact he (nm_inj h)))
              clear HST HDN hn he
              go_wp2_with fail
              go_quiet (first | fail | (go_at_call 38; exact Calls.quiet_of_same ((refClass _ _).mono fun _ _ h => ⟨h.1, h.2.symm⟩)))
              go_wp2
              go_roundw
              case rel => exact ⟨k + 1, Y, by go_num, by omega, by omega, hid ⟨HP.out, .inl (by omega), HD.out, HBn.out.1.of_block rfl, below_drewN HBn.out.2 _⟩⟩
              case measure => simp [intOf]; omega
    · have HE := hid (show X.Pairwise olt by have h := hX.out.2.2.1; rwa [List.take_of_length_le (by omega)] at h)
      go_wp2
      go_ret
      refine ⟨X, g, cap, by rw [hXl]; rfl, hX.out.1, HE.out, hX.out.2.2.2.1.row, hgb, hX.out.2.2.2.1.lt, hX.out.2.2.2.2⟩
end Go.Proofs.YtnbhmgonijlplaaDoor
