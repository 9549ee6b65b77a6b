/- Walk of the document's answer: Found: what stands for a variable. No condition but those that the theorem names. Walk of the document's answer: Put. No condition but those that each theorem names. Walk of the document's answer: SameBinds of two lists that hold the same. No condition but those that the theorem names. -/
import Derived.Test.YtkapejcbmonfkaaGreatDoorT87m
namespace Go.Proofs.YtkapejcbmonfkaaGreatDoor
open Go.RowKit

def foundV (l : List Bnd) (v : Int) : Tm := (lookB l v).getD (leaf 0 ⟨#[]⟩ ⟨#[]⟩ 0)
theorem lookB_drop (l : List Bnd) (v : Int) (k : Nat) (h : k < l.length) : lookB (l.drop k) v = if l[k].1 = v then some l[k].2 else lookB (l.drop (k + 1)) v := by
  rw [List.drop_eq_getElem_cons h]
  rfl
set_option maxRecDepth 100000 in
set_option maxHeartbeats 8000000 in
theorem found_any (l : List Bnd) (q : Option Addr) (cl : Nat) (v : Int) (w : World) (hl : BindAt w l q) (hlm : l.length ≤ 4398046511104) :
    Calls Tryz.prog 69 #[.slice q l.length cl, .int .i64 v] w fun e w' => ∃ p c, e = .returned (.tuple #[(foundV l v).val p c, .bool (lookB l v).isSome]) ∧ (∀ u, lookB l v = some u → TmAt w u p) ∧ Below w.heap.size w w' := by
  have HL := hid hl
  have hlm' : (l.length : Int) ≤ 4398046511104 := by omega
  obtain ⟨W0, hW0⟩ : ∃ W0, W0 = w.alloc (.cells #[.int .i64 0, .string ⟨#[]⟩, .string ⟨#[]⟩, .int .u64 0, .int .i64 0, .slice none 0 0] 25) := ⟨_, rfl⟩
  have B0 := hid (show Below w.heap.size w W0 by rw [hW0]; exact (Below.refl _ _).alloc (Nat.le_refl _) _)
  have Z0 := hid (show W0.heap[w.heap.size]? = some (.cells #[.int .i64 0, .string ⟨#[]⟩, .string ⟨#[]⟩, .int .u64 0, .int .i64 0, .slice none 0 0] 25 (0, 0)) by rw [hW0]; exact heap_alloc_new w _)
  obtain ⟨r, hr⟩ : ∃ r, r = lookB l v := ⟨_, rfl⟩
  have HF := hid (show foundV l v = r.getD (leaf 0 ⟨#[]⟩ ⟨#[]⟩ 0) by unfold foundV; rw [hr])
  rw [HF.out, ← hr]
  have HR := hid (show r = lookB (l.drop 0) v from hr)
  unfold Tm.val
  clear hl hr HF
  go_enter Tryz.func69, Tryz.ntmps69
  go_wp2_with fail
  rw [← hW0]
  clear hW0
  go_loopw [6] (fun i wr => ∃ (k : Nat), k ≤ l.length ∧ i = .int .i64 (k : Int) ∧ Hid (wr.heap[w.heap.size]? = some (.cells #[.int .i64 0, .string ⟨#[]⟩, .string ⟨#[]⟩, .int .u64 0, .int .i64 0, .slice none 0 0] 25 (0, 0))) ∧ Hid (r = lookB (l.drop k) v) ∧ Hid (Below w.heap.size w wr)) (fun i _ => l.length - (intOf i).toNat)
  case atStart => exact ⟨0, by omega, rfl, Z0, HR, B0⟩
  case round =>
    clear Z0 HR B0
    obtain ⟨k, hk, rfl, Z, HR, hBr⟩ := hrel
    by_cases hlk : k < l.length
    · have hk0 : (0 : Int) ≤ (k : Int) := by omega
      have hk1 : (k : Int) < (l.length : Int) := by omega
      obtain ⟨b, o, rfl, e1, c1, hv, hs1, ht1⟩ := HL.out k hlk
      have HV := hid (heap_cell_keep hBr.out hv)
      have HS := hid (hs1.keep hBr.out)
      have HT := hid ht1
      have HE := hid (HR.out.trans (lookB_drop l v k hlk))
      clear hv hs1 ht1 HR
      generalize hbv : l[k].1 = bv at *
      generalize htt : l[k].2 = t1 at *
      clear hbv htt
      obtain ⟨g1, g2, g3, g4, g5, g6⟩ := HS.out
      have g0 := HV.out
      by_cases hin : bv = v
      · have HR1 := hid (show r = some t1 by rw [HE.out, if_pos hin])
        have hd : (bv == v) = true := beq_iff_eq.2 hin
        clear HE hin
        obtain ⟨⟨z0, z1, z2, z3, z4, z5⟩, ⟨f0, f1, f2, f3, f4, f5⟩⟩ := six_free Z.out
        go_wp2_with fail
        have h6 := set6 Z.out (.int .i64 t1.kind) (.string t1.name) (.string t1.num) (.int .u64 t1.bits) (.int .i64 t1.var) (.slice e1 t1.args.length c1)
        exact bodyPost_ret (results_pair (b := w.heap.size) (t := t1) (q := e1) (cap := c1) rfl _ _ (.bool true) ⟨by rfl, by rfl⟩ h6) rfl ⟨e1, c1, by rw [HR1.out]; rfl, fun u hu => by rw [HR1.out] at hu; cases hu; exact HT.out, set6_below hBr.out (Nat.le_refl _) _ _ _ _ _ _⟩
      · have HR1 := hid (show r = lookB (l.drop (k + 1)) v by rw [HE.out, if_neg hin])
        have hd : (bv == v) = false := beq_eq_false_iff_ne.2 hin
        clear HE
        go_wp2_with fail
        go_roundw
        case rel => exact ⟨k + 1, by omega, by go_num, Z, HR1, hBr⟩
        case measure => simp [intOf]; omega
    · obtain rfl : k = l.length := by omega
      have HR1 := hid (show r = none by rw [HR.out, List.drop_length]; rfl)
      obtain ⟨⟨z0, z1, z2, z3, z4, z5⟩, ⟨f0, f1, f2, f3, f4, f5⟩⟩ := six_free Z.out
      go_wp2_with fail
      have h6 := set6 Z.out (.int .i64 0) (.string ⟨#[]⟩) (.string ⟨#[]⟩) (.int .u64 0) (.int .i64 0) (.slice none 0 0)
      exact bodyPost_ret (results_pair (b := w.heap.size) (t := leaf 0 ⟨#[]⟩ ⟨#[]⟩ 0) (q := none) (cap := 0) rfl _ _ (.bool false) ⟨by rfl, by rfl⟩ h6) rfl ⟨none, 0, by rw [HR1.out]; rfl, fun u hu => (by rw [HR1.out] at hu; cases hu), set6_below hBr.out (Nat.le_refl _) _ _ _ _ _ _⟩
end Go.Proofs.YtkapejcbmonfkaaGreatDoor

namespace Go.Proofs.YtkapejcbmonfkaaGreatDoor
open Go.RowKit

theorem BindAt.take {w : World} {l : List Bnd} {q : Option Addr} (h : BindAt w l q) (k : Nat) : BindAt w (l.take k) q := fun j hj => by
  have hj' : j < l.length := by simp at hj; omega
  rw [List.getElem_take]
  exact h j hj'
end Go.Proofs.YtkapejcbmonfkaaGreatDoor

namespace Go.Proofs.YtkapejcbmonfkaaGreatDoor
open Go.RowKit

set_option maxRecDepth 100000 in
set_option maxHeartbeats 16000000 in
theorem sameBinds_any (l : List Bnd) (q1 q2 : Option Addr) (k1 k2 : Nat) (w : World) (h1 : BindAt w l q1) (h2 : BindAt w l q2) (hlm : l.length ≤ 4398046511104) :
    Calls Tryz.prog 27 #[.slice q1 l.length k1, .slice q2 l.length k2] w fun e w' => e = .returned (.bool true) ∧ Below w.heap.size w w' := by
  have H1 := hid h1
  have H2 := hid h2
  have hlm' : (l.length : Int) ≤ 4398046511104 := by omega
  have B0 := hid (Below.refl w.heap.size w)
  clear h1 h2
  go_enter Tryz.func27, Tryz.ntmps27
  go_wp2_with fail
  go_loopw [5] (fun i wr => ∃ (k : Nat), k ≤ l.length ∧ i = .int .i64 (k : Int) ∧ Hid (Below w.heap.size w wr)) (fun i _ => l.length - (intOf i).toNat)
  case atStart => exact ⟨0, by omega, rfl, B0⟩
  case round =>
    clear B0
    obtain ⟨k, hk, rfl, hBr⟩ := hrel
    by_cases hlk : k < l.length
    · have hk0 : (0 : Int) ≤ (k : Int) := by omega
      have hk1 : (k : Int) < (l.length : Int) := by omega
      obtain ⟨b, o, rfl, e1, c1, hv1, hs1, ht1⟩ := H1.out k hlk
      obtain ⟨b', o', rfl, e2, c2, hv2, hs2, ht2⟩ := H2.out k hlk
      have HV1 := hid (heap_cell_keep hBr.out hv1)
      have HV2 := hid (heap_cell_keep hBr.out hv2)
      have HS1 := hid (hs1.keep hBr.out)
      have HS2 := hid (hs2.keep hBr.out)
      have HT1 := hid (ht1.keep hBr.out)
      have HT2 := hid (ht2.keep hBr.out)
      clear hv1 hv2 hs1 hs2 ht1 ht2
      generalize l[k].1 = bv at *
      generalize l[k].2 = t1 at *
      have CS := hid (fun (W : World) (h : Below wr.heap.size wr W) => (by
        have h5 := same_any (nodes t1) t1 t1 e1 e2 c1 c2 W (Nat.le_refl _) (HT1.out.keep h) (HT2.out.keep h)
        rw [(sameT_iff t1 t1).2 rfl] at h5
        exact h5 : Calls Tryz.prog 25 #[t1.val e1 c1, t1.val e2 c2] W fun e w' => e = .returned (.bool true) ∧ Below W.heap.size W w'))
      unfold Tm.val at CS
      have SX := hid (show ∀ W : World, Below wr.heap.size wr W → W.cell? ⟨b, o + k * 7 + 1, none⟩ = some (.int .i64 t1.kind) ∧ W.cell? ⟨b, o + k * 7 + 1 + 1, none⟩ = some (.string t1.name) ∧ W.cell? ⟨b, o + k * 7 + 1 + 2, none⟩ = some (.string t1.num) ∧ W.cell? ⟨b, o + k * 7 + 1 + 3, none⟩ = some (.int .u64 t1.bits) ∧ W.cell? ⟨b, o + k * 7 + 1 + 4, none⟩ = some (.int .i64 t1.var) ∧ W.cell? ⟨b, o + k * 7 + 1 + 5, none⟩ = some (.slice e1 t1.args.length c1) ∧ W.cell? ⟨b', o' + k * 7 + 1, none⟩ = some (.int .i64 t1.kind) ∧ W.cell? ⟨b', o' + k * 7 + 1 + 1, none⟩ = some (.string t1.name) ∧ W.cell? ⟨b', o' + k * 7 + 1 + 2, none⟩ = some (.string t1.num) ∧ W.cell? ⟨b', o' + k * 7 + 1 + 3, none⟩ = some (.int .u64 t1.bits) ∧ W.cell? ⟨b', o' + k * 7 + 1 + 4, none⟩ = some (.int .i64 t1.var) ∧ W.cell? ⟨b', o' + k * 7 + 1 + 5, none⟩ = some (.slice e2 t1.args.length c2) from fun W h =>
        have m := HS1.out.keep h
        have m' := HS2.out.keep h
        ⟨m.c0, m.c1, m.c2, m.c3, m.c4, m.c5, m'.c0, m'.c1, m'.c2, m'.c3, m'.c4, m'.c5⟩)
      have BRD := hid (show Below wr.heap.size wr wr.drew from (Below.refl _ _).drew)
      go_wp2_with fail
      have sd := SX.out wr.drew BRD.out
      refine wp_region_held_drew (S := fun W => W.cell? ⟨b, o + k * 7 + 1, none⟩ = some (.int .i64 t1.kind) ∧ W.cell? ⟨b, o + k * 7 + 1 + 1, none⟩ = some (.string t1.name) ∧ W.cell? ⟨b, o + k * 7 + 1 + 2, none⟩ = some (.string t1.num) ∧ W.cell? ⟨b, o + k * 7 + 1 + 3, none⟩ = some (.int .u64 t1.bits) ∧ W.cell? ⟨b, o + k * 7 + 1 + 4, none⟩ = some (.int .i64 t1.var) ∧ W.cell? ⟨b, o + k * 7 + 1 + 5, none⟩ = some (.slice e1 t1.args.length c1) ∧ W.cell? ⟨b', o' + k * 7 + 1, none⟩ = some (.int .i64 t1.kind) ∧ W.cell? ⟨b', o' + k * 7 + 1 + 1, none⟩ = some (.string t1.name) ∧ W.cell? ⟨b', o' + k * 7 + 1 + 2, none⟩ = some (.string t1.num) ∧ W.cell? ⟨b', o' + k * 7 + 1 + 3, none⟩ = some (.int .u64 t1.bits) ∧ W.cell? ⟨b', o' + k * 7 + 1 + 4, none⟩ = some (.int .i64 t1.var) ∧ W.cell? ⟨b', o' + k * 7 + 1 + 5, none⟩ = some (.slice e2 t1.args.length c2)) (by kernel_rfl) sd (fun hHeld => ?_)
      refine' wpAnyH_take (i := 0) (v := (.slice (some ⟨b, o, none⟩) l.length k1)) rfl (by decide +kernel) (by decide +kernel) (by decide +kernel) (fun _ _ _ h => h) (Or.inl ⟨by rfl, ?hyT1⟩) (by assumption) ?restT1
      case hyT1 => (intro w5 hSw; (try dsimp only at hSw); go_simp; try with_reducible rfl)
      case' restT1 => (try simp only [Act.put, List.setIfInBounds_toArray])
      refine' wpAnyH_take (i := 1) (v := (.int .i64 (k : Int))) rfl (by decide +kernel) (by decide +kernel) (by decide +kernel) (fun _ _ _ h => h) (Or.inl ⟨by rfl, ?hyT2⟩) (by assumption) ?restT2
      case hyT2 => (intro w5 hSw; (try dsimp only at hSw); go_simp; try with_reducible rfl)
      case' restT2 => (try simp only [Act.put])
      refine' wpAnyH_take (i := 2) (v := (.pointer (some ⟨b, o + k * 7, none⟩))) rfl (by decide +kernel) (by decide +kernel) (by decide +kernel) (fun _ _ _ h => h) (Or.inl ⟨by rfl, ?hyT3⟩) (by assumption) ?restT3
      case hyT3 => (intro w5 hSw; (try dsimp only at hSw); go_simp; try with_reducible rfl)
      case' restT3 => (try simp only [Act.put])
      refine' wpAnyH_take (i := 3) (v := (.pointer (some ⟨b, o + k * 7 + 1, none⟩))) rfl (by decide +kernel) (by decide +kernel) (by decide +kernel) (fun _ _ _ h => h) (Or.inl ⟨by rfl, ?hyT4⟩) (by assumption) ?restT4
      case hyT4 => (intro w5 hSw; (try dsimp only at hSw); go_simp; try with_reducible rfl)
      case' restT4 => (try simp only [Act.put])
      refine' wpAnyH_take (i := 4) (v := (.agg #[.int .i64 t1.kind, .string t1.name, .string t1.num, .int .u64 t1.bits, .int .i64 t1.var, .slice e1 t1.args.length c1])) rfl (by decide +kernel) (by decide +kernel) (by decide +kernel) (fun _ _ _ h => h) (Or.inl ⟨by rfl, ?hyT5⟩) (by assumption) ?restT5
      case hyT5 => (intro w5 hSw; (try dsimp only at hSw); go_simp; try with_reducible rfl)
      case' restT5 => (try simp only [Act.put])
      refine' wpAnyH_take (i := 5) (v := (.slice (some ⟨b', o', none⟩) l.length k2)) rfl (by decide +kernel) (by decide +kernel) (by decide +kernel) (fun _ _ _ h => h) (Or.inl ⟨by rfl, ?hyT6⟩) (by assumption) ?restT6
      case hyT6 => (intro w5 hSw; (try dsimp only at hSw); go_simp; try with_reducible rfl)
      case' restT6 => (try simp only [Act.put])
      refine' wpAnyH_take (i := 6) (v := (.int .i64 (k : Int))) rfl (by decide +kernel) (by decide +kernel) (by decide +kernel) (fun _ _ _ h => h) (Or.inl ⟨by rfl, ?hyT7⟩) (by assumption) ?restT7
      case hyT7 => (intro w5 hSw; (try dsimp only at hSw); go_simp; try with_reducible rfl)
      case' restT7 => (try simp only [Act.put])
      refine' wpAnyH_take (i := 7) (v := (.pointer (some ⟨b', o' + k * 7, none⟩))) rfl (by decide +kernel) (by decide +kernel) (by decide +kernel) (fun _ _ _ h => h) (Or.inl ⟨by rfl, ?hyT8⟩) (by assumption) ?restT8
      case hyT8 => (intro w5 hSw; (try dsimp only at hSw); go_simp; try with_reducible rfl)
      case' restT8 => (try simp only [Act.put])
      refine' wpAnyH_take (i := 8) (v := (.pointer (some ⟨b', o' + k * 7 + 1, none⟩))) rfl (by decide +kernel) (by decide +kernel) (by decide +kernel) (fun _ _ _ h => h) (Or.inl ⟨by rfl, ?hyT9⟩) (by assumption) ?restT9
      case hyT9 => (intro w5 hSw; (try dsimp only at hSw); go_simp; try with_reducible rfl)
      case' restT9 => (try simp only [Act.put])
      refine' wpAnyH_take (i := 9) (v := (.agg #[.int .i64 t1.kind, .string t1.name, .string t1.num, .int .u64 t1.bits, .int .i64 t1.var, .slice e2 t1.args.length c2])) rfl (by decide +kernel) (by decide +kernel) (by decide +kernel) (fun _ _ _ h => h) (Or.inl ⟨by rfl, ?hyT10⟩) (by assumption) ?restT10
      case hyT10 => (intro w5 hSw; (try dsimp only at hSw); go_simp; try with_reducible rfl)
      case' restT10 => (try simp only [Act.put])
      refine wpAnyH_ready (rs := [10]) (by decide +kernel) (by simp) ?_
      refine AllReadyH.cons rfl (fun K hK => ?_) AllReadyH.nil
      go_simp
      (with_reducible refine (CS.out wr.drew BRD.out).mono ?_)
      rintro e w2 ⟨rfl, hb⟩
      have BR2 := hid (show Below wr.heap.size wr w2 from BRD.out.trans (hb.mono BRD.out.size))
      clear hb
      refine hK.out _ _ (SX.out w2 BR2.out) (fun hHeld => ?_)
      clear hK K
      (try simp only [Act.put, List.setIfInBounds_toArray, List.set_cons_zero, List.set_cons_succ])
      refine' wpAnyH_take (i := 11) (v := (.bool true)) rfl (by decide +kernel) (by decide +kernel) (by decide +kernel) (fun _ _ _ h => h) (Or.inl ⟨by rfl, ?hyT11⟩) (by assumption) ?restT11
      case hyT11 => (intro w5 hSw; (try dsimp only at hSw); go_simp; try with_reducible rfl)
      case' restT11 => (try simp only [Act.put, List.setIfInBounds_toArray])
      refine wpAnyH_done (by kernel_rfl) ?_ _
      (try go_simp)
      (try simp only [Act.put, List.setIfInBounds_toArray, List.set_cons_zero, List.set_cons_succ])
      clear sd
      have y0 := heap_cell_keep BR2.out HV1.out
      have y1 := heap_cell_keep BR2.out HV2.out
      have BW2 := hid (hBr.out.trans (BR2.out.mono hBr.out.size))
      have KP := hid (fun (n : Nat) => BW2.out.trans ((drewN_below w2 n).mono BW2.out.size))
      go_wp2_with fail
      go_quiet (fail)
      go_wp2_with fail
      go_roundw
      case rel => exact ⟨k + 1, by omega, by go_num, hid (KP.out _)⟩
      case measure => simp [intOf]; omega
    · obtain rfl : k = l.length := by omega
      go_wp2_with fail
      go_ret
      exact ⟨rfl, hBr.out⟩
end Go.Proofs.YtkapejcbmonfkaaGreatDoor
