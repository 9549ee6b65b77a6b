/- For every input the law TermPuts answers true and leaves its arguments alone: no condition on the arguments; the package-level tables that its row lists are tied to the program's text by the given tie. -/
import Derived.Test.YtkapejcbmonfkaaGreatDoorT83m
import Derived.Test.YtkapejcbmonfkaaGreatDoorT84m
import Derived.Test.YtkapejcbmonfkaaGreatDoorT56m
import Derived.Test.YtkapejcbmonfkaaGreatDoorT36m
import Derived.Test.YtkapejcbmonfkaaGreatDoorT67m
import Derived.Deep.DeepWitnessRowRef
namespace Go.Proofs.YtkapejcbmonfkaaGreatDoor
open Go.RowKit

set_option maxRecDepth 100000 in
set_option maxHeartbeats 16000000 in
theorem sameBinds_any (l : List Bnd) (q1 q2 : Option Addr) (k1 k2 : Nat) (w : World) (h1 : BindAt w l q1) (h2 : BindAt w l q2) (hlm : l.length ≤ 4398046511104) :
    Calls Tryz.prog 27 #[.slice q1 l.length k1, .slice q2 l.length k2] w fun e w' => e = .returned (.bool true) ∧ Below w.heap.size w w' := by
  have H1 := hid h1
  have H2 := hid h2
  have hlm' : (l.length : Int) ≤ 4398046511104 := by omega
  have B0 := hid (Below.refl w.heap.size w)
  clear h1 h2
  go_enter Tryz.func27, Tryz.ntmps27
  go_wp2_with fail
  go_loopw [5] (fun i wr => ∃ (k : Nat), k ≤ l.length ∧ i = .int .i64 (k : Int) ∧ Hid (Below w.heap.size w wr)) (fun i _ => l.length - (intOf i).toNat)
  case atStart => exact ⟨0, by omega, rfl, B0⟩
  case round =>
    clear B0
    obtain ⟨k, hk, rfl, hBr⟩ := hrel
    by_cases hlk : k < l.length
    · have hk0 : (0 : Int) ≤ (k : Int) := by omega
      have hk1 : (k : Int) < (l.length : Int) := by omega
      obtain ⟨b, o, rfl, e1, c1, hv1, hs1, ht1⟩ := H1.out k hlk
      obtain ⟨b', o', rfl, e2, c2, hv2, hs2, ht2⟩ := H2.out k hlk
      have HV1 := hid (heap_cell_keep hBr.out hv1)
      have HV2 := hid (heap_cell_keep hBr.out hv2)
      have HS1 := hid (hs1.keep hBr.out)
      have HS2 := hid (hs2.keep hBr.out)
      have HT1 := hid (ht1.keep hBr.out)
      have HT2 := hid (ht2.keep hBr.out)
      clear hv1 hv2 hs1 hs2 ht1 ht2
      generalize l[k].1 = bv at *
      generalize l[k].2 = t1 at *
      have CS := hid (fun (W : World) (h : Below wr.heap.size wr W) => (by
        have h5 := same_any (nodes t1) t1 t1 e1 e2 c1 c2 W (Nat.le_refl _) (HT1.out.keep h) (HT2.out.keep h)
        rw [(sameT_iff t1 t1).2 rfl] at h5
        exact h5 : Calls Tryz.prog 25 #[t1.val e1 c1, t1.val e2 c2] W fun e w' => e = .returned (.bool true) ∧ Below W.heap.size W w'))
      unfold Tm.val at CS
      have SX := hid (show ∀ W : World, Below wr.heap.size wr W → W.cell? ⟨b, o + k * 7 + 1, none⟩ = some (.int .i64 t1.kind) ∧ W.cell? ⟨b, o + k * 7 + 1 + 1, none⟩ = some (.string t1.name) ∧ W.cell? ⟨b, o + k * 7 + 1 + 2, none⟩ = some (.string t1.num) ∧ W.cell? ⟨b, o + k * 7 + 1 + 3, none⟩ = some (.int .u64 t1.bits) ∧ W.cell? ⟨b, o + k * 7 + 1 + 4, none⟩ = some (.int .i64 t1.var) ∧ W.cell? ⟨b, o + k * 7 + 1 + 5, none⟩ = some (.slice e1 t1.args.length c1) ∧ W.cell? ⟨b', o' + k * 7 + 1, none⟩ = some (.int .i64 t1.kind) ∧ W.cell? ⟨b', o' + k * 7 + 1 + 1, none⟩ = some (.string t1.name) ∧ W.cell? ⟨b', o' + k * 7 + 1 + 2, none⟩ = some (.string t1.num) ∧ W.cell? ⟨b', o' + k * 7 + 1 + 3, none⟩ = some (.int .u64 t1.bits) ∧ W.cell? ⟨b', o' + k * 7 + 1 + 4, none⟩ = some (.int .i64 t1.var) ∧ W.cell? ⟨b', o' + k * 7 + 1 + 5, none⟩ = some (.slice e2 t1.args.length c2) from fun W h =>
        have m := HS1.out.keep h
        have m' := HS2.out.keep h
        ⟨m.c0, m.c1, m.c2, m.c3, m.c4, m.c5, m'.c0, m'.c1, m'.c2, m'.c3, m'.c4, m'.c5⟩)
      have BRD := hid (show Below wr.heap.size wr wr.drew from (Below.refl _ _).drew)
      go_wp2_with fail
      have sd := SX.out wr.drew BRD.out
      refine wp_region_held_drew (S := fun W => W.cell? ⟨b, o + k * 7 + 1, none⟩ = some (.int .i64 t1.kind) ∧ W.cell? ⟨b, o + k * 7 + 1 + 1, none⟩ = some (.string t1.name) ∧ W.cell? ⟨b, o + k * 7 + 1 + 2, none⟩ = some (.string t1.num) ∧ W.cell? ⟨b, o + k * 7 + 1 + 3, none⟩ = some (.int .u64 t1.bits) ∧ W.cell? ⟨b, o + k * 7 + 1 + 4, none⟩ = some (.int .i64 t1.var) ∧ W.cell? ⟨b, o + k * 7 + 1 + 5, none⟩ = some (.slice e1 t1.args.length c1) ∧ W.cell? ⟨b', o' + k * 7 + 1, none⟩ = some (.int .i64 t1.kind) ∧ W.cell? ⟨b', o' + k * 7 + 1 + 1, none⟩ = some (.string t1.name) ∧ W.cell? ⟨b', o' + k * 7 + 1 + 2, none⟩ = some (.string t1.num) ∧ W.cell? ⟨b', o' + k * 7 + 1 + 3, none⟩ = some (.int .u64 t1.bits) ∧ W.cell? ⟨b', o' + k * 7 + 1 + 4, none⟩ = some (.int .i64 t1.var) ∧ W.cell? ⟨b', o' + k * 7 + 1 + 5, none⟩ = some (.slice e2 t1.args.length c2)) (by kernel_rfl) sd (fun hHeld => ?_)
      refine' wpAnyH_take (i := 0) (v := (.slice (some ⟨b, o, none⟩) l.length k1)) rfl (by decide +kernel) (by decide +kernel) (by decide +kernel) (fun _ _ _ h => h) (Or.inl ⟨by rfl, ?hyT1⟩) (by assumption) ?restT1
      case hyT1 => (intro w5 hSw; (try dsimp only at hSw); go_simp; try with_reducible rfl)
      case' restT1 => (try simp only [Act.put, List.setIfInBounds_toArray, List.set_cons_zero, List.set_cons_succ])
      refine' wpAnyH_take (i := 1) (v := (.int .i64 (k : Int))) rfl (by decide +kernel) (by decide +kernel) (by decide +kernel) (fun _ _ _ h => h) (Or.inl ⟨by rfl, ?hyT2⟩) (by assumption) ?restT2
      case hyT2 => (intro w5 hSw; (try dsimp only at hSw); go_simp; try with_reducible rfl)
      case' restT2 => (try simp only [Act.put, List.setIfInBounds_toArray, List.set_cons_zero, List.set_cons_succ])
      refine' wpAnyH_take (i := 2) (v := (.pointer (some ⟨b, o + k * 7, none⟩))) rfl (by decide +kernel) (by decide +kernel) (by decide +kernel) (fun _ _ _ h => h) (Or.inl ⟨by rfl, ?hyT3⟩) (by assumption) ?restT3
      case hyT3 => (intro w5 hSw; (try dsimp only at hSw); go_simp; try with_reducible rfl)
      case' restT3 => (try simp only [Act.put, List.setIfInBounds_toArray, List.set_cons_zero, List.set_cons_succ])
      refine' wpAnyH_take (i := 3) (v := (.pointer (some ⟨b, o + k * 7 + 1, none⟩))) rfl (by decide +kernel) (by decide +kernel) (by decide +kernel) (fun _ _ _ h => h) (Or.inl ⟨by rfl, ?hyT4⟩) (by assumption) ?restT4
      case hyT4 => (intro w5 hSw; (try dsimp only at hSw); go_simp; try with_reducible rfl)
      case' restT4 => (try simp only [Act.put, List.setIfInBounds_toArray, List.set_cons_zero, List.set_cons_succ])
      refine' wpAnyH_take (i := 4) (v := (.agg #[.int .i64 t1.kind, .string t1.name, .string t1.num, .int .u64 t1.bits, .int .i64 t1.var, .slice e1 t1.args.length c1])) rfl (by decide +kernel) (by decide +kernel) (by decide +kernel) (fun _ _ _ h => h) (Or.inl ⟨by rfl, ?hyT5⟩) (by assumption) ?restT5
      case hyT5 => (intro w5 hSw; (try dsimp only at hSw); go_simp; try with_reducible rfl)
      case' restT5 => (try simp only [Act.put, List.setIfInBounds_toArray, List.set_cons_zero, List.set_cons_succ])
      refine' wpAnyH_take (i := 5) (v := (.slice (some ⟨b', o', none⟩) l.length k2)) rfl (by decide +kernel) (by decide +kernel) (by decide +kernel) (fun _ _ _ h => h) (Or.inl ⟨by rfl, ?hyT6⟩) (by assumption) ?restT6
      case hyT6 => (intro w5 hSw; (try dsimp only at hSw); go_simp; try with_reducible rfl)
      case' restT6 => (try simp only [Act.put, List.setIfInBounds_toArray, List.set_cons_zero, List.set_cons_succ])
      refine' wpAnyH_take (i := 6) (v := (.int .i64 (k : Int))) rfl (by decide +kernel) (by decide +kernel) (by decide +kernel) (fun _ _ _ h => h) (Or.inl ⟨by rfl, ?hyT7⟩) (by assumption) ?restT7
      case hyT7 => (intro w5 hSw; (try dsimp only at hSw); go_simp; try with_reducible rfl)
      case' restT7 => (try simp only [Act.put, List.setIfInBounds_toArray, List.set_cons_zero, List.set_cons_succ])
      refine' wpAnyH_take (i := 7) (v := (.pointer (some ⟨b', o' + k * 7, none⟩))) rfl (by decide +kernel) (by decide +kernel) (by decide +kernel) (fun _ _ _ h => h) (Or.inl ⟨by rfl, ?hyT8⟩) (by assumption) ?restT8
      case hyT8 => (intro w5 hSw; (try dsimp only at hSw); go_simp; try with_reducible rfl)
      case' restT8 => (try simp only [Act.put, List.setIfInBounds_toArray, List.set_cons_zero, List.set_cons_succ])
      refine' wpAnyH_take (i := 8) (v := (.pointer (some ⟨b', o' + k * 7 + 1, none⟩))) rfl (by decide +kernel) (by decide +kernel) (by decide +kernel) (fun _ _ _ h => h) (Or.inl ⟨by rfl, ?hyT9⟩) (by assumption) ?restT9
      case hyT9 => (intro w5 hSw; (try dsimp only at hSw); go_simp; try with_reducible rfl)
      case' restT9 => (try simp only [Act.put, List.setIfInBounds_toArray, List.set_cons_zero, List.set_cons_succ])
      refine' wpAnyH_take (i := 9) (v := (.agg #[.int .i64 t1.kind, .string t1.name, .string t1.num, .int .u64 t1.bits, .int .i64 t1.var, .slice e2 t1.args.length c2])) rfl (by decide +kernel) (by decide +kernel) (by decide +kernel) (fun _ _ _ h => h) (Or.inl ⟨by rfl, ?hyT10⟩) (by assumption) ?restT10
      case hyT10 => (intro w5 hSw; (try dsimp only at hSw); go_simp; try with_reducible rfl)
      case' restT10 => (try simp only [Act.put, List.setIfInBounds_toArray, List.set_cons_zero, List.set_cons_succ])
      refine wpAnyH_ready (rs := [10]) (by decide +kernel) (by simp) ?_
      refine AllReadyH.cons rfl (fun K hK => ?_) AllReadyH.nil
      go_simp
      (with_reducible refine (CS.out wr.drew BRD.out).mono ?_)
      rintro e w2 ⟨rfl, hb⟩
      have BR2 := hid (show Below wr.heap.size wr w2 from BRD.out.trans (hb.mono BRD.out.size))
      clear hb
      refine hK.out _ _ (SX.out w2 BR2.out) (fun hHeld => ?_)
      clear hK K
      (try simp only [Act.put, List.setIfInBounds_toArray, List.set_cons_zero, List.set_cons_succ])
      refine' wpAnyH_take (i := 11) (v := (.bool true)) rfl (by decide +kernel) (by decide +kernel) (by decide +kernel) (fun _ _ _ h => h) (Or.inl ⟨by rfl, ?hyT11⟩) (by assumption) ?restT11
      case hyT11 => (intro w5 hSw; (try dsimp only at hSw); go_simp; try with_reducible rfl)
      case' restT11 => (try simp only [Act.put, List.setIfInBounds_toArray, List.set_cons_zero, List.set_cons_succ])
      refine wpAnyH_done (by kernel_rfl) ?_ _
      (try go_simp)
      (try simp only [Act.put, List.setIfInBounds_toArray, List.set_cons_zero, List.set_cons_succ])
      clear sd
      have y0 := heap_cell_keep BR2.out HV1.out
      have y1 := heap_cell_keep BR2.out HV2.out
      have BW2 := hid (hBr.out.trans (BR2.out.mono hBr.out.size))
      have KP := hid (fun (n : Nat) => BW2.out.trans ((drewN_below w2 n).mono BW2.out.size))
      go_wp2_with fail
      go_quiet (fail)
      go_wp2_with fail
      go_roundw
      case rel => exact ⟨k + 1, by omega, by go_num, hid (KP.out _)⟩
      case measure => simp [intOf]; omega
    · obtain rfl : k = l.length := by omega
      go_wp2_with fail
      go_ret
      exact ⟨rfl, hBr.out⟩
end Go.Proofs.YtkapejcbmonfkaaGreatDoor

namespace Go.Proofs.YtkapejcbmonfkaaGreatDoor
open Go.RowKit

theorem infoBind : (Tryz.prog.info? 47).map (fun i => (i.zero, i.size, i.bytes)) = some (some (.agg #[.int .i64 0, .int .i64 0, .string ⟨#[]⟩, .string ⟨#[]⟩, .int .u64 0, .int .i64 0, .slice none 0 0]), 7, 88) := by kernel_rfl
theorem chg_low {w w1 w2 : World} {S : List Nat} (h : Below w.heap.size w w1) (hc : Chg S w1 w2) (hs : ∀ x ∈ S, w.heap.size ≤ x) : Below w.heap.size w w2 :=
  ⟨hc.os.trans h.os, hc.tape.trans h.tape, hc.output.trans h.output, Nat.le_trans h.size hc.size, fun k hk => (hc.same k (Nat.lt_of_lt_of_le hk h.size) (fun e => by have := hs k e; omega)).trans (h.block k hk)⟩
theorem sameT_refl (t : Tm) : sameT t t = true := (sameT_iff t t).2 rfl
theorem cellsB_one (x : Int × Tm × Option Addr × Nat) : ∀ u ∈ cellsB x, u.oneCell' = true := by
  intro u hu
  rcases List.mem_cons.1 hu with rfl | hu
  · rfl
  · exact cellsT_one _ u hu
/-- What Put answers of any term. -/
def putAll (l : List Bnd) (t : Tm) : Tm × Int := if checkErr vName numOk bitsOk t ≠ 0 then (leaf 0 ⟨#[]⟩ ⟨#[]⟩ 0, checkErr vName numOk bitsOk t) else putD l t
theorem stand_cp {l : List Bnd} (hD : ∀ k (h : k < l.length), AllT DomA l[k].2) (h : standE l [] = 0) : ∀ k (h : k < l.length), AllT CpOk l[k].2 := fun k hk =>
  (Valid.good ⟨hD k hk, ((standE_zero h).1 l[k] (List.getElem_mem hk)).2.2⟩).cp
theorem putAll_any (t : Tm) (p : Option Addr) (cp : Nat) (l : List Bnd) (q : Option Addr) (cl : Nat) (w : World) (ht : TmAt w t p) (hl : BindAt w l q) (hX : Utf w) (hDt : AllT DomA t) (hD : ∀ k (h : k < l.length), AllT DomA l[k].2) (hwf : ∀ k (h : k < l.length), (Lit.int .i64 l[k].1).wf = true) (hlm : l.length ≤ 4398046511104) :
    Calls Tryz.prog 23 #[t.val p cp, .slice q l.length cl] w fun x w' => ∃ q2 c2 S, x = .returned (.tuple #[(putAll l t).1.val q2 c2, .int .i64 (putAll l t).2]) ∧ MineT w' (putAll l t).1 q2 c2 S ∧ (∀ k ∈ S, w.heap.size ≤ k) ∧ Below w.heap.size w w' := by
  by_cases h : checkErr vName numOk bitsOk t = 0
  · have e : putAll l t = putD l t := by unfold putAll; rw [if_neg (by simp [h])]
    rw [e]
    exact put_any t p cp l q cl w ht hl hX hDt hD hwf hlm h (Valid.good ⟨hDt, h⟩).cp (stand_cp hD)
  · have e : putAll l t = (leaf 0 ⟨#[]⟩ ⟨#[]⟩ 0, checkErr vName numOk bitsOk t) := by unfold putAll; rw [if_pos h]
    rw [e]
    exact (put_bad1 t p cp l q cl w ht hl hX hDt hD hwf hlm h).mono fun x w' ⟨a, b⟩ => ⟨none, 0, [], a, leaf_mine _ _ _ _ _, by simp, b⟩
theorem putRAll_any (t : Tm) (p : Option Addr) (cp : Nat) (l : List Bnd) (q : Option Addr) (cl : Nat) (w : World) (ht : TmAt w t p) (hl : BindAt w l q) (hDt : AllT DomA t) (hD : ∀ k (h : k < l.length), AllT DomA l[k].2) (hlm : l.length ≤ 4398046511104) (hlc : l.length ≤ cl) :
    Calls Tryz.prog 24 #[t.val p cp, .slice q l.length cl] w fun x w' => ∃ q2 c2 S, x = .returned (.tuple #[(putAll l t).1.val q2 c2, .int .i64 (putAll l t).2]) ∧ WeakT w' (putAll l t).1 q2 c2 S ∧ (∀ k ∈ S, w.heap.size ≤ k) ∧ Below w.heap.size w w' := by
  by_cases h : checkErr vName numOk bitsOk t = 0
  · have e : putAll l t = putD l t := by unfold putAll; rw [if_neg (by simp [h])]
    rw [e]
    exact putR_any t p cp l q cl w ht hl hDt hD hlm hlc h (Valid.good ⟨hDt, h⟩).cp (stand_cp hD)
  · have e : putAll l t = (leaf 0 ⟨#[]⟩ ⟨#[]⟩ 0, checkErr vName numOk bitsOk t) := by unfold putAll; rw [if_pos h]
    rw [e]
    exact (putR_bad1 t p cp l q cl w ht hDt hlm h).mono fun x w' ⟨a, b⟩ => ⟨none, 0, [], a, (leaf_mine _ _ _ _ _).weak, by simp, b⟩
set_option maxRecDepth 100000 in
set_option maxHeartbeats 64000000 in
theorem puts_yes (t : Tm) (l : List Bnd) (pt pl : Option Addr) (ct cl : Nat) (w : World) (hU : Utf w) (ht : TmAt w t pt) (hl : BindAt w l pl) (hDt : AllT DomA t) (hD : ∀ k (h : k < l.length), AllT DomA l[k].2) (hC : ∀ k (h : k < l.length), AllT CapOk l[k].2) (hwf : ∀ k (h : k < l.length), (Lit.int .i64 l[k].1).wf = true) (hlc : l.length ≤ cl) (hlb : l.length ≤ 1599289640354) :
    Calls Tryz.prog 5 #[t.val pt ct, .slice pl l.length cl] w fun x w' => x = .returned (.bool true) ∧ Below w.heap.size w w' := by
  obtain ⟨W0, hW0⟩ : ∃ W0, W0 = w.alloc (.cells #[.int .i64 t.kind, .string t.name, .string t.num, .int .u64 t.bits, .int .i64 t.var, .slice pt t.args.length ct] 25) := ⟨_, rfl⟩
  have BW := hid (show Below w.heap.size w W0 by rw [hW0]; exact (Below.refl w.heap.size w).alloc (Nat.le_refl _) _)
  have PT := hid (show W0.heap[w.heap.size]? = some (tobj t pt ct) by rw [hW0]; exact heap_alloc_new w _)
  have AWK := hid (awake_true W0 (hU.keep BW.out))
  obtain ⟨y, hy⟩ : ∃ y, y = (putAll l t).1 := ⟨_, rfl⟩
  obtain ⟨u, hu⟩ : ∃ u, u = (putAll l t).2 := ⟨_, rfl⟩
  have CP := hid (show ∀ W q c, Below w.heap.size w W → BindAt W l q → Calls Tryz.prog 23 #[.agg #[.int .i64 t.kind, .string t.name, .string t.num, .int .u64 t.bits, .int .i64 t.var, .slice pt t.args.length ct], .slice q l.length c] W fun x w' => ∃ q2 c2 S, x = .returned (.tuple #[.agg #[.int .i64 y.kind, .string y.name, .string y.num, .int .u64 y.bits, .int .i64 y.var, .slice q2 y.args.length c2], .int .i64 u]) ∧ MineT w' y q2 c2 S ∧ (∀ k ∈ S, W.heap.size ≤ k) ∧ Below W.heap.size W w' from fun W q c h hb => by rw [hy, hu]; exact putAll_any t pt ct l q c W (ht.keep h) hb (hU.keep h) hDt hD hwf (by omega))
  have CR := hid (show ∀ W, Below w.heap.size w W → Calls Tryz.prog 24 #[.agg #[.int .i64 t.kind, .string t.name, .string t.num, .int .u64 t.bits, .int .i64 t.var, .slice pt t.args.length ct], .slice pl l.length cl] W fun x w' => ∃ q2 c2 S, x = .returned (.tuple #[.agg #[.int .i64 y.kind, .string y.name, .string y.num, .int .u64 y.bits, .int .i64 y.var, .slice q2 y.args.length c2], .int .i64 u]) ∧ WeakT w' y q2 c2 S ∧ (∀ k ∈ S, W.heap.size ≤ k) ∧ Below W.heap.size W w' from fun W h => by rw [hy, hu]; exact putRAll_any t pt ct l pl cl W (ht.keep h) (hl.keep h) hDt hD (by omega) hlc)
  have CO := hid (fun (k : Nat) (h : k < l.length) (W : World) (p : Option Addr) (c : Nat) (hh : TmAt W l[k].2 p) => ownW_any (nodes l[k].2) l[k].2 p c W (Nat.le_refl _) hh (hC k h))
  have CS := hid (show ∀ (x : Tm) W p q c d, TmAt W x p → TmAt W x q → Calls Tryz.prog 25 #[.agg #[.int .i64 x.kind, .string x.name, .string x.num, .int .u64 x.bits, .int .i64 x.var, .slice p x.args.length c], .agg #[.int .i64 x.kind, .string x.name, .string x.num, .int .u64 x.bits, .int .i64 x.var, .slice q x.args.length d]] W fun e w' => e = .returned (.bool true) ∧ Below W.heap.size W w' from fun x W p q c d h1 h2 => by
    have h := same_any (nodes x) x x p q c d W (Nat.le_refl _) h1 h2
    rwa [sameT_refl] at h)
  have CM := hid (show ∀ (x : Tm) W p c S, MineT W x p c S → Calls Tryz.prog 26 #[.agg #[.int .i64 x.kind, .string x.name, .string x.num, .int .u64 x.bits, .int .i64 x.var, .slice p x.args.length c], .string ⟨#[109, 105, 110, 101]⟩] W fun e w' => (∃ v, e = .returned v) ∧ Chg S W w' from fun x W p c S h => marked_any (nodes x) x p c S ⟨#[109, 105, 110, 101]⟩ W (Nat.le_refl _) h)
  have CB := hid (fun (W : World) (q1 q2 : Option Addr) (k1 k2 : Nat) (h1 : BindAt W l q1) (h2 : BindAt W l q2) => sameBinds_any l q1 q2 k1 k2 W h1 h2 (by omega))
  have HL := hid hl
  have hlm' : (l.length : Int) ≤ 4398046511104 := by omega
  have hlE := ht.len
  unfold maxLen at hlE
  have hW0' : W0 = w.alloc (.cells #[.int .i64 t.kind, .string t.name, .string t.num, .int .u64 t.bits, .int .i64 t.var, .slice pt t.args.length ct] 25) := hW0
  unfold Tm.val
  clear hU hl ht hDt hD hC hwf hlc hy hu hW0
  go_enter Tryz.func5, Tryz.ntmps5
  go_upto_region 2 with (first
    | (go_at_call 10; rw [← hW0']; (with_reducible refine AWK.out.mono ?_); rintro x w1 ⟨rfl, hb1⟩; replace PT := hid (obj_keep PT.out hb1); replace BW := hid (BW.out.trans (Below.mono hb1 BW.out.size)); clear hb1 hW0' AWK)
    | fail)
  go_wp2_with fail
  go_loopw [6, 7] (fun s i wr => ∃ (k : Nat) (L : RowB) (S : List Nat) (q : Option Addr) (c : Nat), k ≤ l.length ∧ s = .slice q k c ∧ i = .int .i64 (k : Int) ∧ Hid (wr.heap[w.heap.size]? = some (tobj t pt ct)) ∧ Hid (BindL wr (w.heap.size + 1) q k c L S) ∧ Hid (L.map (fun x => (x.1, x.2.1)) = l.take k) ∧ Hid (Below w.heap.size w wr)) (fun _ i _ => l.length - (intOf i).toNat)
  case atStart => exact ⟨0, [], [], none, 0, by omega, rfl, rfl, PT, hid (BindL.nil _ _), hid (by simp), BW⟩
  case round =>
    clear PT BW
    obtain ⟨k, L, S, q, c, hk, rfl, rfl, PT, BL, HLM, hBr⟩ := hrel
    by_cases hlk : k < l.length
    · clear CP CR CS CM CB
      have hk0 : (0 : Int) ≤ (k : Int) := by omega
      have hk1 : (k : Int) < (l.length : Int) := by omega
      obtain ⟨b, o, rfl, e1, c1, hv1, hs1, ht1⟩ := HL.out k hlk
      have HCALL := hid (fun (W : World) (h : Below wr.heap.size wr W) => CO.out k hlk W e1 c1 (ht1.keep (hBr.out.trans (h.mono hBr.out.size))))
      have HTK := hid (show l.take (k + 1) = l.take k ++ [(l[k].1, l[k].2)] from (List.take_append_getElem hlk).symm)
      clear ht1 CO HL
      generalize l[k].1 = bv at *
      generalize l[k].2 = t1 at *
      unfold Tm.val at HCALL
      have SY := hid (show ∀ W : World, Below w.heap.size w W → W.cell? ⟨b, o + k * 7, none⟩ = some (.int .i64 bv) ∧ W.cell? ⟨b, o + k * 7 + 1, none⟩ = some (.int .i64 t1.kind) ∧ W.cell? ⟨b, o + k * 7 + 1 + 1, none⟩ = some (.string t1.name) ∧ W.cell? ⟨b, o + k * 7 + 1 + 2, none⟩ = some (.string t1.num) ∧ W.cell? ⟨b, o + k * 7 + 1 + 3, none⟩ = some (.int .u64 t1.bits) ∧ W.cell? ⟨b, o + k * 7 + 1 + 4, none⟩ = some (.int .i64 t1.var) ∧ W.cell? ⟨b, o + k * 7 + 1 + 5, none⟩ = some (.slice e1 t1.args.length c1) from fun W h =>
        have m := hs1.keep h
        ⟨heap_cell_keep h hv1, m.c0, m.c1, m.c2, m.c3, m.c4, m.c5⟩)
      have SX := hid (fun (W : World) (h : Below wr.heap.size wr W) => SY.out W (hBr.out.trans (h.mono hBr.out.size)))
      have BRD := hid (show Below wr.heap.size wr wr.drew from (Below.refl _ _).drew)
      clear hv1 hs1
      go_wp2_with fail
      have sd := SX.out wr.drew BRD.out
      refine wp_region_held_drew (S := fun W => W.cell? ⟨b, o + k * 7, none⟩ = some (.int .i64 bv) ∧ W.cell? ⟨b, o + k * 7 + 1, none⟩ = some (.int .i64 t1.kind) ∧ W.cell? ⟨b, o + k * 7 + 1 + 1, none⟩ = some (.string t1.name) ∧ W.cell? ⟨b, o + k * 7 + 1 + 2, none⟩ = some (.string t1.num) ∧ W.cell? ⟨b, o + k * 7 + 1 + 3, none⟩ = some (.int .u64 t1.bits) ∧ W.cell? ⟨b, o + k * 7 + 1 + 4, none⟩ = some (.int .i64 t1.var) ∧ W.cell? ⟨b, o + k * 7 + 1 + 5, none⟩ = some (.slice e1 t1.args.length c1)) (by kernel_rfl) sd (fun hHeld => ?_)
      refine' wpAnyH_take (i := 0) (v := (.slice q k c)) rfl (by decide +kernel) (by decide +kernel) (by decide +kernel) (fun _ _ _ h => h) (Or.inl ⟨by rfl, ?hyT1⟩) (by assumption) ?restT1
      case hyT1 => (intro w5 hSw; (try dsimp only at hSw); go_simp; try with_reducible rfl)
      case' restT1 => (try simp only [Act.put, List.setIfInBounds_toArray, List.set_cons_zero, List.set_cons_succ])
      refine' wpAnyH_take (i := 1) (v := (.slice (some ⟨b, o, none⟩) l.length cl)) rfl (by decide +kernel) (by decide +kernel) (by decide +kernel) (fun _ _ _ h => h) (Or.inl ⟨by rfl, ?hyT2⟩) (by assumption) ?restT2
      case hyT2 => (intro w5 hSw; (try dsimp only at hSw); go_simp; try with_reducible rfl)
      case' restT2 => (try simp only [Act.put, List.setIfInBounds_toArray, List.set_cons_zero, List.set_cons_succ])
      refine' wpAnyH_take (i := 2) (v := (.int .i64 (k : Int))) rfl (by decide +kernel) (by decide +kernel) (by decide +kernel) (fun _ _ _ h => h) (Or.inl ⟨by rfl, ?hyT3⟩) (by assumption) ?restT3
      case hyT3 => (intro w5 hSw; (try dsimp only at hSw); go_simp; try with_reducible rfl)
      case' restT3 => (try simp only [Act.put, List.setIfInBounds_toArray, List.set_cons_zero, List.set_cons_succ])
      refine' wpAnyH_take (i := 3) (v := (.pointer (some ⟨b, o + k * 7, none⟩))) rfl (by decide +kernel) (by decide +kernel) (by decide +kernel) (fun _ _ _ h => h) (Or.inl ⟨by rfl, ?hyT4⟩) (by assumption) ?restT4
      case hyT4 => (intro w5 hSw; (try dsimp only at hSw); go_simp; try with_reducible rfl)
      case' restT4 => (try simp only [Act.put, List.setIfInBounds_toArray, List.set_cons_zero, List.set_cons_succ])
      refine' wpAnyH_take (i := 4) (v := (.pointer (some ⟨b, o + k * 7, none⟩))) rfl (by decide +kernel) (by decide +kernel) (by decide +kernel) (fun _ _ _ h => h) (Or.inl ⟨by rfl, ?hyT5⟩) (by assumption) ?restT5
      case hyT5 => (intro w5 hSw; (try dsimp only at hSw); go_simp; try with_reducible rfl)
      case' restT5 => (try simp only [Act.put, List.setIfInBounds_toArray, List.set_cons_zero, List.set_cons_succ])
      refine' wpAnyH_take (i := 5) (v := (.int .i64 bv)) rfl (by decide +kernel) (by decide +kernel) (by decide +kernel) (fun _ _ _ h => h) (Or.inl ⟨by rfl, ?hyT6⟩) (by assumption) ?restT6
      case hyT6 => (intro w5 hSw; (try dsimp only at hSw); go_simp; try with_reducible rfl)
      case' restT6 => (try simp only [Act.put, List.setIfInBounds_toArray, List.set_cons_zero, List.set_cons_succ])
      refine' wpAnyH_take (i := 6) (v := (.slice (some ⟨b, o, none⟩) l.length cl)) rfl (by decide +kernel) (by decide +kernel) (by decide +kernel) (fun _ _ _ h => h) (Or.inl ⟨by rfl, ?hyT7⟩) (by assumption) ?restT7
      case hyT7 => (intro w5 hSw; (try dsimp only at hSw); go_simp; try with_reducible rfl)
      case' restT7 => (try simp only [Act.put, List.setIfInBounds_toArray, List.set_cons_zero, List.set_cons_succ])
      refine' wpAnyH_take (i := 7) (v := (.int .i64 (k : Int))) rfl (by decide +kernel) (by decide +kernel) (by decide +kernel) (fun _ _ _ h => h) (Or.inl ⟨by rfl, ?hyT8⟩) (by assumption) ?restT8
      case hyT8 => (intro w5 hSw; (try dsimp only at hSw); go_simp; try with_reducible rfl)
      case' restT8 => (try simp only [Act.put, List.setIfInBounds_toArray, List.set_cons_zero, List.set_cons_succ])
      refine' wpAnyH_take (i := 8) (v := (.pointer (some ⟨b, o + k * 7, none⟩))) rfl (by decide +kernel) (by decide +kernel) (by decide +kernel) (fun _ _ _ h => h) (Or.inl ⟨by rfl, ?hyT9⟩) (by assumption) ?restT9
      case hyT9 => (intro w5 hSw; (try dsimp only at hSw); go_simp; try with_reducible rfl)
      case' restT9 => (try simp only [Act.put, List.setIfInBounds_toArray, List.set_cons_zero, List.set_cons_succ])
      refine' wpAnyH_take (i := 9) (v := (.pointer (some ⟨b, o + k * 7 + 1, none⟩))) rfl (by decide +kernel) (by decide +kernel) (by decide +kernel) (fun _ _ _ h => h) (Or.inl ⟨by rfl, ?hyT10⟩) (by assumption) ?restT10
      case hyT10 => (intro w5 hSw; (try dsimp only at hSw); go_simp; try with_reducible rfl)
      case' restT10 => (try simp only [Act.put, List.setIfInBounds_toArray, List.set_cons_zero, List.set_cons_succ])
      refine' wpAnyH_take (i := 10) (v := (.agg #[.int .i64 t1.kind, .string t1.name, .string t1.num, .int .u64 t1.bits, .int .i64 t1.var, .slice e1 t1.args.length c1])) rfl (by decide +kernel) (by decide +kernel) (by decide +kernel) (fun _ _ _ h => h) (Or.inl ⟨by rfl, ?hyT11⟩) (by assumption) ?restT11
      case hyT11 => (intro w5 hSw; (try dsimp only at hSw); go_simp; try with_reducible rfl)
      case' restT11 => (try simp only [Act.put, List.setIfInBounds_toArray, List.set_cons_zero, List.set_cons_succ])
      refine wpAnyH_ready (rs := [11]) (by decide +kernel) (by simp) ?_
      refine AllReadyH.cons rfl (fun K hK => ?_) AllReadyH.nil
      go_simp
      (with_reducible refine (HCALL.out _ BRD.out).mono ?_)
      rintro e w2 ⟨q2, c2, S1, rfl, hm, hS1, hb2⟩
      have HM1 := hid hm
      have HS1 := hid hS1
      have BR2 := hid (show Below wr.heap.size wr w2 from BRD.out.trans hb2)
      clear hm hS1 hb2
      refine hK.out _ _ (SX.out w2 BR2.out) (fun hHeld => ?_)
      clear hK K
      (try simp only [Act.put, List.setIfInBounds_toArray, List.set_cons_zero, List.set_cons_succ])
      refine' wpAnyH_take (i := 12) (v := (.agg #[.int .i64 bv, .int .i64 t1.kind, .string t1.name, .string t1.num, .int .u64 t1.bits, .int .i64 t1.var, .slice q2 t1.args.length c2])) rfl (by decide +kernel) (by decide +kernel) (by decide +kernel) (fun _ _ _ h => h) (Or.inl ⟨by rfl, ?hyT12⟩) (by assumption) ?restT12
      case hyT12 => (intro w5 hSw; (try dsimp only at hSw); go_simp; try with_reducible rfl)
      case' restT12 => (try simp only [Act.put, List.setIfInBounds_toArray, List.set_cons_zero, List.set_cons_succ])
      refine wpAnyH_ready (rs := [13]) (by decide +kernel) (by simp) ?_
      refine AllReadyH.cons rfl (fun K hK => ?_) AllReadyH.nil
      go_simp
      obtain ⟨W3, hW3⟩ : ∃ W3, W3 = w2.alloc (.cells #[.int .i64 bv, .int .i64 t1.kind, .string t1.name, .string t1.num, .int .u64 t1.bits, .int .i64 t1.var, .slice q2 t1.args.length c2] 47) := ⟨_, rfl⟩
      rw [← hW3]
      have BA := hid (show Below w2.heap.size w2 W3 by rw [hW3]; exact (Below.refl _ _).alloc (Nat.le_refl _) _)
      have HN3 := hid (show W3.heap[w2.heap.size]? = some (.cells #[.int .i64 bv, .int .i64 t1.kind, .string t1.name, .string t1.num, .int .u64 t1.bits, .int .i64 t1.var, .slice q2 t1.args.length c2] 47 (0, 0)) by rw [hW3]; exact World.alloc_heap_new w2 _)
      have BR3 := hid (show Below wr.heap.size wr W3 from BR2.out.trans (BA.out.mono BR2.out.size))
      have HZ3 := hid (show W3.heap.size = w2.heap.size + 1 by rw [hW3]; simp)
      clear hW3
      refine hK.out _ _ (SX.out W3 BR3.out) (fun hHeld => ?_)
      clear hK K
      (try simp only [Act.put, List.setIfInBounds_toArray, List.set_cons_zero, List.set_cons_succ])
      refine wpAnyH_ready (rs := [14]) (by decide +kernel) (by simp) ?_
      refine AllReadyH.cons rfl (fun K hK => ?_) AllReadyH.nil
      have ML3 := hid (BL.out.same (w' := W3) fun x _ hx => BR3.out.block x hx)
      have HM3 := hid (HM1.out.same (w' := W3) fun x hx => BA.out.block x (HM1.out.lt x hx))
      have hsz := And.intro BR2.out.size (lt_of_block PT.out)
      obtain ⟨i0, hi, hz0, hz1, hz2⟩ := info_parts infoBind
      refine step_append_lies W3 rfl _ _ 45 rfl (w.heap.size + 1) 47 i0 (.agg #[.int .i64 0, .int .i64 0, .string ⟨#[]⟩, .string ⟨#[]⟩, .int .u64 0, .int .i64 0, .slice none 0 0]) 7 88 Tryz.underlying45 hi hz0 hz1 hz2 rfl (by decide) (.slice q k c) k (flatB L) (by simp [Act.eval, Act.put]) ML3.out.row ⟨w2.heap.size, 0, none⟩ 1 1 (cellsB (bv, t1, q2, c2)) (by simp [Act.eval, Act.put]) rfl (World.news_of_block HN3.out) (cellsB_one _) (by decide) (by unfold maxLen; omega) (by omega) (by rw [HZ3.out]; omega) W3.heap.size rfl ?_
      intro g c' w5 hown hgrow hat hlt5
      have HG5 := hid hgrow
      have BL5 := hid (BindL.snoc (x := (bv, t1, q2, c2)) ML3.out HM3.out (fun x hx h1 => by have := HS1.out x h1; have := BL.out.own.lt x hx; have : wr.drew.heap.size = wr.heap.size := rfl; omega) (fun x hx h1 => by have := HS1.out x h1; have : wr.drew.heap.size = wr.heap.size := rfl; have := ownBlock_lt BL.out.row hx; omega) (fun x hx => by have := HS1.out x hx; have : wr.drew.heap.size = wr.heap.size := rfl; omega) hown hgrow (hat.imp id (fun h => by omega)))
      have PT5 := hid (((HG5.out.block w.heap.size (by rw [HZ3.out]; omega) (fun e => by have := ownBlock_le ML3.out.row e.symm; omega)).trans (BR3.out.block _ (lt_of_block PT.out))).trans PT.out)
      have B5 := hid (show Below w.heap.size w w5 from (hBr.out.trans (BR3.out.mono hBr.out.size)).grown hgrow (by rw [HZ3.out]; omega) (fun x e => by have := ownBlock_le ML3.out.row e; omega))
      have HM5 := hid (show (L ++ [(bv, t1, q2, c2)]).map (fun x => (x.1, x.2.1)) = l.take (k + 1) by rw [List.map_append, HLM.out, HTK.out]; rfl)
      clear hown hgrow hat hlt5 HG5 ML3 HM3 HN3 BA HM1 HS1 BL
      refine hK.out _ _ (SY.out w5 B5.out) (fun hHeld => ?_)
      clear hK K
      (try simp only [Act.put, List.setIfInBounds_toArray, List.set_cons_zero, List.set_cons_succ])
      refine' wpAnyH_take (i := 15) (v := (.slice (some ⟨g, 0, none⟩) (k + 1) c')) rfl (by decide +kernel) (by decide +kernel) (by decide +kernel) (fun _ _ _ h => h) (Or.inl ⟨by rfl, ?hyT13⟩) (by assumption) ?restT13
      case hyT13 => (intro w5 hSw; (try dsimp only at hSw); go_simp; try with_reducible rfl)
      case' restT13 => (try simp only [Act.put, List.setIfInBounds_toArray, List.set_cons_zero, List.set_cons_succ])
      refine wpAnyH_done (by kernel_rfl) ?_ _
      (try go_simp)
      (try simp only [Act.put, List.setIfInBounds_toArray, List.set_cons_zero, List.set_cons_succ])
      clear sd
      go_wp2_with fail
      go_roundw
      case rel => exact ⟨k + 1, L ++ [(bv, t1, q2, c2)], S ++ S1, some ⟨g, 0, none⟩, c', by omega, rfl, by go_num, PT5, BL5, HM5, B5⟩
      case measure => simp [intOf]; omega
    · obtain rfl : k = l.length := by omega
      have HQ := hid (show BindAt wr l q from by have h := BL.out.at_; rwa [HLM.out, List.take_length] at h)
      have BW := hBr
      clear hBr BL HLM hlk hk CO
      have BL := hid (Below.refl wr.heap.size wr)
      have hKw := lt_of_block PT.out
      obtain ⟨K, hKs⟩ : ∃ K, K = wr.heap.size := ⟨_, rfl⟩
      have hK0 : w.heap.size < K ∧ wr.heap.size ≤ K := by omega
      clear hKw
      obtain ⟨e0, e1, e2, e3, e4, e5⟩ := six_of PT.out
      go_upto_region 8 with (first
        | (go_at_call 23; (with_reducible refine (CP.out _ q c BW.out (HQ.out.keep BL.out)).mono ?_); rintro x w2 ⟨qa, ca, SA, rfl, hm, hS, hb2⟩; replace PT := hid (obj_keep PT.out hb2); replace BW := hid (BW.out.trans (Below.mono hb2 BW.out.size)); replace BL := hid (BL.out.trans (Below.mono hb2 BL.out.size)); have MA := hid hm; have IA := hid (show ∀ x ∈ SA, K ≤ x ∧ x < w2.heap.size from fun x hx => ⟨by have := hS x hx; omega, hm.lt x hx⟩); have hn2 : K ≤ w2.heap.size := (by have := hb2.size; omega); clear hb2 hm hS)
        | fail)
      clear e0 e1 e2 e3 e4 e5 hKs
      obtain ⟨A, hA⟩ : ∃ A, A = w2.heap.size := ⟨_, rfl⟩
      obtain ⟨V, hV⟩ : ∃ V, V = w2.alloc (.cells #[.int .i64 y.kind, .string y.name, .string y.num, .int .u64 y.bits, .int .i64 y.var, .slice qa y.args.length ca] 25) := ⟨_, rfl⟩
      rw [← hV, ← hA]
      have hbV := hid (show Below w2.heap.size w2 V by rw [hV]; exact (Below.refl _ _).alloc (Nat.le_refl _) _)
      have PA := hid (show V.heap[A]? = some (tobj y qa ca) by rw [hV, hA]; exact heap_alloc_new w2 _)
      replace PT := hid (obj_keep PT.out hbV.out)
      replace MA := hid (MA.out.same fun x hx => Below.block hbV.out x (MA.out.lt x hx))
      replace BW := hid (BW.out.trans (Below.mono hbV.out BW.out.size))
      replace BL := hid (BL.out.trans (Below.mono hbV.out BL.out.size))
      have hsA : V.heap.size = A + 1 := by rw [hV, hA]; simp
      rw [← hA] at IA hn2
      clear hV hbV hA
      obtain ⟨w3, rfl⟩ : ∃ w3, w3 = V := ⟨_, rfl⟩
      obtain ⟨e0, e1, e2, e3, e4, e5⟩ := six_of PT.out
      go_upto_region 9 with (first
        | (go_at_call 23; (with_reducible refine (CP.out _ q c BW.out (HQ.out.keep BL.out)).mono ?_); rintro x w4 ⟨qb, cb, SB, rfl, hm, hS, hb4⟩; replace PT := hid (obj_keep PT.out hb4); replace MA := hid (MA.out.same fun x hx => Below.block hb4 x (MA.out.lt x hx)); replace PA := hid (obj_keep PA.out hb4); replace BW := hid (BW.out.trans (Below.mono hb4 BW.out.size)); replace BL := hid (BL.out.trans (Below.mono hb4 BL.out.size)); have MB := hid hm; have IB := hid (show ∀ x ∈ SB, A + 1 ≤ x ∧ x < w4.heap.size from fun x hx => ⟨by have := hS x hx; omega, hm.lt x hx⟩); have hn4 : A + 1 ≤ w4.heap.size := (by have := hb4.size; omega); clear hb4 hm hS)
        | fail)
      clear e0 e1 e2 e3 e4 e5 hsA
      obtain ⟨Bb, hBb⟩ : ∃ Bb, Bb = w4.heap.size := ⟨_, rfl⟩
      obtain ⟨V, hV⟩ : ∃ V, V = w4.alloc (.cells #[.int .i64 y.kind, .string y.name, .string y.num, .int .u64 y.bits, .int .i64 y.var, .slice qb y.args.length cb] 25) := ⟨_, rfl⟩
      rw [← hV, ← hBb]
      have hbV := hid (show Below w4.heap.size w4 V by rw [hV]; exact (Below.refl _ _).alloc (Nat.le_refl _) _)
      have PB := hid (show V.heap[Bb]? = some (tobj y qb cb) by rw [hV, hBb]; exact heap_alloc_new w4 _)
      replace PT := hid (obj_keep PT.out hbV.out)
      replace MA := hid (MA.out.same fun x hx => Below.block hbV.out x (MA.out.lt x hx))
      replace PA := hid (obj_keep PA.out hbV.out)
      replace MB := hid (MB.out.same fun x hx => Below.block hbV.out x (MB.out.lt x hx))
      replace BW := hid (BW.out.trans (Below.mono hbV.out BW.out.size))
      replace BL := hid (BL.out.trans (Below.mono hbV.out BL.out.size))
      have hsBb : V.heap.size = Bb + 1 := by rw [hV, hBb]; simp
      rw [← hBb] at IB hn4
      clear hV hbV hBb
      obtain ⟨w5, rfl⟩ : ∃ w5, w5 = V := ⟨_, rfl⟩
      obtain ⟨e0, e1, e2, e3, e4, e5⟩ := six_of PT.out
      go_upto_region 10 with (first
        | (go_at_call 24; (with_reducible refine (CR.out _ BW.out).mono ?_); rintro x w6 ⟨qc, cc, SC, rfl, hm, hS, hb6⟩; replace PT := hid (obj_keep PT.out hb6); replace MA := hid (MA.out.same fun x hx => Below.block hb6 x (MA.out.lt x hx)); replace PA := hid (obj_keep PA.out hb6); replace MB := hid (MB.out.same fun x hx => Below.block hb6 x (MB.out.lt x hx)); replace PB := hid (obj_keep PB.out hb6); replace BW := hid (BW.out.trans (Below.mono hb6 BW.out.size)); replace BL := hid (BL.out.trans (Below.mono hb6 BL.out.size)); have MC := hid hm; have IC := hid (show ∀ x ∈ SC, Bb + 1 ≤ x ∧ x < w6.heap.size from fun x hx => ⟨by have := hS x hx; omega, hm.lt x hx⟩); have hn6 : Bb + 1 ≤ w6.heap.size := (by have := hb6.size; omega); clear hb6 hm hS)
        | fail)
      clear e0 e1 e2 e3 e4 e5 hsBb
      obtain ⟨Cc, hCc⟩ : ∃ Cc, Cc = w6.heap.size := ⟨_, rfl⟩
      obtain ⟨V, hV⟩ : ∃ V, V = w6.alloc (.cells #[.int .i64 y.kind, .string y.name, .string y.num, .int .u64 y.bits, .int .i64 y.var, .slice qc y.args.length cc] 25) := ⟨_, rfl⟩
      rw [← hV, ← hCc]
      have hbV := hid (show Below w6.heap.size w6 V by rw [hV]; exact (Below.refl _ _).alloc (Nat.le_refl _) _)
      have PC := hid (show V.heap[Cc]? = some (tobj y qc cc) by rw [hV, hCc]; exact heap_alloc_new w6 _)
      replace PT := hid (obj_keep PT.out hbV.out)
      replace MA := hid (MA.out.same fun x hx => Below.block hbV.out x (MA.out.lt x hx))
      replace PA := hid (obj_keep PA.out hbV.out)
      replace MB := hid (MB.out.same fun x hx => Below.block hbV.out x (MB.out.lt x hx))
      replace PB := hid (obj_keep PB.out hbV.out)
      replace MC := hid (MC.out.same fun x hx => Below.block hbV.out x (MC.out.lt x hx))
      replace BW := hid (BW.out.trans (Below.mono hbV.out BW.out.size))
      replace BL := hid (BL.out.trans (Below.mono hbV.out BL.out.size))
      have hsCc : V.heap.size = Cc + 1 := by rw [hV, hCc]; simp
      rw [← hCc] at IC hn6
      clear hV hbV hCc
      obtain ⟨w7, rfl⟩ : ∃ w7, w7 = V := ⟨_, rfl⟩
      clear CP CR hsCc PT
      obtain ⟨a0, a1, a2, a3, a4, a5⟩ := six_of PA.out
      obtain ⟨c0, c1, c2, c3, c4, c5⟩ := six_of PC.out
      go_upto_region 11 with (first
        | (go_at_call 25; (with_reducible refine (CS.out y _ qa qc ca cc MA.out.at_ MC.out.at_).mono ?_); rintro x w8 ⟨rfl, hb8⟩; replace MA := hid (MA.out.same fun x hx => Below.block hb8 x (MA.out.lt x hx)); replace PA := hid (obj_keep PA.out hb8); replace MB := hid (MB.out.same fun x hx => Below.block hb8 x (MB.out.lt x hx)); replace PB := hid (obj_keep PB.out hb8); replace MC := hid (MC.out.same fun x hx => Below.block hb8 x (MC.out.lt x hx)); replace PC := hid (obj_keep PC.out hb8); replace BW := hid (BW.out.trans (Below.mono hb8 BW.out.size)); replace BL := hid (BL.out.trans (Below.mono hb8 BL.out.size)); clear hb8)
        | fail)
      clear a0 a1 a2 a3 a4 a5 c0 c1 c2 c3 c4 c5
      obtain ⟨a0, a1, a2, a3, a4, a5⟩ := six_of PA.out
      go_upto_region 12 with (first
        | (go_at_call 26; (with_reducible refine (CM.out y _ qa ca SA MA.out).mono ?_); rintro x w9 ⟨⟨v9, rfl⟩, hc9⟩; have BC := hid (chg_low BW.out hc9 (fun x hx => (by have := IA.out x hx; omega))); have BD := hid (show Below wr.heap.size wr w9 from chg_low BL.out hc9 (fun x hx => (by have := IA.out x hx; omega))); clear BW BL; have BW := BC; have BL := BD; clear BC BD; replace PB := hid ((Chg.same hc9 _ (lt_of_block PB.out) (fun h => (by have := IA.out _ h; omega))).trans PB.out); replace PC := hid ((Chg.same hc9 _ (lt_of_block PC.out) (fun h => (by have := IA.out _ h; omega))).trans PC.out); replace MB := hid (MB.out.same fun x hx => Chg.same hc9 x (MB.out.lt x hx) (fun h => (by have := IA.out x h; have := IB.out x hx; omega))); replace MC := hid (MC.out.same fun x hx => Chg.same hc9 x (MC.out.lt x hx) (fun h => (by have := IA.out x h; have := IC.out x hx; omega))); clear hc9 MA)
        | fail)
      clear a0 a1 a2 a3 a4 a5
      clear PA IA
      obtain ⟨b0, b1, b2, b3, b4, b5⟩ := six_of PB.out
      obtain ⟨c0, c1, c2, c3, c4, c5⟩ := six_of PC.out
      go_upto_region 13 with (first
        | (go_at_call 25; (with_reducible refine (CS.out y _ qb qc cb cc MB.out.at_ MC.out.at_).mono ?_); rintro x w10 ⟨rfl, hb10⟩; replace BW := hid (BW.out.trans (Below.mono hb10 BW.out.size)); replace BL := hid (BL.out.trans (Below.mono hb10 BL.out.size)); clear hb10)
        | fail)
      clear b0 b1 b2 b3 b4 b5 c0 c1 c2 c3 c4 c5
      clear PB PC MB MC IB IC
      have hq : (u == u) = true := beq_self_eq_true u
      go_wp2_with (first
        | (go_at_call 27; (with_reducible refine (CB.out _ q pl c cl (HQ.out.keep BL.out) (HL.out.keep BW.out)).mono ?_); rintro x w11 ⟨rfl, hb11⟩; replace BW := hid (BW.out.trans (Below.mono hb11 BW.out.size)); clear hb11 BL HQ)
        | fail)
      go_ret
      exact ⟨rfl, BW.out⟩
end Go.Proofs.YtkapejcbmonfkaaGreatDoor

namespace Go.Proofs.YtkapejcbmonfkaaGreatDoor
open Go.ChangeShapes Go.WideShapes Go.ChangeAt Go.RowKit Go.Joins Go.Deep

theorem readsB : Tryz.prog.readableRec 45 = true ∧ 45 < Tryz.prog.types.size := ⟨by kernel_rfl, of_decide_eq_true (by kernel_rfl)⟩
theorem weights_mem_all {H : Type} {P : Program} {e : TypeId} {d : DataW H} {n : Nat} : ∀ {l : List (DataW H)}, d ∈ l → n ∈ d.weights P e → n ∈ DataW.weightsAll P e l
  | [], h, _ => by cases h
  | x :: l, h, hn => by
    unfold DataW.weightsAll
    rcases List.mem_cons.1 h with rfl | h
    · exact List.mem_append_left _ hn
    · exact List.mem_append_right _ (weights_mem_all h hn)
section
variable {H : Type} {enc : TypeId × Value → H} {W : World}

theorem trod_struct6W {P : Program} {base : Nat} {spare : Nat → Bool} {held : Bool} {t : TypeId} {f0 f1 f2 f3 f4 f5 : Field} {fuel : Nat} {cs : List Value} {x : DataW H × List MemPlace} (ht : P.underlying t = some (.struct #[f0, f1, f2, f3, f4, f5])) (h : DataW.trod enc P W base spare held fuel t cs = some x) :
    ∃ y0 y1 y2 y3 y4 y5 n, fuel = n + 1 ∧ cs.length = P.cellsOf t ∧ DataW.trod enc P W base spare held n f0.type ((cs.drop f0.offset).take (P.cellsOf f0.type)) = some y0 ∧
      DataW.trod enc P W base spare held n f1.type ((cs.drop f1.offset).take (P.cellsOf f1.type)) = some y1 ∧ DataW.trod enc P W base spare held n f2.type ((cs.drop f2.offset).take (P.cellsOf f2.type)) = some y2 ∧
      DataW.trod enc P W base spare held n f3.type ((cs.drop f3.offset).take (P.cellsOf f3.type)) = some y3 ∧ DataW.trod enc P W base spare held n f4.type ((cs.drop f4.offset).take (P.cellsOf f4.type)) = some y4 ∧
      DataW.trod enc P W base spare held n f5.type ((cs.drop f5.offset).take (P.cellsOf f5.type)) = some y5 ∧ (∀ k ∈ y5.1.weights P f5.type, k ∈ x.1.weights P t) := by
  obtain ⟨xs, n, hn, rfl, hl, hlen, hf⟩ := DataW.trod_struct ht h
  match xs, hlen with
  | [y0, y1, y2, y3, y4, y5], _ =>
    refine ⟨y0, y1, y2, y3, y4, y5, n, hn, hl, by simpa using hf 0 f0 rfl, by simpa using hf 1 f1 rfl, by simpa using hf 2 f2 rfl, by simpa using hf 3 f3 rfl, by simpa using hf 4 f4 rfl, by simpa using hf 5 f5 rfl, fun k hk => ?_⟩
    unfold DataW.weights
    rw [ht]
    exact DataW.weights_mem_each (j := 5) rfl rfl k hk
theorem trod_struct2W {P : Program} {base : Nat} {spare : Nat → Bool} {held : Bool} {t : TypeId} {f0 f1 : Field} {fuel : Nat} {cs : List Value} {x : DataW H × List MemPlace} (ht : P.underlying t = some (.struct #[f0, f1])) (h : DataW.trod enc P W base spare held fuel t cs = some x) :
    ∃ y0 y1 n, fuel = n + 1 ∧ cs.length = P.cellsOf t ∧ DataW.trod enc P W base spare held n f0.type ((cs.drop f0.offset).take (P.cellsOf f0.type)) = some y0 ∧
      DataW.trod enc P W base spare held n f1.type ((cs.drop f1.offset).take (P.cellsOf f1.type)) = some y1 ∧ (∀ k ∈ y1.1.weights P f1.type, k ∈ x.1.weights P t) := by
  obtain ⟨xs, n, hn, rfl, hl, hlen, hf⟩ := DataW.trod_struct ht h
  match xs, hlen with
  | [y0, y1], _ =>
    refine ⟨y0, y1, n, hn, hl, by simpa using hf 0 f0 rfl, by simpa using hf 1 f1 rfl, fun k hk => ?_⟩
    unfold DataW.weights
    rw [ht]
    exact DataW.weights_mem_each (j := 1) rfl rfl k hk
set_option maxRecDepth 100000 in
theorem open_treeW {base : Nat} {sp : Nat → Bool} {held : Bool} : ∀ (fuel : Nat) (cs : List Value) (x : DataW H × List MemPlace), (∀ n ∈ x.1.weights Tryz.prog 25, n ≤ reachBytes) → DataW.trod enc Tryz.prog W base sp held fuel 25 cs = some x →
    ∃ (t : Tm) (p : Option Addr) (cap : Nat), cs = [.int .i64 t.kind, .string t.name, .string t.num, .int .u64 t.bits, .int .i64 t.var, .slice p t.args.length cap] ∧ TmAt W t p ∧ AllT DomA t ∧ AllT CapOk t := by
  intro fuel
  induction fuel using Nat.strongRecOn with
  | _ fuel ih =>
    intro cs x hwx h
    obtain ⟨y0, y1, y2, y3, y4, y5, n, hn, hl, u0, u1, u2, u3, u4, u5, hw5⟩ := trod_struct6W Tryz.underlying25 h
    replace hw5 := fun k hk => hwx k (hw5 k hk)
    rw [show Tryz.prog.cellsOf 25 = 6 by kernel_rfl] at hl
    match cs, hl with
    | [v0, v1, v2, v3, v4, v5], _ =>
      simp only [show Tryz.prog.cellsOf 9 = 1 by kernel_rfl, show Tryz.prog.cellsOf 3 = 1 by kernel_rfl, show Tryz.prog.cellsOf 22 = 1 by kernel_rfl, show Tryz.prog.cellsOf 23 = 1 by kernel_rfl, List.drop, List.take] at u0 u1 u2 u3 u4 u5
      obtain ⟨kd, e0, -, g0⟩ := DataW.trod_int Tryz.underlying3 u0
      obtain ⟨nm, e1, -, z1⟩ := DataW.trod_string Tryz.underlying9 u1
      obtain ⟨nu, e2, -, z2⟩ := DataW.trod_string Tryz.underlying9 u2
      obtain ⟨bi, e3, -, g3⟩ := DataW.trod_int Tryz.underlying22 u3
      obtain ⟨va, e4, -, g4⟩ := DataW.trod_int Tryz.underlying3 u4
      simp only [List.cons.injEq, and_true] at e0 e1 e2 e3 e4
      subst e0; subst e1; subst e2; subst e3; subst e4
      obtain ⟨hb0, hb1⟩ := wf_u64 g3
      have hdom : ∀ l, DomA (.mk kd nm nu bi va l) := fun l => ⟨by unfold maxLen at z1; exact z1, by unfold maxLen at z2; exact z2, hb0, hb1, g4, g0⟩
      rcases DataW.trod_slice Tryz.underlying23 u5 with ⟨hcs, hx⟩ | ⟨a, len, cap, elems, rest, m, hm, hcs, hx, -, hlc, hcm, hel, hE, -, -⟩
      · simp only [List.cons.injEq, and_true] at hcs
        subst hcs
        refine ⟨.mk kd nm nu bi va [], none, 0, rfl, ?_, ?_, ?_⟩
        · unfold TmAt
          exact ⟨by unfold maxLen; simp, .inl rfl⟩
        · unfold AllT AllR
          exact ⟨hdom _, trivial⟩
        · unfold AllT AllR
          exact ⟨by unfold CapOk; simp [Tm.args], trivial⟩
      · simp only [List.cons.injEq, and_true] at hcs
        subst hcs
        subst hx
        have hwE : ∀ i (h : i < elems.length), ∀ n ∈ elems[i].1.weights Tryz.prog 25, n ≤ reachBytes := fun i h n hn2 => hw5 n (by
          unfold DataW.weights
          rw [Tryz.underlying23]
          refine List.mem_cons_of_mem _ (List.mem_append_left _ ?_)
          exact weights_mem_all (d := elems[i].1) (List.mem_map.2 ⟨_, List.getElem_mem h, rfl⟩) hn2)
        have hlen : len ≤ 1759218604390 := by
          have h9 := hw5 (((elems.map (·.1)).length + (rest.map (·.1)).length) * Tryz.prog.bytesOf 25) (by
            unfold DataW.weights
            rw [Tryz.underlying23]
            exact List.mem_cons_self)
          rw [show Tryz.prog.bytesOf 25 = 80 by kernel_rfl] at h9
          simp only [reachBytes, List.length_map] at h9
          omega
        have each : ∀ i, i < len → ∃ q : Tm × Option Addr × Nat, (∀ j, W.cell? ((a.add (i * 6)).add j) = ([Value.int .i64 q.1.kind, .string q.1.name, .string q.1.num, .int .u64 q.1.bits, .int .i64 q.1.var, .slice q.2.1 q.1.args.length q.2.2] : List Value)[j]? ∨ 6 ≤ j) ∧ TmAt W q.1 q.2.1 ∧ AllT DomA q.1 ∧ AllT CapOk q.1 := by
          intro i hi
          have h1 := hE i hi
          rw [show Tryz.prog.cellsOf 25 = 6 by kernel_rfl] at h1
          rw [List.getElem?_eq_getElem (by omega)] at h1
          obtain ⟨cs', h2, h3⟩ := Option.bind_eq_some_iff.1 h1
          obtain ⟨t, p, c, rfl, h5, h6⟩ := ih m (by omega) cs' _ (hwE i (by omega)) h3
          obtain ⟨_, hl2, hcell⟩ := World.cells?_some h2
          refine ⟨(t, p, c), fun j => ?_, h5, h6⟩
          by_cases hj : j < 6
          · left
            have := hcell j hj
            simpa using this
          · right; omega
        obtain ⟨q, hq⟩ := choose_lt each
        refine ⟨.mk kd nm nu bi va ((List.range len).map fun i => (q i).1), some a, cap, by simp [Tm.kind, Tm.name, Tm.num, Tm.bits, Tm.var, Tm.args], ?_, ?_, ?_⟩
        · unfold TmAt
          refine ⟨by simp; omega, ?_⟩
          by_cases h0 : len = 0
          · left; subst h0; rfl
          · right
            obtain ⟨xb, xo, spot⟩ := a
            have hc0 := (hq 0 (by omega)).1 0
            have hspot : spot = none := by
              rcases hc0 with hc | hc
              · simpa [Addr.add] using World.cell?_spot hc
              · omega
            subst hspot
            refine ⟨xb, xo, rfl, RowT.mk fun k hk => ?_⟩
            have hk' : k < len := by simpa using hk
            obtain ⟨hc, ht, -⟩ := hq k hk'
            refine ⟨(q k).2.1, (q k).2.2, ?_, by simpa using ht⟩
            have c : ∀ j, j < 6 → W.cell? ⟨xb, xo + k * 6 + j, none⟩ = ([Value.int .i64 (q k).1.kind, .string (q k).1.name, .string (q k).1.num, .int .u64 (q k).1.bits, .int .i64 (q k).1.var, .slice (q k).2.1 (q k).1.args.length (q k).2.2] : List Value)[j]? := fun j hj => by
              rcases hc j with h | h
              · rw [← h, Addr.add_lit, Addr.add_lit]
              · omega
            have e : ((List.range len).map fun i => (q i).1)[k] = (q k).1 := by simp
            rw [e]
            exact ⟨(c 0 (by omega)).trans rfl, (c 1 (by omega)).trans rfl, (c 2 (by omega)).trans rfl, (c 3 (by omega)).trans rfl, (c 4 (by omega)).trans rfl, (c 5 (by omega)).trans rfl⟩
        · unfold AllT
          refine ⟨hdom _, AllR.mk fun k hk => ?_⟩
          have hk' : k < len := by simpa using hk
          simpa using (hq k hk').2.2.1
        · unfold AllT
          refine ⟨by unfold CapOk; simpa [Tm.args] using hlen, AllR.mk fun k hk => ?_⟩
          have hk' : k < len := by simpa using hk
          simpa using (hq k hk').2.2.2
set_option maxRecDepth 100000 in
theorem open_binds {v : Value} {d : DataW H} {p : List MemPlace} {sp : Nat → Bool} {held : Bool} {r : Reach} {b0 : Nat} (hval : Value.okWide Tryz.prog W r b0 45 v) (hw : ∀ n ∈ d.weights Tryz.prog 45, n ≤ reachBytes) (h : DataW.Trod enc Tryz.prog W 0 sp held 45 v d p) :
    ∃ (l : List Bnd) (q : Option Addr) (cap : Nat), v = .slice q l.length cap ∧ l.length ≤ cap ∧ l.length ≤ 1599289640354 ∧ BindAt W l q ∧ (∀ k (h : k < l.length), AllT DomA l[k].2) ∧ (∀ k (h : k < l.length), AllT CapOk l[k].2) ∧ (∀ k (h : k < l.length), (Lit.int .i64 l[k].1).wf = true) := by
  obtain ⟨a1, len1, cap1, rfl⟩ := okWide_slice Tryz.underlying45 hval
  obtain ⟨fuel, hf⟩ := h
  rcases DataW.trod_slice Tryz.underlying45 hf with ⟨hcs, hx⟩ | ⟨a, len, cap, elems, rest, m, hm, hcs, hx, -, hlc, hcm, hel, hE, -, -⟩
  · simp [Value.cells] at hcs
    obtain ⟨rfl, rfl, rfl⟩ := hcs
    exact ⟨[], none, 0, rfl, by simp, by simp, fun k hk => by simp at hk, fun k hk => by simp at hk, fun k hk => by simp at hk, fun k hk => by simp at hk⟩
  · simp [Value.cells] at hcs
    obtain ⟨rfl, rfl, rfl⟩ := hcs
    obtain rfl : d = .slice (elems.map (·.1)) (rest.map (·.1)) := (Prod.mk.inj hx).1
    have hwE : ∀ i (h : i < elems.length), ∀ n ∈ elems[i].1.weights Tryz.prog 47, n ≤ reachBytes := fun i h n hn2 => hw n (by
      unfold DataW.weights
      rw [Tryz.underlying45]
      refine List.mem_cons_of_mem _ (List.mem_append_left _ ?_)
      exact weights_mem_all (d := elems[i].1) (List.mem_map.2 ⟨_, List.getElem_mem h, rfl⟩) hn2)
    have hlen : len1 ≤ 1599289640354 := by
      have h9 := hw (((elems.map (·.1)).length + (rest.map (·.1)).length) * Tryz.prog.bytesOf 47) (by
        unfold DataW.weights
        rw [Tryz.underlying45]
        exact List.mem_cons_self)
      rw [show Tryz.prog.bytesOf 47 = 88 by kernel_rfl] at h9
      simp only [reachBytes, List.length_map] at h9
      omega
    have each : ∀ i, i < len1 → ∃ q : Bnd × Option Addr × Nat, (∀ j, W.cell? ((a.add (i * 7)).add j) = ([Value.int .i64 q.1.1, .int .i64 q.1.2.kind, .string q.1.2.name, .string q.1.2.num, .int .u64 q.1.2.bits, .int .i64 q.1.2.var, .slice q.2.1 q.1.2.args.length q.2.2] : List Value)[j]? ∨ 7 ≤ j) ∧ TmAt W q.1.2 q.2.1 ∧ AllT DomA q.1.2 ∧ AllT CapOk q.1.2 ∧ (Lit.int .i64 q.1.1).wf = true := by
      intro i hi
      have h1 := hE i hi
      rw [show Tryz.prog.cellsOf 47 = 7 by kernel_rfl] at h1
      rw [List.getElem?_eq_getElem (by omega)] at h1
      obtain ⟨cs', h2, h3⟩ := Option.bind_eq_some_iff.1 h1
      obtain ⟨y0, y1, n, -, hl7, u0, u1, hw1⟩ := trod_struct2W Tryz.underlying47 h3
      obtain ⟨_, hl2, hcell⟩ := World.cells?_some h2
      rw [show Tryz.prog.cellsOf 47 = 7 by kernel_rfl] at hl7
      match cs', hl7 with
      | [v0, v1, v2, v3, v4, v5, v6], _ =>
        simp only [show Tryz.prog.cellsOf 3 = 1 by kernel_rfl, show Tryz.prog.cellsOf 25 = 6 by kernel_rfl, List.drop, List.take] at u0 u1
        obtain ⟨bv, e0, -, g0⟩ := DataW.trod_int Tryz.underlying3 u0
        simp only [List.cons.injEq, and_true] at e0
        subst e0
        obtain ⟨t, q, c, e1, h5, h6, h7⟩ := open_treeW n _ _ (fun k hk => hwE i (by omega) k (hw1 k hk)) u1
        simp only [List.cons.injEq, and_true] at e1
        obtain ⟨rfl, rfl, rfl, rfl, rfl, rfl⟩ := e1
        refine ⟨((bv, t), q, c), fun j => ?_, h5, h6, h7, g0⟩
        by_cases hj : j < 7
        · left
          have := hcell j hj
          simpa using this
        · right; omega
    obtain ⟨q, hq⟩ := choose_lt each
    refine ⟨(List.range len1).map fun i => (q i).1, some a, cap1, by simp, by simpa using hlc, by simpa using hlen, ?_, ?_, ?_, ?_⟩
    · intro k hk
      have hk' : k < len1 := by simpa using hk
      obtain ⟨hc, ht, -⟩ := hq k hk'
      obtain ⟨xb, xo, spot⟩ := a
      have hspot : spot = none := by
        rcases (hq 0 (by omega)).1 0 with hc0 | hc0
        · simpa [Addr.add] using World.cell?_spot hc0
        · omega
      subst hspot
      have c : ∀ j, j < 7 → W.cell? ⟨xb, xo + k * 7 + j, none⟩ = ([Value.int .i64 (q k).1.1, .int .i64 (q k).1.2.kind, .string (q k).1.2.name, .string (q k).1.2.num, .int .u64 (q k).1.2.bits, .int .i64 (q k).1.2.var, .slice (q k).2.1 (q k).1.2.args.length (q k).2.2] : List Value)[j]? := fun j hj => by
        rcases hc j with h | h
        · rw [← h, Addr.add_lit, Addr.add_lit]
        · omega
      have e : ((List.range len1).map fun i => (q i).1)[k] = (q k).1 := by simp
      rw [e]
      exact ⟨xb, xo, rfl, (q k).2.1, (q k).2.2, (c 0 (by omega)).trans rfl, ⟨(c 1 (by omega)).trans rfl, (c 2 (by omega)).trans rfl, (c 3 (by omega)).trans rfl, (c 4 (by omega)).trans rfl, (c 5 (by omega)).trans rfl, (c 6 (by omega)).trans rfl⟩, ht⟩
    · intro k hk
      have hk' : k < len1 := by simpa using hk
      simpa using (hq k hk').2.2.1
    · intro k hk
      have hk' : k < len1 := by simpa using hk
      simpa using (hq k hk').2.2.2.1
    · intro k hk
      have hk' : k < len1 := by simpa using hk
      simpa using (hq k hk').2.2.2.2
end
end Go.Proofs.YtkapejcbmonfkaaGreatDoor

namespace Go.Proofs.YtkapejcbmonfkaaGreatDoor
open Go.ChangeShapes Go.WideShapes Go.ChangeAt Go.RowKit Go.Joins Go.ChangeMaps

theorem puts_params : ∀ t ∈ Tryz.f5.params.toList, Tryz.prog.readableRec t = true ∧ t < Tryz.prog.types.size := by
  intro t ht
  rw [Tryz.params5] at ht
  simp at ht
  rcases ht with rfl | rfl
  · exact readsT
  · exact readsB

set_option maxRecDepth 100000 in
theorem puts_contract (H : Type) (enc : TypeId × Value → H) (W : World) (base : Nat) (args : Array Value) (ds gs : List (DataW H)) (before : List MemPlace)
    (hval : ∀ (j : Nat) t v, Tryz.f5.params[j]? = some t → args[j]? = some v → Value.okWide Tryz.prog W .any base t v)
    (hW : DataW.Whole enc Tryz.prog Tryz.f5.params.toList Rows.termPutsSpec.vars false W args.toList ds gs before) (hL : laidMet Tryz.prog theLaid W) {vt : List TypeId} (hsz : (DataW.weightsEach Tryz.prog (Tryz.f5.params.toList ++ vt) (ds ++ gs)).all (· ≤ reachBytes) = true) :
    Calls Tryz.prog 5 args W fun e W' => ∃ v, e = .returned v ∧ Rows.termPutsSpec.post enc Tryz.prog Tryz.f5 false true false false W args v W' := by
  have hU := laid_facts hL
  have hW' := hW
  obtain ⟨p, q, hA0, hV, rfl, hfz, hnd⟩ := hW
  have hA : DataW.TrodAll enc Tryz.prog W 0 (fun _ => true) true Tryz.f5.params.toList args.toList ds p := hA0
  rw [Tryz.params5] at hA hval hsz
  obtain ⟨v0, vs0, d0, ds0, p0, q0', hargs, rfl, rfl, h0, r0⟩ := trodAll_cons hA
  obtain ⟨v1, vs1, d1, ds1, p1, q1', rfl, rfl, rfl, h1, r1⟩ := trodAll_cons r0
  obtain ⟨rfl, rfl, rfl⟩ := trodAll_nil r1
  obtain rfl : args = #[v0, v1] := by cases args; simp_all
  obtain ⟨t0, q0, c0, rfl, hT0, hD0⟩ := open_term (hval 0 25 v0 rfl rfl) h0
  obtain ⟨t1, q1, c1, rfl, lc1, lb1, hT1, hD1, hC1, hw1⟩ := open_binds (hval 1 45 v1 rfl rfl) (fun n hn => of_decide_eq_true (List.all_eq_true.1 hsz n (DataW.weights_mem_each (j := 1) rfl rfl n hn))) h1
  refine (puts_yes t0 t1 q0 q1 c0 c1 W hU hT0 hT1 hD0 hD1 hC1 hw1 lc1 lb1).mono fun e W' ⟨he, hb⟩ => ⟨_, he, ?_⟩
  exact law_post puts_params rfl rfl rfl rfl rfl hW' hb

/-- The world of the witness. -/
noncomputable def putsWorld (os : Os) : World := World.laidAll Tryz.prog os Rows.termPutsRow.laid
noncomputable def putsArgs : Array Value := #[.agg #[.int .i64 0, .string ByteArray.empty, .string ByteArray.empty, .int .u64 0, .int .i64 0, .slice none 0 0], .slice none 0 0]
set_option maxRecDepth 100000 in
theorem puts_laid (os : Os) : laidMet Tryz.prog Rows.termPutsRow.laid ((putsWorld os).forCall (fun _ _ => 0) ⟨#[], putsArgs, []⟩).memory :=
  laidMet_laidAll _ (by kernel_rfl) (by kernel_rfl)
set_option maxRecDepth 100000 in
theorem puts_reads (os : Os) {H : Type} (enc : TypeId × Value → H) : ∃ places, DataW.whole enc Tryz.prog ((putsWorld os).forCall (fun _ _ => 0) ⟨#[], putsArgs, []⟩).memory Tryz.f5.params.toList Rows.termPutsSpec.vars false putsArgs.toList 8 =
    some ([.agg [.lit (.int .i64 0), .lit (.string []), .lit (.string []), .lit (.int .u64 0), .lit (.int .i64 0), .nil], .nil], [], places) :=
  ⟨[], by kernel_rfl⟩

set_option maxRecDepth 100000 in
theorem puts_lifted (os : Os) (started : os.Started) (H : Type) (enc : TypeId × Value → H) (F : Stop.Interp) :
    ReturnsInHanded {} Tryz.checked os 5 .any ((OpenSpec.ofChange Rows.termPutsSpec).preRow enc Tryz.prog Tryz.f5 Rows.termPutsRow.domain false Rows.termPutsRow.laid) (((OpenSpec.ofChange Rows.termPutsSpec).at F).post enc Tryz.prog Tryz.f5 false true false false) := by
  obtain ⟨places, hx⟩ := puts_reads os enc
  refine returnsInHanded_of_row (C := Tryz.checked) (s := OpenSpec.ofChange Rows.termPutsSpec) own started (by kernel_rfl) Tryz.func5
    (witness_row_atRef (enc := enc) (C := Tryz.checked) false (putsWorld os) putsArgs (World.laidAll_os _ _ _) (by kernel_rfl) (by kernel_rfl) (by kernel_rfl)
      (OpenSpec.preRow_of_cond 8 hx (by kernel_rfl) (fun k hk => by cases hk) (by kernel_rfl) (puts_laid os))) ?_
  intro W base args ds gs before hval hW _ _ hsz hL _ _
  exact puts_contract H enc W base args ds gs before hval hW hL hsz

set_option maxRecDepth 100000 in
theorem puts_said : Rows.TermPutsSaid :=
  OpenClaim.holds_of_cond 5 Tryz.f5 rfl rfl rfl rfl rfl rfl rfl ⟨rfl, rfl, rfl, rfl, rfl⟩ rfl rfl rfl rfl rfl (by kernel_rfl) Tryz.func5 (by kernel_rfl)
    (of_decide_eq_true (by kernel_rfl)) (by unfold Func.isWrapper; first | (rw [if_pos (by decide +kernel)]; kernel_rfl) | (rw [if_neg (by decide +kernel)]; exact ⟨rfl, rfl⟩))
    (fun os started H enc _ F => by rw [OpenClaim.pre_eq_preRow]; exact puts_lifted os started H enc F)

set_option maxRecDepth 100000 in
theorem puts_plain (f : FuncId) (fn : Func) (hf : Tryz.pinned.checked.prog.funcNamed "hornbeam/hornbeamlaw02.TermPuts" = some f) (hfn : Tryz.pinned.checked.prog.funcs[f]? = some fn) :
    false = Tryz.pinned.checked.prog.looks [] ∧ ∀ (j : Nat) t, fn.params[j]? = some t → Tryz.pinned.checked.prog.wantsStandIn t = false := by
  obtain rfl : f = 5 := Option.some.inj ((show Tryz.prog.funcNamed "hornbeam/hornbeamlaw02.TermPuts" = some 5 by kernel_rfl).symm.trans hf) |>.symm
  obtain rfl : fn = Tryz.f5 := (Option.some.inj (Tryz.func5.symm.trans hfn)).symm
  refine ⟨by kernel_rfl, fun j t ht => ?_⟩
  rw [Tryz.params5] at ht
  have hm := Array.mem_of_getElem? ht
  simp at hm
  rcases hm with rfl | rfl
  · exact (show Tryz.prog.wantsStandIn 25 = false by kernel_rfl)
  · exact (show Tryz.prog.wantsStandIn 45 = false by kernel_rfl)

set_option maxRecDepth 100000 in
theorem puts_card : Rows.TermPutsCardSaid :=
  Claim7.holds_tied_plain_at .later [] _ _ _ _ puts_said (fun _ h => by cases h) (by kernel_rfl) (fun _ h => by cases h) termPuts_row_tie rfl ⟨rfl, rfl⟩ (by kernel_rfl) rfl puts_plain (by kernel_rfl)
end Go.Proofs.YtkapejcbmonfkaaGreatDoor
