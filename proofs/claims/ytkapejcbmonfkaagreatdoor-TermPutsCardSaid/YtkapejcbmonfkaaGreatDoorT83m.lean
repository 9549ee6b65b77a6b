/- Walk of the document's answer: Put. No condition but those that each theorem names. Put of the program in the form of the document's. No condition but those that each theorem names. Walk of the document's answer: Put, where the term may not be. No condition but those that the theorem names. -/
import Derived.Test.YtkapejcbmonfkaaGreatDoorT80m
namespace Go.Proofs.YtkapejcbmonfkaaGreatDoor
open Go.RowKit

theorem lookB_vars : ∀ (l : List Bnd) (v : Int), (lookB l v).isSome = decide (v ∈ l.map (·.1))
  | [], v => rfl
  | x :: l, v => by
    have h := lookB_vars l v
    unfold lookB
    by_cases e : x.1 = v
    · rw [if_pos e]; simp [e]
    · rw [if_neg e, h]
      have e2 : ¬ v = x.1 := fun h => e h.symm
      simp [e2]
theorem BindAt.take {w : World} {l : List Bnd} {q : Option Addr} (h : BindAt w l q) (k : Nat) : BindAt w (l.take k) q := fun j hj => by
  have hj' : j < l.length := by simp at hj; omega
  rw [List.getElem_take]
  exact h j hj'
/-- What Put answers of a term that may be. -/
def putD (l : List Bnd) (t : Tm) : Tm × Int := if standE l [] ≠ 0 then (leaf 0 ⟨#[]⟩ ⟨#[]⟩ 0, standE l []) else if 4000 < nodes (instT l t) then (leaf 0 ⟨#[]⟩ ⟨#[]⟩ 0, 24) else (instT l t, 0)
set_option maxRecDepth 100000 in
set_option maxHeartbeats 16000000 in
theorem putR_any (t : Tm) (p : Option Addr) (cp : Nat) (l : List Bnd) (q : Option Addr) (cl : Nat) (w : World) (ht : TmAt w t p) (hl : BindAt w l q) (hDt : AllT DomA t) (hD : ∀ k (h : k < l.length), AllT DomA l[k].2) (hlm : l.length ≤ 4398046511104) (hlc : l.length ≤ cl) (h1 : checkErr vName numOk bitsOk t = 0) (hct : AllT CpOk t) (hcl : standE l [] = 0 → ∀ k (h : k < l.length), AllT CpOk l[k].2) :
    Calls Tryz.prog 24 #[t.val p cp, .slice q l.length cl] w fun x w' => ∃ p2 c2 S2, x = .returned (.tuple #[(putD l t).1.val p2 c2, .int .i64 (putD l t).2]) ∧ WeakT w' (putD l t).1 p2 c2 S2 ∧ (∀ k ∈ S2, w.heap.size ≤ k) ∧ Below w.heap.size w w' := by
  have HT := hid ht
  have HL := hid hl
  have hlm' : (l.length : Int) ≤ 4398046511104 := by omega
  obtain ⟨W0, hW0⟩ : ∃ W0, W0 = (w.alloc (.cells #[.int .i64 t.kind, .string t.name, .string t.num, .int .u64 t.bits, .int .i64 t.var, .slice p t.args.length cp] 25)).alloc (.cells #[.int .i64 0, .string ⟨#[]⟩, .string ⟨#[]⟩, .int .u64 0, .int .i64 0, .slice none 0 0] 25) := ⟨_, rfl⟩
  have B0 := hid (show Below w.heap.size w W0 by rw [hW0]; exact ((Below.refl w.heap.size w).alloc (Nat.le_refl _) _).alloc (by simp) _)
  have E0 := hid (show W0.heap[w.heap.size]? = some (.cells #[.int .i64 t.kind, .string t.name, .string t.num, .int .u64 t.bits, .int .i64 t.var, .slice p t.args.length cp] 25 (0, 0)) by rw [hW0]; exact (heap_alloc_old (w.alloc _) _ (by simp)).trans (heap_alloc_new w _))
  have Z0 := hid (show W0.heap[w.heap.size + 1]? = some (.cells #[.int .i64 0, .string ⟨#[]⟩, .string ⟨#[]⟩, .int .u64 0, .int .i64 0, .slice none 0 0] 25 (0, 0)) by
    rw [hW0]
    have h := heap_alloc_new (w.alloc (.cells #[.int .i64 t.kind, .string t.name, .string t.num, .int .u64 t.bits, .int .i64 t.var, .slice p t.args.length cp] 25)) (.cells #[.int .i64 0, .string ⟨#[]⟩, .string ⟨#[]⟩, .int .u64 0, .int .i64 0, .slice none 0 0] 25)
    rwa [World.size_alloc] at h)
  have CT := hid (fun (W : World) (h : Below w.heap.size w W) => checkR_any vName numOk bitsOk DomA t p cp W (ht.keep h) (oracleRA _) hDt)
  rw [h1] at CT
  have CL := hid (fun (k : Nat) (h : k < l.length) (W : World) (hb : Below w.heap.size w W) (e1 : Option Addr) (c1 : Nat) (hh : TmAt W l[k].2 e1) => checkR_any vName numOk bitsOk DomA l[k].2 e1 c1 W hh (oracleRA _) (hD k h))
  have CS := hid (fun (W : World) (h : Below w.heap.size w W) => sized_any l q cl hlm (nodes t) t p cp 0 W (Nat.le_refl _) (ht.keep h) hct (hl.keep h) (by omega))
  have CI := hid (fun (h0 : standE l [] = 0) (W : World) (h : Below w.heap.size w W) => inst_any l q cl hlm (hcl h0) (nodes t) t p cp W (Nat.le_refl _) (ht.keep h) hct (hl.keep h))
  have CFO := hid (fun (k : Nat) (hk : k < l.length) (v : Int) (W : World) (h : Below w.heap.size w W) => found_any (l.take k) q cl v W ((hl.keep h).take k) (by simp; omega))
  obtain ⟨r, hr⟩ : ∃ r, r = standE l [] := ⟨_, rfl⟩
  have HRR := hid hr
  have HR := hid (show r = standE (l.drop 0) (varsB l 0) from hr)
  obtain ⟨D, hDD⟩ : ∃ D, D = putD l t := ⟨_, rfl⟩
  have HDD := hid hDD
  rw [← hDD]
  have HD1 := hid (show r ≠ 0 → D = (leaf 0 ⟨#[]⟩ ⟨#[]⟩ 0, r) from fun h => by rw [hDD]; unfold putD; rw [← hr, if_pos h])
  clear hl hD hDt ht h1 hct hcl hr hDD
  unfold Tm.val at CT CS CI ⊢
  go_enter Tryz.func24, Tryz.ntmps24
  go_upto_region 4 with (go_at_call 31; rw [← hW0]; (with_reducible refine (CT.out _ B0.out).mono ?_); rintro x w1 ⟨rfl, hb⟩; have B1 := hid (B0.out.trans (hb.mono B0.out.size)); have E1 := hid (obj_keep E0.out hb); have Z1 := hid ((hb.block _ (lt_of_block Z0.out)).trans Z0.out); clear hb E0 Z0 hW0)
  go_wp2_with fail
  go_loopw [7] (fun i wr => ∃ (k : Nat), k ≤ l.length ∧ i = .int .i64 (k : Int) ∧ Hid (wr.heap[w.heap.size]? = some (.cells #[.int .i64 t.kind, .string t.name, .string t.num, .int .u64 t.bits, .int .i64 t.var, .slice p t.args.length cp] 25 (0, 0))) ∧ Hid (wr.heap[w.heap.size + 1]? = some (.cells #[.int .i64 0, .string ⟨#[]⟩, .string ⟨#[]⟩, .int .u64 0, .int .i64 0, .slice none 0 0] 25 (0, 0))) ∧ Hid (r = standE (l.drop k) (varsB l k)) ∧ Hid (Below w.heap.size w wr)) (fun i _ => l.length - (intOf i).toNat)
  case atStart => exact ⟨0, by omega, rfl, E1, Z1, HR, B1⟩
  case round =>
    clear E1 Z1 HR B1
    obtain ⟨k, hk, rfl, P, Z, HR, hBr⟩ := hrel
    by_cases hlk : k < l.length
    · have hk0 : (0 : Int) ≤ (k : Int) := by omega
      have hk1 : (k : Int) < (l.length : Int) := by omega
      have hkc : (k : Int) ≤ (cl : Int) := by omega
      obtain ⟨b, o, rfl, e1, c1, hv, hs1, ht1⟩ := HL.out k hlk
      have HV := hid (heap_cell_keep hBr.out hv)
      have HS := hid (hs1.keep hBr.out)
      have HE := hid (HR.out.trans (standE_drop l k hlk))
      have CC := hid (fun (W : World) (hb : Below w.heap.size w W) => CL.out k hlk W hb e1 c1 (ht1.keep hb))
      have CF0 := hid (fun (W : World) (h : Below w.heap.size w W) => CFO.out k hlk l[k].1 W h)
      have HTW0 := hid (show (lookB (l.take k) l[k].1).isSome = decide (l[k].1 ∈ varsB l k) from lookB_vars _ _)
      clear hv hs1 ht1 HR
      generalize hbv : l[k].1 = bv at *
      generalize htt : l[k].2 = t1 at *
      clear hbv htt
      unfold Tm.val at CC
      obtain ⟨tw, htw⟩ : ∃ tw, tw = (lookB (l.take k) bv).isSome := ⟨_, rfl⟩
      have HTW := hid (htw.trans HTW0.out)
      have CF := hid (show ∀ W, Below wr.heap.size wr W → Calls Tryz.prog 69 #[.slice (some ⟨b, o, none⟩) k cl, .int .i64 bv] W fun e w' => ∃ (u : Tm) (pu : Option Addr) (cu : Nat), e = .returned (.tuple #[.agg #[.int .i64 u.kind, .string u.name, .string u.num, .int .u64 u.bits, .int .i64 u.var, .slice pu u.args.length cu], .bool tw]) ∧ Below W.heap.size W w' from fun W h => by
        have h5 := CF0.out W (hBr.out.trans (h.mono hBr.out.size))
        rw [show (l.take k).length = k by simp; omega, ← htw] at h5
        exact h5.mono fun e w' ⟨pu, cu, h6, _, h7⟩ => ⟨_, pu, cu, h6, h7⟩)
      clear CF0 HTW0 htw
      have SX := hid (show ∀ W : World, Below wr.heap.size wr W → W.cell? ⟨b, o + k * 7, none⟩ = some (.int .i64 bv) from fun W h => heap_cell_keep h HV.out)
      have BRD := hid (show Below wr.heap.size wr wr.drew from (Below.refl _ _).drew)
      go_wp2_with fail
      have sd := SX.out wr.drew BRD.out
      refine wp_region_held_drew (S := fun W => W.cell? ⟨b, o + k * 7, none⟩ = some (.int .i64 bv)) (by kernel_rfl) sd (fun hHeld => ?_)
      refine' wpAnyH_take (i := 0) (v := (.slice (some ⟨b, o, none⟩) l.length cl)) rfl (by decide +kernel) (by decide +kernel) (by decide +kernel) (fun _ _ _ h => h) (Or.inl ⟨by rfl, ?hyT1⟩) (by assumption) ?restT1
      case hyT1 => (intro w5 hSw; (try dsimp only at hSw); go_simp; try with_reducible rfl)
      case' restT1 => (try simp only [Act.put, List.setIfInBounds_toArray, List.set_cons_zero, List.set_cons_succ])
      refine' wpAnyH_take (i := 1) (v := (.int .i64 (k : Int))) rfl (by decide +kernel) (by decide +kernel) (by decide +kernel) (fun _ _ _ h => h) (Or.inl ⟨by rfl, ?hyT2⟩) (by assumption) ?restT2
      case hyT2 => (intro w5 hSw; (try dsimp only at hSw); go_simp; try with_reducible rfl)
      case' restT2 => (try simp only [Act.put, List.setIfInBounds_toArray, List.set_cons_zero, List.set_cons_succ])
      refine' wpAnyH_take (i := 2) (v := (.slice (some ⟨b, o, none⟩) k cl)) rfl (by decide +kernel) (by decide +kernel) (by decide +kernel) (fun _ _ _ h => h) (Or.inl ⟨by rfl, ?hyT3⟩) (by assumption) ?restT3
      case hyT3 => (intro w5 hSw; (try dsimp only at hSw); go_simp; try with_reducible rfl)
      case' restT3 => (try simp only [Act.put, List.setIfInBounds_toArray, List.set_cons_zero, List.set_cons_succ])
      refine' wpAnyH_take (i := 3) (v := (.slice (some ⟨b, o, none⟩) l.length cl)) rfl (by decide +kernel) (by decide +kernel) (by decide +kernel) (fun _ _ _ h => h) (Or.inl ⟨by rfl, ?hyT4⟩) (by assumption) ?restT4
      case hyT4 => (intro w5 hSw; (try dsimp only at hSw); go_simp; try with_reducible rfl)
      case' restT4 => (try simp only [Act.put, List.setIfInBounds_toArray, List.set_cons_zero, List.set_cons_succ])
      refine' wpAnyH_take (i := 4) (v := (.int .i64 (k : Int))) rfl (by decide +kernel) (by decide +kernel) (by decide +kernel) (fun _ _ _ h => h) (Or.inl ⟨by rfl, ?hyT5⟩) (by assumption) ?restT5
      case hyT5 => (intro w5 hSw; (try dsimp only at hSw); go_simp; try with_reducible rfl)
      case' restT5 => (try simp only [Act.put, List.setIfInBounds_toArray, List.set_cons_zero, List.set_cons_succ])
      refine' wpAnyH_take (i := 5) (v := (.pointer (some ⟨b, o + k * 7, none⟩))) rfl (by decide +kernel) (by decide +kernel) (by decide +kernel) (fun _ _ _ h => h) (Or.inl ⟨by rfl, ?hyT6⟩) (by assumption) ?restT6
      case hyT6 => (intro w5 hSw; (try dsimp only at hSw); go_simp; try with_reducible rfl)
      case' restT6 => (try simp only [Act.put, List.setIfInBounds_toArray, List.set_cons_zero, List.set_cons_succ])
      refine' wpAnyH_take (i := 6) (v := (.pointer (some ⟨b, o + k * 7, none⟩))) rfl (by decide +kernel) (by decide +kernel) (by decide +kernel) (fun _ _ _ h => h) (Or.inl ⟨by rfl, ?hyT7⟩) (by assumption) ?restT7
      case hyT7 => (intro w5 hSw; (try dsimp only at hSw); go_simp; try with_reducible rfl)
      case' restT7 => (try simp only [Act.put, List.setIfInBounds_toArray, List.set_cons_zero, List.set_cons_succ])
      refine' wpAnyH_take (i := 7) (v := (.int .i64 bv)) rfl (by decide +kernel) (by decide +kernel) (by decide +kernel) (fun _ _ _ h => h) (Or.inl ⟨by rfl, ?hyT8⟩) (by assumption) ?restT8
      case hyT8 => (intro w5 hSw; (try dsimp only at hSw); go_simp; try with_reducible rfl)
      case' restT8 => (try simp only [Act.put, List.setIfInBounds_toArray, List.set_cons_zero, List.set_cons_succ])
      refine wpAnyH_ready (rs := [8, 12]) (by decide +kernel) (by simp) ?_
      refine AllReadyH.cons rfl (fun K hK => ?_) ?_
      · go_simp
        (with_reducible refine (CF.out _ BRD.out).mono ?_)
        rintro e w2 ⟨u, pu, cu, rfl, hb⟩
        have BR2 := hid (show Below wr.heap.size wr w2 from BRD.out.trans (hb.mono BRD.out.size))
        have BW2 := hid hb
        clear hb
        refine hK.out _ _ (SX.out w2 BR2.out) (fun hHeld => ?_)
        clear hK K
        (try simp only [Act.put, List.setIfInBounds_toArray, List.set_cons_zero, List.set_cons_succ])
        refine' wpAnyH_take (i := 9) (v := (.tuple #[.agg #[.int .i64 u.kind, .string u.name, .string u.num, .int .u64 u.bits, .int .i64 u.var, .slice pu u.args.length cu], .bool tw])) rfl (by decide +kernel) (by decide +kernel) (by decide +kernel) (fun _ _ _ h => h) (Or.inl ⟨by rfl, ?hyT9⟩) (by assumption) ?restT9
        case hyT9 => (intro w5 hSw; (try dsimp only at hSw); go_simp; try with_reducible rfl)
        case' restT9 => (try simp only [Act.put, List.setIfInBounds_toArray, List.set_cons_zero, List.set_cons_succ])
        refine' wpAnyH_take (i := 10) (v := (.agg #[.int .i64 u.kind, .string u.name, .string u.num, .int .u64 u.bits, .int .i64 u.var, .slice pu u.args.length cu])) rfl (by decide +kernel) (by decide +kernel) (by decide +kernel) (fun _ _ _ h => h) (Or.inl ⟨by rfl, ?hyT10⟩) (by assumption) ?restT10
        case hyT10 => (intro w5 hSw; (try dsimp only at hSw); go_simp; try with_reducible rfl)
        case' restT10 => (try simp only [Act.put, List.setIfInBounds_toArray, List.set_cons_zero, List.set_cons_succ])
        refine' wpAnyH_take (i := 11) (v := (.bool tw)) rfl (by decide +kernel) (by decide +kernel) (by decide +kernel) (fun _ _ _ h => h) (Or.inl ⟨by rfl, ?hyT11⟩) (by assumption) ?restT11
        case hyT11 => (intro w5 hSw; (try dsimp only at hSw); go_simp; try with_reducible rfl)
        case' restT11 => (try simp only [Act.put, List.setIfInBounds_toArray, List.set_cons_zero, List.set_cons_succ])
        refine wpAnyH_ready (rs := [12]) (by decide +kernel) (by simp) ?_
        refine AllReadyH.cons rfl (fun K hK => ?_) AllReadyH.nil
        go_simp
        obtain ⟨W3, hW3⟩ : ∃ W3, W3 = w2.alloc (.cells #[.int .i64 0, .string ⟨#[]⟩, .string ⟨#[]⟩, .int .u64 0, .int .i64 0, .slice none 0 0] 25) := ⟨_, rfl⟩
        rw [← hW3]
        have A3 := hid (show Below w2.heap.size w2 W3 by rw [hW3]; exact (Below.refl _ _).alloc (Nat.le_refl _) _)
        have N3 := hid (show W3.heap[w2.heap.size]? = some (.cells #[.int .i64 0, .string ⟨#[]⟩, .string ⟨#[]⟩, .int .u64 0, .int .i64 0, .slice none 0 0] 25 (0, 0)) by rw [hW3]; exact World.alloc_heap_new w2 _)
        clear hW3
        have BR3 := hid (BR2.out.trans (A3.out.mono BR2.out.size))
        refine hK.out _ _ (SX.out W3 BR3.out) (fun hHeld => ?_)
        clear hK K
        (try simp only [Act.put, List.setIfInBounds_toArray, List.set_cons_zero, List.set_cons_succ])
        refine wpAnyH_ready (rs := [13]) (by decide +kernel) (by simp) ?_
        refine AllReadyH.cons rfl (fun K hK => ?_) AllReadyH.nil
        obtain ⟨⟨z0, z1, z2, z3, z4, z5⟩, ⟨f0, f1, f2, f3, f4, f5⟩⟩ := six_free N3.out
        go_simp
        obtain ⟨W9, hW9⟩ : ∃ W9, W9 = (((((W3.setCell ⟨w2.heap.size, 0, none⟩ (.int .i64 u.kind)).setCell ⟨w2.heap.size, 1, none⟩ (.string u.name)).setCell ⟨w2.heap.size, 2, none⟩ (.string u.num)).setCell ⟨w2.heap.size, 3, none⟩ (.int .u64 u.bits)).setCell ⟨w2.heap.size, 4, none⟩ (.int .i64 u.var)).setCell ⟨w2.heap.size, 5, none⟩ (.slice pu u.args.length cu) := ⟨_, rfl⟩
        rw [← hW9]
        have B9 := hid (show Below wr.heap.size wr W9 by rw [hW9]; exact set6_below BR3.out (BR2.out.size) _ _ _ _ _ _)
        clear hW9 z0 z1 z2 z3 z4 z5 f0 f1 f2 f3 f4 f5
        refine hK.out _ _ (SX.out W9 B9.out) (fun hHeld => ?_)
        clear hK K
        (try simp only [Act.put, List.setIfInBounds_toArray, List.set_cons_zero, List.set_cons_succ])
        refine' wpAnyH_take (i := 14) (v := (.bool tw)) rfl (by decide +kernel) (by decide +kernel) (by decide +kernel) (fun _ _ _ h => h) (Or.inl ⟨by rfl, ?hyT12⟩) (by assumption) ?restT12
        case hyT12 => (intro w5 hSw; (try dsimp only at hSw); go_simp; try with_reducible rfl)
        case' restT12 => (try simp only [Act.put, List.setIfInBounds_toArray, List.set_cons_zero, List.set_cons_succ])
        refine wpAnyH_done (by kernel_rfl) ?_ _
        clear sd
        have BW9 := hid (hBr.out.trans (B9.out.mono hBr.out.size))
        have ZW9 := hid ((B9.out.block _ (lt_of_block Z.out)).trans Z.out)
        have PW9 := hid ((B9.out.block _ (lt_of_block P.out)).trans P.out)
        have y0 := heap_cell_keep B9.out HV.out
        have hs9 := HS.out.keep B9.out
        obtain ⟨y1, y2, y3, y4, y5, y6⟩ := hs9
        by_cases hne : bv < 0 ∨ tw = true
        · have HR1 := hid (show r = 1 by rw [HE.out, if_pos (hne.symm.imp (fun h => of_decide_eq_true (HTW.out.symm.trans h)) id)])
          obtain ⟨⟨z0, z1, z2, z3, z4, z5⟩, ⟨f0, f1, f2, f3, f4, f5⟩⟩ := six_free ZW9.out
          by_cases hneg : bv < 0
          · go_wp2_with fail
            have hD := (HD1.out (by rw [HR1.out]; decide)).trans (show _ = (leaf 0 ⟨#[]⟩ ⟨#[]⟩ 0, 1) by rw [HR1.out])
            have h6 := set6 ZW9.out (.int .i64 0) (.string ⟨#[]⟩) (.string ⟨#[]⟩) (.int .u64 0) (.int .i64 0) (.slice none 0 0)
            exact bodyPost_ret (results_pair (b := w.heap.size + 1) (t := leaf 0 ⟨#[]⟩ ⟨#[]⟩ 0) (q := none) (cap := 0) rfl _ _ (.int .i64 1) ⟨by rfl, by rfl⟩ h6) rfl ⟨none, 0, [], by rw [hD]; rfl, by rw [hD]; exact (leaf_mine _ _ _ _ _).weak, (fun k hk => by cases hk), set6_below BW9.out (by omega) _ _ _ _ _ _⟩
          · have htw : tw = true := hne.resolve_left hneg
            subst htw
            go_wp2_with fail
            have hD := (HD1.out (by rw [HR1.out]; decide)).trans (show _ = (leaf 0 ⟨#[]⟩ ⟨#[]⟩ 0, 1) by rw [HR1.out])
            have h6 := set6 ZW9.out (.int .i64 0) (.string ⟨#[]⟩) (.string ⟨#[]⟩) (.int .u64 0) (.int .i64 0) (.slice none 0 0)
            refine bodyPost_ret (results_pair (b := w.heap.size + 1) (t := leaf 0 ⟨#[]⟩ ⟨#[]⟩ 0) (q := none) (cap := 0) rfl _ _ (.int .i64 1) ⟨by rfl, by rfl⟩ h6) rfl ?_
            first
              | exact ⟨none, 0, [], by rw [hD]; rfl, by rw [hD]; exact (leaf_mine _ _ _ _ _).weak, (fun k hk => by cases hk), set6_below BW9.out (by omega) _ _ _ _ _ _⟩
              | exact ⟨none, 0, by rw [hD]; rfl, [], by rw [hD]; exact (leaf_mine _ _ _ _ _).weak, (fun k hk => by cases hk), set6_below BW9.out (by omega) _ _ _ _ _ _⟩
        · have hneg : ¬ bv < 0 := fun h => hne (.inl h)
          have htw : tw = false := by cases tw with | false => rfl | true => exact absurd (.inr rfl) hne
          subst htw
          have HE2 := hid (HE.out.trans (if_neg (fun h => h.elim (fun h => by have := HTW.out; rw [decide_eq_true h] at this; cases this) hneg)))
          have CC9 := hid (CC.out W9 BW9.out)
          generalize hce : checkErr vName numOk bitsOk t1 = ce at *
          by_cases he : ce = 0
          · subst he
            have HR3 := hid (show r = standE (l.drop (k + 1)) (varsB l (k + 1)) by rw [HE2.out, if_pos rfl])
            go_wp2_with (go_at_call 31; (with_reducible refine CC9.out.mono ?_); rintro e w10 ⟨rfl, hb⟩; have B10 := hid (BW9.out.trans (hb.mono BW9.out.size)); have Z10 := hid ((hb.block _ (lt_of_block ZW9.out)).trans ZW9.out); have P10 := hid ((hb.block _ (lt_of_block PW9.out)).trans PW9.out); clear hb)
            go_roundw
            case rel => exact ⟨k + 1, by omega, by go_num, P10, Z10, HR3, B10⟩
            case measure => simp [intOf]; omega
          · have HR1 := hid (show r = ce by rw [HE2.out, if_neg he])
            have hq : (ce == 0) = false := beq_eq_false_iff_ne.2 he
            have hq2 : (ce != 0) = true := by simp [he]
            go_wp2_with (go_at_call 31; (with_reducible refine CC9.out.mono ?_); rintro e w10 ⟨rfl, hb⟩; have B10 := hid (BW9.out.trans (hb.mono BW9.out.size)); have Z10 := hid ((hb.block _ (lt_of_block ZW9.out)).trans ZW9.out); clear hb; obtain ⟨⟨z0, z1, z2, z3, z4, z5⟩, ⟨f0, f1, f2, f3, f4, f5⟩⟩ := six_free Z10.out)
            have hD := (HD1.out (by rw [HR1.out]; exact he)).trans (show _ = (leaf 0 ⟨#[]⟩ ⟨#[]⟩ 0, ce) by rw [HR1.out])
            have h6 := set6 Z10.out (.int .i64 0) (.string ⟨#[]⟩) (.string ⟨#[]⟩) (.int .u64 0) (.int .i64 0) (.slice none 0 0)
            exact bodyPost_ret (results_pair (b := w.heap.size + 1) (t := leaf 0 ⟨#[]⟩ ⟨#[]⟩ 0) (q := none) (cap := 0) rfl _ _ (.int .i64 ce) ⟨by rfl, by rfl⟩ h6) rfl ⟨none, 0, [], by rw [hD]; rfl, by rw [hD]; exact (leaf_mine _ _ _ _ _).weak, (fun k hk => by cases hk), set6_below B10.out (by omega) _ _ _ _ _ _⟩
      refine AllReadyH.cons rfl (fun K hK => ?_) AllReadyH.nil
      go_simp
      obtain ⟨W3, hW3⟩ : ∃ W3, W3 = (wr.alloc (.cells #[.int .i64 0, .string ⟨#[]⟩, .string ⟨#[]⟩, .int .u64 0, .int .i64 0, .slice none 0 0] 25)).drew := ⟨_, rfl⟩
      rw [← hW3]
      have BR3 := hid (show Below wr.heap.size wr W3 by rw [hW3]; exact ((Below.refl _ _).alloc (Nat.le_refl _) _).drew)
      have N3 := hid (show W3.heap[wr.heap.size]? = some (.cells #[.int .i64 0, .string ⟨#[]⟩, .string ⟨#[]⟩, .int .u64 0, .int .i64 0, .slice none 0 0] 25 (0, 0)) by rw [hW3]; exact (show (wr.alloc _).heap[wr.heap.size]? = _ from World.alloc_heap_new wr _))
      clear hW3
      refine hK.out _ _ (SX.out W3 BR3.out) (fun hHeld => ?_)
      clear hK K
      (try simp only [Act.put, List.setIfInBounds_toArray, List.set_cons_zero, List.set_cons_succ])
      refine wpAnyH_ready (rs := [8]) (by decide +kernel) (by simp) ?_
      refine AllReadyH.cons rfl (fun K hK => ?_) AllReadyH.nil
      go_simp
      (with_reducible refine (CF.out _ BR3.out).mono ?_)
      rintro e w2 ⟨u, pu, cu, rfl, hb⟩
      have BR2 := hid (show Below wr.heap.size wr w2 from BR3.out.trans (hb.mono BR3.out.size))
      have BW2 := hid hb
      clear hb
      refine hK.out _ _ (SX.out w2 BR2.out) (fun hHeld => ?_)
      clear hK K
      (try simp only [Act.put, List.setIfInBounds_toArray, List.set_cons_zero, List.set_cons_succ])
      refine' wpAnyH_take (i := 9) (v := (.tuple #[.agg #[.int .i64 u.kind, .string u.name, .string u.num, .int .u64 u.bits, .int .i64 u.var, .slice pu u.args.length cu], .bool tw])) rfl (by decide +kernel) (by decide +kernel) (by decide +kernel) (fun _ _ _ h => h) (Or.inl ⟨by rfl, ?hyT13⟩) (by assumption) ?restT13
      case hyT13 => (intro w5 hSw; (try dsimp only at hSw); go_simp; try with_reducible rfl)
      case' restT13 => (try simp only [Act.put, List.setIfInBounds_toArray, List.set_cons_zero, List.set_cons_succ])
      refine' wpAnyH_take (i := 10) (v := (.agg #[.int .i64 u.kind, .string u.name, .string u.num, .int .u64 u.bits, .int .i64 u.var, .slice pu u.args.length cu])) rfl (by decide +kernel) (by decide +kernel) (by decide +kernel) (fun _ _ _ h => h) (Or.inl ⟨by rfl, ?hyT14⟩) (by assumption) ?restT14
      case hyT14 => (intro w5 hSw; (try dsimp only at hSw); go_simp; try with_reducible rfl)
      case' restT14 => (try simp only [Act.put, List.setIfInBounds_toArray, List.set_cons_zero, List.set_cons_succ])
      refine' wpAnyH_take (i := 11) (v := (.bool tw)) rfl (by decide +kernel) (by decide +kernel) (by decide +kernel) (fun _ _ _ h => h) (Or.inl ⟨by rfl, ?hyT15⟩) (by assumption) ?restT15
      case hyT15 => (intro w5 hSw; (try dsimp only at hSw); go_simp; try with_reducible rfl)
      case' restT15 => (try simp only [Act.put, List.setIfInBounds_toArray, List.set_cons_zero, List.set_cons_succ])
      refine wpAnyH_ready (rs := [13]) (by decide +kernel) (by simp) ?_
      refine AllReadyH.cons rfl (fun K hK => ?_) AllReadyH.nil
      have N2 := (BW2.out.block _ (lt_of_block N3.out)).trans N3.out
      obtain ⟨⟨z0, z1, z2, z3, z4, z5⟩, ⟨f0, f1, f2, f3, f4, f5⟩⟩ := six_free N2
      clear N2
      go_simp
      obtain ⟨W9, hW9⟩ : ∃ W9, W9 = (((((w2.setCell ⟨wr.heap.size, 0, none⟩ (.int .i64 u.kind)).setCell ⟨wr.heap.size, 1, none⟩ (.string u.name)).setCell ⟨wr.heap.size, 2, none⟩ (.string u.num)).setCell ⟨wr.heap.size, 3, none⟩ (.int .u64 u.bits)).setCell ⟨wr.heap.size, 4, none⟩ (.int .i64 u.var)).setCell ⟨wr.heap.size, 5, none⟩ (.slice pu u.args.length cu) := ⟨_, rfl⟩
      rw [← hW9]
      have B9 := hid (show Below wr.heap.size wr W9 by rw [hW9]; exact set6_below BR2.out (Nat.le_refl _) _ _ _ _ _ _)
      clear hW9 z0 z1 z2 z3 z4 z5 f0 f1 f2 f3 f4 f5
      refine hK.out _ _ (SX.out W9 B9.out) (fun hHeld => ?_)
      clear hK K
      (try simp only [Act.put, List.setIfInBounds_toArray, List.set_cons_zero, List.set_cons_succ])
      refine' wpAnyH_take (i := 14) (v := (.bool tw)) rfl (by decide +kernel) (by decide +kernel) (by decide +kernel) (fun _ _ _ h => h) (Or.inl ⟨by rfl, ?hyT16⟩) (by assumption) ?restT16
      case hyT16 => (intro w5 hSw; (try dsimp only at hSw); go_simp; try with_reducible rfl)
      case' restT16 => (try simp only [Act.put, List.setIfInBounds_toArray, List.set_cons_zero, List.set_cons_succ])
      refine wpAnyH_done (by kernel_rfl) ?_ _
      clear sd
      have BW9 := hid (hBr.out.trans (B9.out.mono hBr.out.size))
      have ZW9 := hid ((B9.out.block _ (lt_of_block Z.out)).trans Z.out)
      have PW9 := hid ((B9.out.block _ (lt_of_block P.out)).trans P.out)
      have y0 := heap_cell_keep B9.out HV.out
      have hs9 := HS.out.keep B9.out
      obtain ⟨y1, y2, y3, y4, y5, y6⟩ := hs9
      by_cases hne : bv < 0 ∨ tw = true
      · have HR1 := hid (show r = 1 by rw [HE.out, if_pos (hne.symm.imp (fun h => of_decide_eq_true (HTW.out.symm.trans h)) id)])
        obtain ⟨⟨z0, z1, z2, z3, z4, z5⟩, ⟨f0, f1, f2, f3, f4, f5⟩⟩ := six_free ZW9.out
        by_cases hneg : bv < 0
        · go_wp2_with fail
          have hD := (HD1.out (by rw [HR1.out]; decide)).trans (show _ = (leaf 0 ⟨#[]⟩ ⟨#[]⟩ 0, 1) by rw [HR1.out])
          have h6 := set6 ZW9.out (.int .i64 0) (.string ⟨#[]⟩) (.string ⟨#[]⟩) (.int .u64 0) (.int .i64 0) (.slice none 0 0)
          exact bodyPost_ret (results_pair (b := w.heap.size + 1) (t := leaf 0 ⟨#[]⟩ ⟨#[]⟩ 0) (q := none) (cap := 0) rfl _ _ (.int .i64 1) ⟨by rfl, by rfl⟩ h6) rfl ⟨none, 0, [], by rw [hD]; rfl, by rw [hD]; exact (leaf_mine _ _ _ _ _).weak, (fun k hk => by cases hk), set6_below BW9.out (by omega) _ _ _ _ _ _⟩
        · have htw : tw = true := hne.resolve_left hneg
          subst htw
          go_wp2_with fail
          have hD := (HD1.out (by rw [HR1.out]; decide)).trans (show _ = (leaf 0 ⟨#[]⟩ ⟨#[]⟩ 0, 1) by rw [HR1.out])
          have h6 := set6 ZW9.out (.int .i64 0) (.string ⟨#[]⟩) (.string ⟨#[]⟩) (.int .u64 0) (.int .i64 0) (.slice none 0 0)
          refine bodyPost_ret (results_pair (b := w.heap.size + 1) (t := leaf 0 ⟨#[]⟩ ⟨#[]⟩ 0) (q := none) (cap := 0) rfl _ _ (.int .i64 1) ⟨by rfl, by rfl⟩ h6) rfl ?_
          first
            | exact ⟨none, 0, [], by rw [hD]; rfl, by rw [hD]; exact (leaf_mine _ _ _ _ _).weak, (fun k hk => by cases hk), set6_below BW9.out (by omega) _ _ _ _ _ _⟩
            | exact ⟨none, 0, by rw [hD]; rfl, [], by rw [hD]; exact (leaf_mine _ _ _ _ _).weak, (fun k hk => by cases hk), set6_below BW9.out (by omega) _ _ _ _ _ _⟩
      · have hneg : ¬ bv < 0 := fun h => hne (.inl h)
        have htw : tw = false := by cases tw with | false => rfl | true => exact absurd (.inr rfl) hne
        subst htw
        have HE2 := hid (HE.out.trans (if_neg (fun h => h.elim (fun h => by have := HTW.out; rw [decide_eq_true h] at this; cases this) hneg)))
        have CC9 := hid (CC.out W9 BW9.out)
        generalize hce : checkErr vName numOk bitsOk t1 = ce at *
        by_cases he : ce = 0
        · subst he
          have HR3 := hid (show r = standE (l.drop (k + 1)) (varsB l (k + 1)) by rw [HE2.out, if_pos rfl])
          go_wp2_with (go_at_call 31; (with_reducible refine CC9.out.mono ?_); rintro e w10 ⟨rfl, hb⟩; have B10 := hid (BW9.out.trans (hb.mono BW9.out.size)); have Z10 := hid ((hb.block _ (lt_of_block ZW9.out)).trans ZW9.out); have P10 := hid ((hb.block _ (lt_of_block PW9.out)).trans PW9.out); clear hb)
          go_roundw
          case rel => exact ⟨k + 1, by omega, by go_num, P10, Z10, HR3, B10⟩
          case measure => simp [intOf]; omega
        · have HR1 := hid (show r = ce by rw [HE2.out, if_neg he])
          have hq : (ce == 0) = false := beq_eq_false_iff_ne.2 he
          have hq2 : (ce != 0) = true := by simp [he]
          go_wp2_with (go_at_call 31; (with_reducible refine CC9.out.mono ?_); rintro e w10 ⟨rfl, hb⟩; have B10 := hid (BW9.out.trans (hb.mono BW9.out.size)); have Z10 := hid ((hb.block _ (lt_of_block ZW9.out)).trans ZW9.out); clear hb; obtain ⟨⟨z0, z1, z2, z3, z4, z5⟩, ⟨f0, f1, f2, f3, f4, f5⟩⟩ := six_free Z10.out)
          have hD := (HD1.out (by rw [HR1.out]; exact he)).trans (show _ = (leaf 0 ⟨#[]⟩ ⟨#[]⟩ 0, ce) by rw [HR1.out])
          have h6 := set6 Z10.out (.int .i64 0) (.string ⟨#[]⟩) (.string ⟨#[]⟩) (.int .u64 0) (.int .i64 0) (.slice none 0 0)
          exact bodyPost_ret (results_pair (b := w.heap.size + 1) (t := leaf 0 ⟨#[]⟩ ⟨#[]⟩ 0) (q := none) (cap := 0) rfl _ _ (.int .i64 ce) ⟨by rfl, by rfl⟩ h6) rfl ⟨none, 0, [], by rw [hD]; rfl, by rw [hD]; exact (leaf_mine _ _ _ _ _).weak, (fun k hk => by cases hk), set6_below B10.out (by omega) _ _ _ _ _ _⟩
    · obtain rfl : k = l.length := by omega
      have HR2 := hid (show r = 0 by rw [HR.out, List.drop_length]; rfl)
      have h00 : standE l [] = 0 := HRR.out.symm.trans HR2.out
      have CI2 := hid (CI.out h00)
      obtain ⟨⟨x0, x1, x2, x3, x4, x5⟩, _⟩ := six_free P.out
      have CS2 := hid (CS.out wr hBr.out)
      rw [Nat.zero_add, show ((0 : Nat) : Int) = 0 from rfl] at CS2
      by_cases hsz : 4000 < nodes (instT l t)
      · have hz1 : capped (nodes (instT l t)) 4001 = 4001 := by unfold capped; split <;> omega
        rw [hz1] at CS2
        have HD2 := hid (show D = (leaf 0 ⟨#[]⟩ ⟨#[]⟩ 0, 24) by rw [HDD.out]; unfold putD; rw [if_neg (by simp [h00]), if_pos hsz])
        go_wp2_with (go_at_call 70; (with_reducible refine CS2.out.mono ?_); rintro x w3 ⟨rfl, hb⟩; clear x0 x1 x2 x3 x4 x5; have B3 := hid (hBr.out.trans (hb.mono hBr.out.size)); have Z3 := hid ((hb.block _ (lt_of_block Z.out)).trans Z.out); clear hb; obtain ⟨⟨z0, z1, z2, z3, z4, z5⟩, ⟨f0, f1, f2, f3, f4, f5⟩⟩ := six_free Z3.out)
        have h6 := set6 Z3.out (.int .i64 0) (.string ⟨#[]⟩) (.string ⟨#[]⟩) (.int .u64 0) (.int .i64 0) (.slice none 0 0)
        have hD := HD2.out
        exact bodyPost_ret (results_pair (b := w.heap.size + 1) (t := leaf 0 ⟨#[]⟩ ⟨#[]⟩ 0) (q := none) (cap := 0) rfl _ _ (.int .i64 24) ⟨by rfl, by rfl⟩ h6) rfl ⟨none, 0, [], by rw [hD]; rfl, by rw [hD]; exact (leaf_mine _ _ _ _ _).weak, (fun k hk => by cases hk), set6_below B3.out (by omega) _ _ _ _ _ _⟩
      · have hz1 : capped (nodes (instT l t)) 4001 = (nodes (instT l t) : Int) := by unfold capped; rw [if_pos (by omega)]
        rw [hz1] at CS2
        have hz2 : (nodes (instT l t) : Int) ≤ 4000 := by omega
        have HD2 := hid (show D = (instT l t, 0) by rw [HDD.out]; unfold putD; rw [if_neg (by simp [h00]), if_neg hsz])
        generalize instT l t = U at *
        generalize (nodes U : Int) = z at *
        clear CI CS
        go_wp2_with (first
          | (go_at_call 70; (with_reducible refine CS2.out.mono ?_); rintro x w3 ⟨rfl, hb⟩; clear x0 x1 x2 x3 x4 x5; have B3 := hid (hBr.out.trans (hb.mono hBr.out.size)); have Z3 := hid ((hb.block _ (lt_of_block Z.out)).trans Z.out); have P3 := hid ((hb.block _ (lt_of_block P.out)).trans P.out); clear hb; obtain ⟨⟨x0, x1, x2, x3, x4, x5⟩, _⟩ := six_free P3.out)
          | (go_at_call 55; (with_reducible refine (CI2.out _ B3.out).mono ?_); rintro x w4 ⟨q4, c4, S4, rfl, hm, hS, hb⟩; clear x0 x1 x2 x3 x4 x5; have HM := hid hm; have HS4 := hid hS; have B4 := hid (B3.out.trans (hb.mono B3.out.size)); have Z4 := hid ((hb.block _ (lt_of_block Z3.out)).trans Z3.out); have HLT := hid (lt_of_block Z3.out); clear hb hm hS; obtain ⟨⟨z0, z1, z2, z3, z4, z5⟩, ⟨f0, f1, f2, f3, f4, f5⟩⟩ := six_free Z4.out)
          | fail)
        have h6 := set6 Z4.out (.int .i64 U.kind) (.string U.name) (.string U.num) (.int .u64 U.bits) (.int .i64 U.var) (.slice q4 U.args.length c4)
        have hgr := set6_grown w4 (w.heap.size + 1) (.int .i64 U.kind) (.string U.name) (.string U.num) (.int .u64 U.bits) (.int .i64 U.var) (.slice q4 U.args.length c4)
        have hD := HD2.out
        exact bodyPost_ret (results_pair (b := w.heap.size + 1) (t := U) (q := q4) (cap := c4) rfl _ _ (.int .i64 0) ⟨by rfl, by rfl⟩ h6) rfl ⟨q4, c4, S4, by rw [hD]; rfl, by rw [hD]; exact (HM.out.same fun x hx => hgr.block x (HM.out.lt x hx) (fun e => by have := HS4.out x hx; have := HLT.out; have := Option.some.inj e; omega)), (fun k hk => by have := HS4.out k hk; have := B3.out.size; omega), set6_below B4.out (by omega) _ _ _ _ _ _⟩
end Go.Proofs.YtkapejcbmonfkaaGreatDoor

namespace Go.Proofs.YtkapejcbmonfkaaGreatDoor
open Go.RowKit

theorem put_any (t : Tm) (p : Option Addr) (cp : Nat) (l : List Bnd) (q : Option Addr) (cl : Nat) (w : World) (ht : TmAt w t p) (hl : BindAt w l q) (hX : Utf w) (hDt : AllT DomA t) (hD : ∀ k (h : k < l.length), AllT DomA l[k].2) (hwf : ∀ k (h : k < l.length), (Lit.int .i64 l[k].1).wf = true) (hlm : l.length ≤ 4398046511104) (h1 : checkErr vName numOk bitsOk t = 0) (hct : AllT CpOk t) (hcl : standE l [] = 0 → ∀ k (h : k < l.length), AllT CpOk l[k].2) :
    Calls Tryz.prog 23 #[t.val p cp, .slice q l.length cl] w fun x w' => ∃ q2 c2 S, x = .returned (.tuple #[(putD l t).1.val q2 c2, .int .i64 (putD l t).2]) ∧ MineT w' (putD l t).1 q2 c2 S ∧ (∀ k ∈ S, w.heap.size ≤ k) ∧ Below w.heap.size w w' := by
  by_cases h2 : standE l [] = 0
  · by_cases h3 : 4000 < nodes (instT l t)
    · have e : putD l t = (leaf 0 ⟨#[]⟩ ⟨#[]⟩ 0, 24) := by unfold putD; rw [if_neg (by simp [h2]), if_pos h3]
      rw [e]
      exact (put_bad3 t p cp l q cl w ht hl hX hDt hD hwf hlm h1 h2 hct (hcl h2) h3).mono fun x w' ⟨a, b⟩ => ⟨none, 0, [], a, leaf_mine _ _ _ _ _, by simp, b⟩
    · have e : putD l t = (instT l t, 0) := by unfold putD; rw [if_neg (by simp [h2]), if_neg h3]
      rw [e]
      exact put_good t p cp l q cl w ht hl hX hDt hD hwf hlm h1 h2 hct (hcl h2) (by omega)
  · have e : putD l t = (leaf 0 ⟨#[]⟩ ⟨#[]⟩ 0, standE l []) := by unfold putD; rw [if_pos h2]
    rw [e]
    exact (put_bad2 t p cp l q cl w ht hl hX hDt hD hwf hlm h1 h2).mono fun x w' ⟨a, b⟩ => ⟨none, 0, [], a, leaf_mine _ _ _ _ _, by simp, b⟩
end Go.Proofs.YtkapejcbmonfkaaGreatDoor

namespace Go.Proofs.YtkapejcbmonfkaaGreatDoor
open Go.RowKit

set_option maxRecDepth 100000 in
set_option maxHeartbeats 16000000 in
theorem putR_bad1 (t : Tm) (p : Option Addr) (cp : Nat) (l : List Bnd) (q : Option Addr) (cl : Nat) (w : World) (ht : TmAt w t p) (hDt : AllT DomA t) (hlm : l.length ≤ 4398046511104) (hv : checkErr vName numOk bitsOk t ≠ 0) :
    Calls Tryz.prog 24 #[t.val p cp, .slice q l.length cl] w fun x w' => x = .returned (.tuple #[(leaf 0 ⟨#[]⟩ ⟨#[]⟩ 0).val none 0, .int .i64 (checkErr vName numOk bitsOk t)]) ∧ Below w.heap.size w w' := by
  have HT := hid ht
  have hlm' : (l.length : Int) ≤ 4398046511104 := by omega
  obtain ⟨W0, hW0⟩ : ∃ W0, W0 = (w.alloc (.cells #[.int .i64 t.kind, .string t.name, .string t.num, .int .u64 t.bits, .int .i64 t.var, .slice p t.args.length cp] 25)).alloc (.cells #[.int .i64 0, .string ⟨#[]⟩, .string ⟨#[]⟩, .int .u64 0, .int .i64 0, .slice none 0 0] 25) := ⟨_, rfl⟩
  have B0 := hid (show Below w.heap.size w W0 by rw [hW0]; exact ((Below.refl w.heap.size w).alloc (Nat.le_refl _) _).alloc (by simp) _)
  have E0 := hid (show W0.heap[w.heap.size]? = some (.cells #[.int .i64 t.kind, .string t.name, .string t.num, .int .u64 t.bits, .int .i64 t.var, .slice p t.args.length cp] 25 (0, 0)) by rw [hW0]; exact (heap_alloc_old (w.alloc _) _ (by simp)).trans (heap_alloc_new w _))
  have Z0 := hid (show W0.heap[w.heap.size + 1]? = some (.cells #[.int .i64 0, .string ⟨#[]⟩, .string ⟨#[]⟩, .int .u64 0, .int .i64 0, .slice none 0 0] 25 (0, 0)) by
    rw [hW0]
    have h := heap_alloc_new (w.alloc (.cells #[.int .i64 t.kind, .string t.name, .string t.num, .int .u64 t.bits, .int .i64 t.var, .slice p t.args.length cp] 25)) (.cells #[.int .i64 0, .string ⟨#[]⟩, .string ⟨#[]⟩, .int .u64 0, .int .i64 0, .slice none 0 0] 25)
    rwa [World.size_alloc] at h)
  have CC := hid (fun (W : World) (h : Below w.heap.size w W) => checkR_any vName numOk bitsOk DomA t p cp W (ht.keep h) (oracleRA _) hDt)
  have HDT := hid hDt
  unfold Tm.val at CC
  clear hDt hlm ht
  generalize checkErr vName numOk bitsOk t = v at *
  have hq : (v == 0) = false := beq_eq_false_iff_ne.2 hv
  have hq2 : (v != 0) = true := by simp [hv]
  clear hv
  unfold Tm.val
  go_enter Tryz.func24, Tryz.ntmps24
  go_wp2_with (first
    | (go_at_call 31; rw [← hW0]; (with_reducible refine (CC.out _ B0.out).mono ?_); rintro x w1 ⟨rfl, hb⟩; have B1 := hid (B0.out.trans (hb.mono B0.out.size)); have E1 := hid (obj_keep E0.out hb); have Z1 := hid ((hb.block _ (lt_of_block Z0.out)).trans Z0.out); clear hb E0 Z0; obtain ⟨⟨x0, x1, x2, x3, x4, x5⟩, _⟩ := six_free E1.out; clear hW0; obtain ⟨⟨z0, z1, z2, z3, z4, z5⟩, ⟨f0, f1, f2, f3, f4, f5⟩⟩ := six_free Z1.out)
    | fail)
  have h6 := set6 Z1.out (.int .i64 0) (.string ⟨#[]⟩) (.string ⟨#[]⟩) (.int .u64 0) (.int .i64 0) (.slice none 0 0)
  exact bodyPost_ret (results_pair (b := w.heap.size + 1) (t := leaf 0 ⟨#[]⟩ ⟨#[]⟩ 0) (q := none) (cap := 0) rfl _ _ (.int .i64 v) ⟨by rfl, by rfl⟩ h6) rfl ⟨rfl, set6_below B1.out (by omega) _ _ _ _ _ _⟩
end Go.Proofs.YtkapejcbmonfkaaGreatDoor
