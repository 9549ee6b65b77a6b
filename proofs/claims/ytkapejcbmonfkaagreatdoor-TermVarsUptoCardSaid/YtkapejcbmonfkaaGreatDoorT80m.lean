/- Walk of the document's answer: Found: what stands for a variable. No condition but those that the theorem names. Walk of the document's answer: Inst: a term with others in the places of variables. No condition but those that the theorem names. Walk of the document's answer: sized: how many nodes a term has with others in the places of variables. No condition but those that the theorem names. -/
import Derived.Test.YtkapejcbmonfkaaGreatDoorT84m
namespace Go.Proofs.YtkapejcbmonfkaaGreatDoor
open Go.RowKit

def foundV (l : List Bnd) (v : Int) : Tm := (lookB l v).getD (leaf 0 ⟨#[]⟩ ⟨#[]⟩ 0)
theorem lookB_drop (l : List Bnd) (v : Int) (k : Nat) (h : k < l.length) : lookB (l.drop k) v = if l[k].1 = v then some l[k].2 else lookB (l.drop (k + 1)) v := by
  rw [List.drop_eq_getElem_cons h]
  rfl
set_option maxRecDepth 100000 in
set_option maxHeartbeats 8000000 in
theorem found_any (l : List Bnd) (q : Option Addr) (cl : Nat) (v : Int) (w : World) (hl : BindAt w l q) (hlm : l.length ≤ 4398046511104) :
    Calls Tryz.prog 69 #[.slice q l.length cl, .int .i64 v] w fun e w' => ∃ p c, e = .returned (.tuple #[(foundV l v).val p c, .bool (lookB l v).isSome]) ∧ (∀ u, lookB l v = some u → TmAt w u p) ∧ Below w.heap.size w w' := by
  have HL := hid hl
  have hlm' : (l.length : Int) ≤ 4398046511104 := by omega
  obtain ⟨W0, hW0⟩ : ∃ W0, W0 = w.alloc (.cells #[.int .i64 0, .string ⟨#[]⟩, .string ⟨#[]⟩, .int .u64 0, .int .i64 0, .slice none 0 0] 25) := ⟨_, rfl⟩
  have B0 := hid (show Below w.heap.size w W0 by rw [hW0]; exact (Below.refl _ _).alloc (Nat.le_refl _) _)
  have Z0 := hid (show W0.heap[w.heap.size]? = some (.cells #[.int .i64 0, .string ⟨#[]⟩, .string ⟨#[]⟩, .int .u64 0, .int .i64 0, .slice none 0 0] 25 (0, 0)) by rw [hW0]; exact heap_alloc_new w _)
  obtain ⟨r, hr⟩ : ∃ r, r = lookB l v := ⟨_, rfl⟩
  have HF := hid (show foundV l v = r.getD (leaf 0 ⟨#[]⟩ ⟨#[]⟩ 0) by unfold foundV; rw [hr])
  rw [HF.out, ← hr]
  have HR := hid (show r = lookB (l.drop 0) v from hr)
  unfold Tm.val
  clear hl hr HF
  go_enter Tryz.func69, Tryz.ntmps69
  go_wp2_with fail
  rw [← hW0]
  clear hW0
  go_loopw [6] (fun i wr => ∃ (k : Nat), k ≤ l.length ∧ i = .int .i64 (k : Int) ∧ Hid (wr.heap[w.heap.size]? = some (.cells #[.int .i64 0, .string ⟨#[]⟩, .string ⟨#[]⟩, .int .u64 0, .int .i64 0, .slice none 0 0] 25 (0, 0))) ∧ Hid (r = lookB (l.drop k) v) ∧ Hid (Below w.heap.size w wr)) (fun i _ => l.length - (intOf i).toNat)
  case atStart => exact ⟨0, by omega, rfl, Z0, HR, B0⟩
  case round =>
    clear Z0 HR B0
    obtain ⟨k, hk, rfl, Z, HR, hBr⟩ := hrel
    by_cases hlk : k < l.length
    · have hk0 : (0 : Int) ≤ (k : Int) := by omega
      have hk1 : (k : Int) < (l.length : Int) := by omega
      obtain ⟨b, o, rfl, e1, c1, hv, hs1, ht1⟩ := HL.out k hlk
      have HV := hid (heap_cell_keep hBr.out hv)
      have HS := hid (hs1.keep hBr.out)
      have HT := hid ht1
      have HE := hid (HR.out.trans (lookB_drop l v k hlk))
      clear hv hs1 ht1 HR
      generalize hbv : l[k].1 = bv at *
      generalize htt : l[k].2 = t1 at *
      clear hbv htt
      obtain ⟨g1, g2, g3, g4, g5, g6⟩ := HS.out
      have g0 := HV.out
      by_cases hin : bv = v
      · have HR1 := hid (show r = some t1 by rw [HE.out, if_pos hin])
        have hd : (bv == v) = true := beq_iff_eq.2 hin
        clear HE hin
        obtain ⟨⟨z0, z1, z2, z3, z4, z5⟩, ⟨f0, f1, f2, f3, f4, f5⟩⟩ := six_free Z.out
        go_wp2_with fail
        have h6 := set6 Z.out (.int .i64 t1.kind) (.string t1.name) (.string t1.num) (.int .u64 t1.bits) (.int .i64 t1.var) (.slice e1 t1.args.length c1)
        exact bodyPost_ret (results_pair (b := w.heap.size) (t := t1) (q := e1) (cap := c1) rfl _ _ (.bool true) ⟨by rfl, by rfl⟩ h6) rfl ⟨e1, c1, by rw [HR1.out]; rfl, fun u hu => by rw [HR1.out] at hu; cases hu; exact HT.out, set6_below hBr.out (Nat.le_refl _) _ _ _ _ _ _⟩
      · have HR1 := hid (show r = lookB (l.drop (k + 1)) v by rw [HE.out, if_neg hin])
        have hd : (bv == v) = false := beq_eq_false_iff_ne.2 hin
        clear HE
        go_wp2_with fail
        go_roundw
        case rel => exact ⟨k + 1, by omega, by go_num, Z, HR1, hBr⟩
        case measure => simp [intOf]; omega
    · obtain rfl : k = l.length := by omega
      have HR1 := hid (show r = none by rw [HR.out, List.drop_length]; rfl)
      obtain ⟨⟨z0, z1, z2, z3, z4, z5⟩, ⟨f0, f1, f2, f3, f4, f5⟩⟩ := six_free Z.out
      go_wp2_with fail
      have h6 := set6 Z.out (.int .i64 0) (.string ⟨#[]⟩) (.string ⟨#[]⟩) (.int .u64 0) (.int .i64 0) (.slice none 0 0)
      exact bodyPost_ret (results_pair (b := w.heap.size) (t := leaf 0 ⟨#[]⟩ ⟨#[]⟩ 0) (q := none) (cap := 0) rfl _ _ (.bool false) ⟨by rfl, by rfl⟩ h6) rfl ⟨none, 0, by rw [HR1.out]; rfl, fun u hu => (by rw [HR1.out] at hu; cases hu), set6_below hBr.out (Nat.le_refl _) _ _ _ _ _ _⟩
end Go.Proofs.YtkapejcbmonfkaaGreatDoor

namespace Go.Proofs.YtkapejcbmonfkaaGreatDoor
open Go.RowKit

set_option maxRecDepth 100000 in
set_option maxHeartbeats 8000000 in
theorem inst_any (l : List Bnd) (ql : Option Addr) (cl : Nat) (hlm : l.length ≤ 4398046511104) (hcl : ∀ k (h : k < l.length), AllT CpOk l[k].2) (d : Nat) : ∀ (t : Tm) (p : Option Addr) (cap : Nat) (w : World), nodes t ≤ d → TmAt w t p → AllT CpOk t → BindAt w l ql →
    Calls Tryz.prog 55 #[t.val p cap, .slice ql l.length cl] w fun e w' => ∃ q c S, e = .returned ((instT l t).val q c) ∧ WeakT w' (instT l t) q c S ∧ (∀ k ∈ S, w.heap.size ≤ k) ∧ Below w.heap.size w w' := by
  induction d with
  | zero => intro t p cap w h; have := nodes_pos t; omega
  | succ d ih =>
    intro t p cap w hd hT hC hL
    have IH := hid ih
    have HL := hid hL
    have HT := hid hT
    have HC := hid hC
    have hz := hC.head.2
    have hlt := hT.len
    unfold maxLen at hlt
    by_cases hk1 : t.kind = 1
    · obtain ⟨a1, a2, a3, a4⟩ := hC.head.1 hk1
      have ht : t = leaf 1 ⟨#[]⟩ ⟨#[]⟩ t.var := by
        cases t; simp only [Tm.kind, Tm.name, Tm.num, Tm.bits, Tm.args, Tm.var] at *; subst hk1 a1 a2 a3 a4; rfl
      have hI : instT l t = instV l t.var := instT_var hk1
      generalize hv : t.var = v at *
      rw [hI]
      subst ht
      clear hv hI a1 a2 a3 a4 hk1 HT HC hT hC hz hlt IH ih hd
      obtain ⟨W1, hW1⟩ : ∃ W1, W1 = (w.alloc (.cells #[.int .i64 1, .string ⟨#[]⟩, .string ⟨#[]⟩, .int .u64 0, .int .i64 v, .slice p 0 cap] 25)).alloc (.cells #[.int .i64 0, .string ⟨#[]⟩, .string ⟨#[]⟩, .int .u64 0, .int .i64 0, .slice none 0 0] 25) := ⟨_, rfl⟩
      have P0 := hid (show W1.heap[w.heap.size]? = some (.cells #[.int .i64 1, .string ⟨#[]⟩, .string ⟨#[]⟩, .int .u64 0, .int .i64 v, .slice p 0 cap] 25 (0, 0)) by rw [hW1]; exact (heap_alloc_old (w.alloc _) _ (by simp)).trans (heap_alloc_new w _))
      have P1 := hid (show W1.heap[w.heap.size + 1]? = some (.cells #[.int .i64 0, .string ⟨#[]⟩, .string ⟨#[]⟩, .int .u64 0, .int .i64 0, .slice none 0 0] 25 (0, 0)) by
        rw [hW1]
        have h := heap_alloc_new (w.alloc (.cells #[.int .i64 1, .string ⟨#[]⟩, .string ⟨#[]⟩, .int .u64 0, .int .i64 v, .slice p 0 cap] 25)) (.cells #[.int .i64 0, .string ⟨#[]⟩, .string ⟨#[]⟩, .int .u64 0, .int .i64 0, .slice none 0 0] 25)
        rwa [World.size_alloc] at h)
      have B1 := hid (show Below w.heap.size w W1 by rw [hW1]; exact ((Below.refl w.heap.size w).alloc (Nat.le_refl _) _).alloc (by simp) _)
      have CF := found_any l ql cl v W1 (hL.keep B1.out) hlm
      clear hL
      show Calls Tryz.prog 55 #[.agg #[.int .i64 1, .string ⟨#[]⟩, .string ⟨#[]⟩, .int .u64 0, .int .i64 v, .slice p 0 cap], .slice ql l.length cl] w _
      have hlm' : (l.length : Int) ≤ 4398046511104 := by omega
      cases hlk : lookB l v with
      | none =>
        have hI : instV l v = leaf 1 ⟨#[]⟩ ⟨#[]⟩ v := by unfold instV; rw [hlk]
        rw [hI]
        have hfv : foundV l v = leaf 0 ⟨#[]⟩ ⟨#[]⟩ 0 := by unfold foundV; rw [hlk]; rfl
        rw [hfv, hlk] at CF
        have CF := hid (show Calls Tryz.prog 69 #[.slice ql l.length cl, .int .i64 v] W1 fun e w' => ∃ p c, e = .returned (.tuple #[.agg #[.int .i64 0, .string ⟨#[]⟩, .string ⟨#[]⟩, .int .u64 0, .int .i64 0, .slice p 0 c], .bool false]) ∧ (∀ u, (none : Option Tm) = some u → TmAt W1 u p) ∧ Below W1.heap.size W1 w' from CF)
        clear hI hfv hlk
        unfold Tm.val
        go_enter Tryz.func55, Tryz.ntmps55
        go_upto_region 3 with (go_at_call 69; rw [← hW1]; (with_reducible refine CF.out.mono ?_); rintro e w2 ⟨p2, c2, rfl, _, hb⟩; clear hW1 CF; have B2 := hid (B1.out.trans (hb.mono B1.out.size)); have P02 := hid ((hb.block _ (lt_of_block P0.out)).trans P0.out); have P12 := hid ((hb.block _ (lt_of_block P1.out)).trans P1.out); clear hb)
        obtain ⟨W3, hW3⟩ : ∃ W3, W3 = w2.alloc (.cells #[.int .i64 0, .string ⟨#[]⟩, .string ⟨#[]⟩, .int .u64 0, .int .i64 0, .slice p2 0 c2] 25) := ⟨_, rfl⟩
        rw [← hW3]
        have A3 := hid (show Below w2.heap.size w2 W3 by rw [hW3]; exact (Below.refl _ _).alloc (Nat.le_refl _) _)
        clear hW3
        have B3 := hid (B2.out.trans (A3.out.mono B2.out.size))
        have P03 := hid ((A3.out.block _ (lt_of_block P02.out)).trans P02.out)
        have P13 := hid ((A3.out.block _ (lt_of_block P12.out)).trans P12.out)
        obtain ⟨⟨x0, x1, x2, x3, x4, x5⟩, _⟩ := six_free P03.out
        obtain ⟨⟨z0, z1, z2, z3, z4, z5⟩, ⟨f0, f1, f2, f3, f4, f5⟩⟩ := six_free P13.out
        go_wp2_with fail
        have h1 := set6 P13.out (.int .i64 1) (.string ⟨#[]⟩) (.string ⟨#[]⟩) (.int .u64 0) (.int .i64 v) (.slice p 0 cap)
        exact bodyPost_ret (results_tm rfl _ _ (w.heap.size + 1) (leaf 1 ⟨#[]⟩ ⟨#[]⟩ v) p cap (by rfl) h1) rfl ⟨p, cap, [], rfl, by unfold leaf WeakT; exact ⟨by simp, .inl ⟨rfl, rfl⟩⟩, by simp, set6_below B3.out (by omega) _ _ _ _ _ _⟩
      | some u =>
        have hI : instV l v = u := by unfold instV; rw [hlk]
        rw [hI]
        have hfv : foundV l v = u := by unfold foundV; rw [hlk]; rfl
        rw [hfv, hlk] at CF
        obtain ⟨j, hj, _, hju⟩ := lookB_some hlk
        have HCU := hid (show AllT CpOk u by rw [← hju]; exact hcl j hj)
        have CF := hid (show Calls Tryz.prog 69 #[.slice ql l.length cl, .int .i64 v] W1 fun e w' => ∃ p c, e = .returned (.tuple #[.agg #[.int .i64 u.kind, .string u.name, .string u.num, .int .u64 u.bits, .int .i64 u.var, .slice p u.args.length c], .bool true]) ∧ TmAt W1 u p ∧ Below W1.heap.size W1 w' from CF.mono fun e w' ⟨p, c, h1, h2, h3⟩ => ⟨p, c, h1, h2 u rfl, h3⟩)
        have CO := hid (fun (W : World) (p2 : Option Addr) (c2 : Nat) (h : TmAt W u p2) => own_any (nodes u) u p2 c2 W (Nat.le_refl _) h HCU.out)
        unfold Tm.val at CO ⊢
        clear hI hfv hlk hju
        go_enter Tryz.func55, Tryz.ntmps55
        go_upto_region 3 with (go_at_call 69; rw [← hW1]; (with_reducible refine CF.out.mono ?_); rintro e w2 ⟨p2, c2, rfl, hT2, hb⟩; clear hW1 CF; have B2 := hid (B1.out.trans (hb.mono B1.out.size)); have P12 := hid ((hb.block _ (lt_of_block P1.out)).trans P1.out); have HT2 := hid (hT2.keep hb); clear hb hT2)
        obtain ⟨W3, hW3⟩ : ∃ W3, W3 = w2.alloc (.cells #[.int .i64 u.kind, .string u.name, .string u.num, .int .u64 u.bits, .int .i64 u.var, .slice p2 u.args.length c2] 25) := ⟨_, rfl⟩
        rw [← hW3]
        have A3 := hid (show Below w2.heap.size w2 W3 by rw [hW3]; exact (Below.refl _ _).alloc (Nat.le_refl _) _)
        have P03 := hid (show W3.heap[w2.heap.size]? = some (tobj u p2 c2) by rw [hW3]; exact World.alloc_heap_new w2 _)
        clear hW3
        have B3 := hid (B2.out.trans (A3.out.mono B2.out.size))
        have P13 := hid ((A3.out.block _ (lt_of_block P12.out)).trans P12.out)
        have CO3 := hid (CO.out W3 p2 c2 (HT2.out.keep A3.out))
        obtain ⟨x0, x1, x2, x3, x4, x5⟩ := six_of P03.out
        go_wp2_with (go_at_call 22; (with_reducible refine CO3.out.mono ?_); rintro e w4 ⟨q4, c4, S4, rfl, hm, hS, hb⟩; clear x0 x1 x2 x3 x4 x5; have HM := hid hm; have HS := hid hS; have B4 := hid (B3.out.trans (hb.mono B3.out.size)); have P14 := hid ((hb.block _ (lt_of_block P13.out)).trans P13.out); have HLT := hid (lt_of_block P13.out); clear hm hS hb; obtain ⟨⟨z0, z1, z2, z3, z4, z5⟩, ⟨f0, f1, f2, f3, f4, f5⟩⟩ := six_free P14.out)
        have h1 := set6 P14.out (.int .i64 u.kind) (.string u.name) (.string u.num) (.int .u64 u.bits) (.int .i64 u.var) (.slice q4 u.args.length c4)
        have hgr := set6_grown w4 (w.heap.size + 1) (.int .i64 u.kind) (.string u.name) (.string u.num) (.int .u64 u.bits) (.int .i64 u.var) (.slice q4 u.args.length c4)
        have hlo : ∀ x ∈ S4, w.heap.size + 1 < x := fun x hx => by have := HS.out x hx; have := HLT.out; omega
        exact bodyPost_ret (results_tm rfl _ _ (w.heap.size + 1) u q4 c4 (by rfl) h1) rfl ⟨q4, c4, S4, rfl, (HM.out.same fun x hx => hgr.block x (HM.out.lt x hx) (fun e => by have := hlo x hx; have := Option.some.inj e; omega)).weak, fun x hx => by have := hlo x hx; omega, set6_below B4.out (by omega) _ _ _ _ _ _⟩
    have hq1 : (t.kind == 1) = false := beq_eq_false_iff_ne.2 hk1
    have hI : instT l t = .mk t.kind t.name t.num t.bits t.var (t.args.map (instT l)) := instT_not hk1
    rw [hI]
    clear hI hk1
    have HUV := hid (show ∀ q c, (Tm.mk t.kind t.name t.num t.bits t.var (t.args.map (instT l))).val q c = t.val q c from fun q c => by
      show Value.agg #[.int .i64 t.kind, .string t.name, .string t.num, .int .u64 t.bits, .int .i64 t.var, .slice q (t.args.map (instT l)).length c] = _
      rw [List.length_map]; rfl)
    simp only [HUV.out]
    obtain ⟨i0, hi, hz0, hz1, hz2⟩ := info_parts infoTerm
    have HI := hid hi
    obtain ⟨W2, hW2⟩ : ∃ W2, W2 = ((w.alloc (.cells #[.int .i64 t.kind, .string t.name, .string t.num, .int .u64 t.bits, .int .i64 t.var, .slice p t.args.length cap] 25)).alloc (.cells #[.int .i64 0, .string ⟨#[]⟩, .string ⟨#[]⟩, .int .u64 0, .int .i64 0, .slice none 0 0] 25)).alloc (.cells #[.int .i64 t.kind, .string t.name, .string t.num, .int .u64 t.bits, .int .i64 t.var, .slice none 0 0] 25) := ⟨_, rfl⟩
    have P0 := hid (show W2.heap[w.heap.size]? = some (tobj t p cap) by rw [hW2]; exact (heap_alloc_old ((w.alloc _).alloc _) _ (by simp; omega)).trans ((heap_alloc_old (w.alloc _) _ (by simp)).trans (heap_alloc_new w _)))
    have P1 := hid (show W2.heap[w.heap.size + 1]? = some (.cells #[.int .i64 0, .string ⟨#[]⟩, .string ⟨#[]⟩, .int .u64 0, .int .i64 0, .slice none 0 0] 25 (0, 0)) by
      rw [hW2]
      refine (heap_alloc_old ((w.alloc _).alloc _) _ (by simp)).trans ?_
      have h := heap_alloc_new (w.alloc (.cells #[.int .i64 t.kind, .string t.name, .string t.num, .int .u64 t.bits, .int .i64 t.var, .slice p t.args.length cap] 25)) (.cells #[.int .i64 0, .string ⟨#[]⟩, .string ⟨#[]⟩, .int .u64 0, .int .i64 0, .slice none 0 0] 25)
      rwa [World.size_alloc] at h)
    have P2 := hid (show W2.heap[w.heap.size + 1 + 1]? = some (.cells #[.int .i64 t.kind, .string t.name, .string t.num, .int .u64 t.bits, .int .i64 t.var, .slice none 0 0] 25 (0, 0)) by
      rw [hW2]
      have h := heap_alloc_new ((w.alloc (.cells #[.int .i64 t.kind, .string t.name, .string t.num, .int .u64 t.bits, .int .i64 t.var, .slice p t.args.length cap] 25)).alloc (.cells #[.int .i64 0, .string ⟨#[]⟩, .string ⟨#[]⟩, .int .u64 0, .int .i64 0, .slice none 0 0] 25)) (.cells #[.int .i64 t.kind, .string t.name, .string t.num, .int .u64 t.bits, .int .i64 t.var, .slice none 0 0] 25)
      rwa [World.size_alloc, World.size_alloc] at h)
    have hB := hid (show Below w.heap.size w W2 by rw [hW2]; exact (((Below.refl w.heap.size w).alloc (Nat.le_refl _) _).alloc (by simp) _).alloc (by simp; omega) _)
    unfold Tm.val
    clear ih hT hC hL
    go_enter Tryz.func55, Tryz.ntmps55
    go_wp2_with fail
    rw [← hW2]
    clear hW2
    go_loopw [8] (fun i wr => ∃ (k : Nat) (L : Row) (S : List Nat) (q : Option Addr) (c : Nat), k ≤ t.args.length ∧ i = .int .i64 (k : Int) ∧ Hid (wr.heap[w.heap.size]? = some (tobj t p cap)) ∧ Hid (wr.heap[w.heap.size + 1]? = some (.cells #[.int .i64 0, .string ⟨#[]⟩, .string ⟨#[]⟩, .int .u64 0, .int .i64 0, .slice none 0 0] 25 (0, 0))) ∧ Hid (wr.heap[w.heap.size + 1 + 1]? = some (.cells #[.int .i64 t.kind, .string t.name, .string t.num, .int .u64 t.bits, .int .i64 t.var, .slice q k c] 25 (0, 0))) ∧ Hid (WeakL wr (w.heap.size + 3) q k c L S) ∧ Hid (L.map (·.1) = (t.args.take k).map (instT l)) ∧ Hid (Below w.heap.size w wr)) (fun i _ => t.args.length - (intOf i).toNat)
    case atStart => exact ⟨0, [], [], none, 0, by omega, rfl, P0, P1, P2, hid (WeakL.nil _ _), hid (by simp), hB⟩
    case round =>
      clear P0 P1 P2 hB
      obtain ⟨k, L, S, q, c, hk, rfl, P0, P1, P2, HML, HLM, hBr⟩ := hrel
      obtain ⟨x0, x1, x2, x3, x4, x5⟩ := six_of P0.out
      by_cases hlk : k < t.args.length
      · have hk0 : (0 : Int) ≤ (k : Int) := by omega
        have hk1 : (k : Int) < (t.args.length : Int) := by omega
        obtain ⟨b, o, rfl, e1, c1, hs1, ht1⟩ := HT.out.get k hlk
        have HCALL := hid (fun (W : World) (h : Below w.heap.size w W) => IH.out t.args[k] e1 c1 W (by have := nodes_lt hlk; omega) (ht1.keep h) (HC.out.arg k hlk) (HL.out.keep h))
        have HTK := hid (show (t.args.take (k + 1)).map (instT l) = (t.args.take k).map (instT l) ++ [instT l t.args[k]] by rw [← List.take_append_getElem hlk, List.map_append]; rfl)
        clear ht1
        generalize t.args[k] = t1 at *
        generalize instT l t1 = u1 at *
        unfold Tm.val at HCALL
        have SY := hid (show ∀ W : World, Below w.heap.size w W → W.heap[w.heap.size]? = some (tobj t (some ⟨b, o, none⟩) cap) → W.cell? ⟨w.heap.size, 5, none⟩ = some (.slice (some ⟨b, o, none⟩) t.args.length cap) ∧ W.cell? ⟨b, o + k * 6, none⟩ = some (.int .i64 t1.kind) ∧ W.cell? ⟨b, o + k * 6 + 1, none⟩ = some (.string t1.name) ∧ W.cell? ⟨b, o + k * 6 + 2, none⟩ = some (.string t1.num) ∧ W.cell? ⟨b, o + k * 6 + 3, none⟩ = some (.int .u64 t1.bits) ∧ W.cell? ⟨b, o + k * 6 + 4, none⟩ = some (.int .i64 t1.var) ∧ W.cell? ⟨b, o + k * 6 + 5, none⟩ = some (.slice e1 t1.args.length c1) from fun W h h0 =>
          have m := hs1.keep h
          ⟨(six_of h0).c5, m.c0, m.c1, m.c2, m.c3, m.c4, m.c5⟩)
        have SX := hid (fun (W : World) (h : Below wr.heap.size wr W) => SY.out W (hBr.out.trans (h.mono hBr.out.size)) ((h.block _ (lt_of_block P0.out)).trans P0.out))
        have BRD := hid (show Below wr.heap.size wr wr.drew from (Below.refl _ _).drew)
        have BD := hid (show Below w.heap.size w wr.drew from hBr.out.trans (BRD.out.mono hBr.out.size))
        clear x0 x1 x2 x3 x4 hs1
        go_wp2_with fail
        clear x5
        have sd := SX.out wr.drew BRD.out
        refine wp_region_held_drew (S := fun W => W.cell? ⟨w.heap.size, 5, none⟩ = some (.slice (some ⟨b, o, none⟩) t.args.length cap) ∧ W.cell? ⟨b, o + k * 6, none⟩ = some (.int .i64 t1.kind) ∧ W.cell? ⟨b, o + k * 6 + 1, none⟩ = some (.string t1.name) ∧ W.cell? ⟨b, o + k * 6 + 2, none⟩ = some (.string t1.num) ∧ W.cell? ⟨b, o + k * 6 + 3, none⟩ = some (.int .u64 t1.bits) ∧ W.cell? ⟨b, o + k * 6 + 4, none⟩ = some (.int .i64 t1.var) ∧ W.cell? ⟨b, o + k * 6 + 5, none⟩ = some (.slice e1 t1.args.length c1)) (by kernel_rfl) sd (fun hHeld => ?_)
        refine' wpAnyH_take (i := 0) (v := (.pointer (some ⟨w.heap.size + 1 + 1, 5, none⟩))) rfl (by decide +kernel) (by decide +kernel) (by decide +kernel) (fun _ _ _ h => h) (Or.inl ⟨by rfl, ?hyT1⟩) (by assumption) ?restT1
        case hyT1 => (intro w5 hSw; (try dsimp only at hSw); go_simp; try with_reducible rfl)
        case' restT1 => (try simp only [Act.put, List.setIfInBounds_toArray, List.set_cons_zero, List.set_cons_succ])
        refine' wpAnyH_take (i := 2) (v := (.pointer (some ⟨w.heap.size, 5, none⟩))) rfl (by decide +kernel) (by decide +kernel) (by decide +kernel) (fun _ _ _ h => h) (Or.inl ⟨by rfl, ?hyT2⟩) (by assumption) ?restT2
        case hyT2 => (intro w5 hSw; (try dsimp only at hSw); go_simp; try with_reducible rfl)
        case' restT2 => (try simp only [Act.put, List.setIfInBounds_toArray, List.set_cons_zero, List.set_cons_succ])
        refine' wpAnyH_take (i := 3) (v := (.slice (some ⟨b, o, none⟩) t.args.length cap)) rfl (by decide +kernel) (by decide +kernel) (by decide +kernel) (fun _ _ _ h => h) (Or.inl ⟨by rfl, ?hyT3⟩) (by assumption) ?restT3
        case hyT3 => (intro w5 hSw; (try dsimp only at hSw); go_simp; try with_reducible rfl)
        case' restT3 => (try simp only [Act.put, List.setIfInBounds_toArray, List.set_cons_zero, List.set_cons_succ])
        refine' wpAnyH_take (i := 4) (v := (.int .i64 (k : Int))) rfl (by decide +kernel) (by decide +kernel) (by decide +kernel) (fun _ _ _ h => h) (Or.inl ⟨by rfl, ?hyT4⟩) (by assumption) ?restT4
        case hyT4 => (intro w5 hSw; (try dsimp only at hSw); go_simp; try with_reducible rfl)
        case' restT4 => (try simp only [Act.put, List.setIfInBounds_toArray, List.set_cons_zero, List.set_cons_succ])
        refine' wpAnyH_take (i := 5) (v := (.pointer (some ⟨b, o + k * 6, none⟩))) rfl (by decide +kernel) (by decide +kernel) (by decide +kernel) (fun _ _ _ h => h) (Or.inl ⟨by rfl, ?hyT5⟩) (by assumption) ?restT5
        case hyT5 => (intro w5 hSw; (try dsimp only at hSw); go_simp; try with_reducible rfl)
        case' restT5 => (try simp only [Act.put, List.setIfInBounds_toArray, List.set_cons_zero, List.set_cons_succ])
        refine' wpAnyH_take (i := 7) (v := (.slice ql l.length cl)) rfl (by decide +kernel) (by decide +kernel) (by decide +kernel) (fun _ _ _ h => h) (Or.inl ⟨by rfl, ?hyT6⟩) (by assumption) ?restT6
        case hyT6 => (intro w5 hSw; (try dsimp only at hSw); go_simp; try with_reducible rfl)
        case' restT6 => (try simp only [Act.put, List.setIfInBounds_toArray, List.set_cons_zero, List.set_cons_succ])
        refine' wpAnyH_take (i := 6) (v := (.agg #[.int .i64 t1.kind, .string t1.name, .string t1.num, .int .u64 t1.bits, .int .i64 t1.var, .slice e1 t1.args.length c1])) rfl (by decide +kernel) (by decide +kernel) (by decide +kernel) (fun _ _ _ h => h) (Or.inl ⟨by rfl, ?hyT7⟩) (by assumption) ?restT7
        case hyT7 => (intro w5 hSw; (try dsimp only at hSw); go_simp; try with_reducible rfl)
        case' restT7 => (try simp only [Act.put, List.setIfInBounds_toArray, List.set_cons_zero, List.set_cons_succ])
        refine wpAnyH_ready (rs := [1, 8]) (by decide +kernel) (by simp) ?_
        refine AllReadyH.cons rfl (fun K hK => ?_) ?_
        · have q5 := cells_of ((show wr.drew.heap[w.heap.size + 1 + 1]? = _ from P2.out)) 5
          have q5 := q5.trans (show _ = some (.slice q k c) from rfl)
          go_simp
          refine hK.out _ _ (sd) (fun hHeld => ?_)
          clear hK K q5
          (try simp only [Act.put, List.setIfInBounds_toArray, List.set_cons_zero, List.set_cons_succ])
          refine wpAnyH_ready (rs := [8]) (by decide +kernel) (by simp) ?_
          refine AllReadyH.cons rfl (fun K hK => ?_) AllReadyH.nil
          go_simp
          (with_reducible refine (HCALL.out _ BD.out).mono ?_)
          rintro e w2 ⟨q2, c2, S1, rfl, hm, hS1, hb2⟩
          have HM1 := hid hm
          have HS1 := hid hS1
          have BR2 := hid (show Below wr.heap.size wr w2 from BRD.out.trans hb2)
          clear hm hS1 hb2
          have P2b := hid ((BR2.out.block _ (lt_of_block P2.out)).trans P2.out)
          have BW2 := hid (hBr.out.trans (BR2.out.mono hBr.out.size))
          refine hK.out _ _ (SX.out w2 BR2.out) (fun hHeld => ?_)
          clear hK K
          (try simp only [Act.put, List.setIfInBounds_toArray, List.set_cons_zero, List.set_cons_succ])
          refine wpAnyH_ready (rs := [9]) (by decide +kernel) (by simp) ?_
          refine AllReadyH.cons rfl (fun K hK => ?_) AllReadyH.nil
          go_simp
          obtain ⟨W3, hW3⟩ : ∃ W3, W3 = w2.alloc (.cells #[.int .i64 u1.kind, .string u1.name, .string u1.num, .int .u64 u1.bits, .int .i64 u1.var, .slice q2 u1.args.length c2] 25) := ⟨_, rfl⟩
          rw [← hW3]
          have BA := hid (show Below w2.heap.size w2 W3 by rw [hW3]; exact (Below.refl _ _).alloc (Nat.le_refl _) _)
          have HN3 := hid (show W3.heap[w2.heap.size]? = some (.cells #[.int .i64 u1.kind, .string u1.name, .string u1.num, .int .u64 u1.bits, .int .i64 u1.var, .slice q2 u1.args.length c2] 25 (0, 0)) by rw [hW3]; exact World.alloc_heap_new w2 _)
          have BR3 := hid (show Below wr.heap.size wr W3 from BR2.out.trans (BA.out.mono BR2.out.size))
          have P2c := hid ((BR3.out.block _ (lt_of_block P2.out)).trans P2.out)
          have HZ3 := hid (show W3.heap.size = w2.heap.size + 1 by rw [hW3]; simp)
          clear hW3
          refine hK.out _ _ (SX.out W3 BR3.out) (fun hHeld => ?_)
          clear hK K
          (try simp only [Act.put, List.setIfInBounds_toArray, List.set_cons_zero, List.set_cons_succ])
          refine wpAnyH_ready (rs := [10]) (by decide +kernel) (by simp) ?_
          refine AllReadyH.cons rfl (fun K hK => ?_) AllReadyH.nil
          have ML3 := hid (HML.out.same (w' := W3) fun x _ hx => BR3.out.block x hx)
          have HM3 := hid (HM1.out.same (w' := W3) fun x hx => BA.out.block x (HM1.out.lt x hx))
          have hsz := And.intro BR2.out.size hBr.out.size
          refine step_append_lies W3 rfl _ _ 23 rfl (w.heap.size + 3) 25 i0 (.agg #[.int .i64 0, .string ⟨#[]⟩, .string ⟨#[]⟩, .int .u64 0, .int .i64 0, .slice none 0 0]) 6 80 Tryz.underlying23 hi hz0 hz1 hz2 rfl (by decide) (.slice q k c) k (flat L) (by simp [Act.eval, Act.put]) ML3.out.row ⟨w2.heap.size, 0, none⟩ 1 1 (cellsT (u1, q2, c2)) (by simp [Act.eval, Act.put]) rfl (World.news_of_block HN3.out) (cellsT_one _) (by decide) (by unfold maxLen; omega) (by omega) (by rw [HZ3.out]; have := lt_of_block P2.out; omega) W3.heap.size rfl ?_
          intro g c' w5 hown hgrow hat hlt5
          have HG5 := hid hgrow
          have ML5 := hid (ML3.out.snoc (x := (u1, q2, c2)) HM3.out (fun x hx h1 => by have := HS1.out x h1; have := HML.out.own.lt x hx; have : wr.drew.heap.size = wr.heap.size := rfl; omega) (fun x hx h1 => by have := HS1.out x h1; have : wr.drew.heap.size = wr.heap.size := rfl; have := ownBlock_lt HML.out.row hx; omega) (fun x hx => by have := HS1.out x hx; have : wr.drew.heap.size = wr.heap.size := rfl; have := lt_of_block P2.out; omega) hown hgrow (hat.imp id (fun h => by omega)))
          have hob : ∀ x, x < w.heap.size + 3 → W3.heap.size ≥ w.heap.size + 3 → w5.heap[x]? = W3.heap[x]? := fun x hx hz => HG5.out.block x (by omega) (fun e => by have := ownBlock_le ML3.out.row e.symm; omega)
          have hzz : W3.heap.size ≥ w.heap.size + 3 := by rw [HZ3.out]; have := lt_of_block P2.out; omega
          have Q5 := hid ((hob _ (by omega) hzz).trans P2c.out)
          have OB := hid (fun x (h1 : x < w.heap.size + 3) (h2 : x < wr.heap.size) => (hob x h1 hzz).trans (BR3.out.block x h2))
          have B5 := hid (show Below w.heap.size w w5 from (hBr.out.trans (BR3.out.mono hBr.out.size)).grown hgrow (by omega) (fun x e => by have := ownBlock_le ML3.out.row e; omega))
          clear hown hgrow hat hob
          have s5 := SY.out w5 B5.out ((OB.out _ (by omega) (by have := lt_of_block P2.out; omega)).trans P0.out)
          refine hK.out _ _ s5 (fun hHeld => ?_)
          clear hK K
          (try simp only [Act.put, List.setIfInBounds_toArray, List.set_cons_zero, List.set_cons_succ])
          refine' wpAnyH_take (i := 11) (v := (.pointer (some ⟨w.heap.size + 1 + 1, 5, none⟩))) rfl (by decide +kernel) (by decide +kernel) (by decide +kernel) (fun _ _ _ h => h) (Or.inl ⟨by rfl, ?hyT8⟩) (by assumption) ?restT8
          case hyT8 => (intro w5 hSw; (try dsimp only at hSw); go_simp; try with_reducible rfl)
          case' restT8 => (try simp only [Act.put, List.setIfInBounds_toArray, List.set_cons_zero, List.set_cons_succ])
          refine wpAnyH_ready (rs := [12]) (by decide +kernel) (by simp) ?_
          refine AllReadyH.cons rfl (fun K hK => ?_) AllReadyH.nil
          obtain ⟨⟨z0, z1, z2, z3, z4, z5⟩, ⟨f0, f1, f2, f3, f4, f5⟩⟩ := six_free Q5.out
          go_simp
          have g6 := Below.heap_setCell w5 ⟨w.heap.size + 1 + 1, 5, none⟩ (.slice (some ⟨g, 0, none⟩) (k + 1) c')
          have B6 := hid (show Below w.heap.size w (w5.setCell ⟨w.heap.size + 1 + 1, 5, none⟩ (.slice (some ⟨g, 0, none⟩) (k + 1) c')) from B5.out.setCell (by simp; omega) _)
          have G6 := hid (fun x (hx : x ≠ w.heap.size + 1 + 1) => g6 x (fun e => hx e))
          have Q6 := hid (heap_setCell_same w5 (w.heap.size + 1 + 1) 5 _ _ (.slice (some ⟨g, 0, none⟩) (k + 1) c') Q5.out)
          clear g6 z0 z1 z2 z3 z4 z5 f0 f1 f2 f3 f4 f5
          have O0 := hid ((G6.out w.heap.size (by omega)).trans ((OB.out _ (by omega) (by have := lt_of_block P2.out; omega)).trans P0.out))
          have O1 := hid ((G6.out (w.heap.size + 1) (by omega)).trans ((OB.out _ (by omega) (by have := lt_of_block P2.out; omega)).trans P1.out))
          refine hK.out _ _ (SY.out _ B6.out O0.out) (fun hHeld => ?_)
          clear hK K hHeld hzz hsz
          (try simp only [Act.put, List.setIfInBounds_toArray, List.set_cons_zero, List.set_cons_succ])
          refine wpAnyH_done (by kernel_rfl) ?_ _
          clear sd s5
          go_wp2
          go_roundw
          case rel => exact ⟨k + 1, L ++ [(u1, q2, c2)], S ++ S1, some ⟨g, 0, none⟩, c', by omega, by go_num, O0, O1, Q6, hid (ML5.out.same fun x hx _ => G6.out x (by omega)), hid (by rw [List.map_append, HLM.out, HTK.out]; rfl), B6⟩
          case measure => simp [intOf]; omega
        refine AllReadyH.cons rfl (fun K hK => ?_) AllReadyH.nil
        go_simp
        (with_reducible refine (HCALL.out _ BD.out).mono ?_)
        rintro e w2 ⟨q2, c2, S1, rfl, hm, hS1, hb2⟩
        have HM1 := hid hm
        have HS1 := hid hS1
        have BR2 := hid (show Below wr.heap.size wr w2 from BRD.out.trans hb2)
        clear hm hS1 hb2
        have P2b := hid ((BR2.out.block _ (lt_of_block P2.out)).trans P2.out)
        have BW2 := hid (hBr.out.trans (BR2.out.mono hBr.out.size))
        refine hK.out _ _ (SX.out w2 BR2.out) (fun hHeld => ?_)
        clear hK K
        (try simp only [Act.put, List.setIfInBounds_toArray, List.set_cons_zero, List.set_cons_succ])
        refine wpAnyH_ready (rs := [1, 9]) (by decide +kernel) (by simp) ?_
        refine AllReadyH.cons rfl (fun K hK => ?_) ?_
        · have q5 := cells_of (P2b.out) 5
          have q5 := q5.trans (show _ = some (.slice q k c) from rfl)
          go_simp
          refine hK.out _ _ (SX.out w2 BR2.out) (fun hHeld => ?_)
          clear hK K q5
          (try simp only [Act.put, List.setIfInBounds_toArray, List.set_cons_zero, List.set_cons_succ])
          refine wpAnyH_ready (rs := [9]) (by decide +kernel) (by simp) ?_
          refine AllReadyH.cons rfl (fun K hK => ?_) AllReadyH.nil
          go_simp
          obtain ⟨W3, hW3⟩ : ∃ W3, W3 = w2.alloc (.cells #[.int .i64 u1.kind, .string u1.name, .string u1.num, .int .u64 u1.bits, .int .i64 u1.var, .slice q2 u1.args.length c2] 25) := ⟨_, rfl⟩
          rw [← hW3]
          have BA := hid (show Below w2.heap.size w2 W3 by rw [hW3]; exact (Below.refl _ _).alloc (Nat.le_refl _) _)
          have HN3 := hid (show W3.heap[w2.heap.size]? = some (.cells #[.int .i64 u1.kind, .string u1.name, .string u1.num, .int .u64 u1.bits, .int .i64 u1.var, .slice q2 u1.args.length c2] 25 (0, 0)) by rw [hW3]; exact World.alloc_heap_new w2 _)
          have BR3 := hid (show Below wr.heap.size wr W3 from BR2.out.trans (BA.out.mono BR2.out.size))
          have P2c := hid ((BR3.out.block _ (lt_of_block P2.out)).trans P2.out)
          have HZ3 := hid (show W3.heap.size = w2.heap.size + 1 by rw [hW3]; simp)
          clear hW3
          refine hK.out _ _ (SX.out W3 BR3.out) (fun hHeld => ?_)
          clear hK K
          (try simp only [Act.put, List.setIfInBounds_toArray, List.set_cons_zero, List.set_cons_succ])
          refine wpAnyH_ready (rs := [10]) (by decide +kernel) (by simp) ?_
          refine AllReadyH.cons rfl (fun K hK => ?_) AllReadyH.nil
          have ML3 := hid (HML.out.same (w' := W3) fun x _ hx => BR3.out.block x hx)
          have HM3 := hid (HM1.out.same (w' := W3) fun x hx => BA.out.block x (HM1.out.lt x hx))
          have hsz := And.intro BR2.out.size hBr.out.size
          refine step_append_lies W3 rfl _ _ 23 rfl (w.heap.size + 3) 25 i0 (.agg #[.int .i64 0, .string ⟨#[]⟩, .string ⟨#[]⟩, .int .u64 0, .int .i64 0, .slice none 0 0]) 6 80 Tryz.underlying23 hi hz0 hz1 hz2 rfl (by decide) (.slice q k c) k (flat L) (by simp [Act.eval, Act.put]) ML3.out.row ⟨w2.heap.size, 0, none⟩ 1 1 (cellsT (u1, q2, c2)) (by simp [Act.eval, Act.put]) rfl (World.news_of_block HN3.out) (cellsT_one _) (by decide) (by unfold maxLen; omega) (by omega) (by rw [HZ3.out]; have := lt_of_block P2.out; omega) W3.heap.size rfl ?_
          intro g c' w5 hown hgrow hat hlt5
          have HG5 := hid hgrow
          have ML5 := hid (ML3.out.snoc (x := (u1, q2, c2)) HM3.out (fun x hx h1 => by have := HS1.out x h1; have := HML.out.own.lt x hx; have : wr.drew.heap.size = wr.heap.size := rfl; omega) (fun x hx h1 => by have := HS1.out x h1; have : wr.drew.heap.size = wr.heap.size := rfl; have := ownBlock_lt HML.out.row hx; omega) (fun x hx => by have := HS1.out x hx; have : wr.drew.heap.size = wr.heap.size := rfl; have := lt_of_block P2.out; omega) hown hgrow (hat.imp id (fun h => by omega)))
          have hob : ∀ x, x < w.heap.size + 3 → W3.heap.size ≥ w.heap.size + 3 → w5.heap[x]? = W3.heap[x]? := fun x hx hz => HG5.out.block x (by omega) (fun e => by have := ownBlock_le ML3.out.row e.symm; omega)
          have hzz : W3.heap.size ≥ w.heap.size + 3 := by rw [HZ3.out]; have := lt_of_block P2.out; omega
          have Q5 := hid ((hob _ (by omega) hzz).trans P2c.out)
          have OB := hid (fun x (h1 : x < w.heap.size + 3) (h2 : x < wr.heap.size) => (hob x h1 hzz).trans (BR3.out.block x h2))
          have B5 := hid (show Below w.heap.size w w5 from (hBr.out.trans (BR3.out.mono hBr.out.size)).grown hgrow (by omega) (fun x e => by have := ownBlock_le ML3.out.row e; omega))
          clear hown hgrow hat hob
          have s5 := SY.out w5 B5.out ((OB.out _ (by omega) (by have := lt_of_block P2.out; omega)).trans P0.out)
          refine hK.out _ _ s5 (fun hHeld => ?_)
          clear hK K
          (try simp only [Act.put, List.setIfInBounds_toArray, List.set_cons_zero, List.set_cons_succ])
          refine' wpAnyH_take (i := 11) (v := (.pointer (some ⟨w.heap.size + 1 + 1, 5, none⟩))) rfl (by decide +kernel) (by decide +kernel) (by decide +kernel) (fun _ _ _ h => h) (Or.inl ⟨by rfl, ?hyT9⟩) (by assumption) ?restT9
          case hyT9 => (intro w5 hSw; (try dsimp only at hSw); go_simp; try with_reducible rfl)
          case' restT9 => (try simp only [Act.put, List.setIfInBounds_toArray, List.set_cons_zero, List.set_cons_succ])
          refine wpAnyH_ready (rs := [12]) (by decide +kernel) (by simp) ?_
          refine AllReadyH.cons rfl (fun K hK => ?_) AllReadyH.nil
          obtain ⟨⟨z0, z1, z2, z3, z4, z5⟩, ⟨f0, f1, f2, f3, f4, f5⟩⟩ := six_free Q5.out
          go_simp
          have g6 := Below.heap_setCell w5 ⟨w.heap.size + 1 + 1, 5, none⟩ (.slice (some ⟨g, 0, none⟩) (k + 1) c')
          have B6 := hid (show Below w.heap.size w (w5.setCell ⟨w.heap.size + 1 + 1, 5, none⟩ (.slice (some ⟨g, 0, none⟩) (k + 1) c')) from B5.out.setCell (by simp; omega) _)
          have G6 := hid (fun x (hx : x ≠ w.heap.size + 1 + 1) => g6 x (fun e => hx e))
          have Q6 := hid (heap_setCell_same w5 (w.heap.size + 1 + 1) 5 _ _ (.slice (some ⟨g, 0, none⟩) (k + 1) c') Q5.out)
          clear g6 z0 z1 z2 z3 z4 z5 f0 f1 f2 f3 f4 f5
          have O0 := hid ((G6.out w.heap.size (by omega)).trans ((OB.out _ (by omega) (by have := lt_of_block P2.out; omega)).trans P0.out))
          have O1 := hid ((G6.out (w.heap.size + 1) (by omega)).trans ((OB.out _ (by omega) (by have := lt_of_block P2.out; omega)).trans P1.out))
          refine hK.out _ _ (SY.out _ B6.out O0.out) (fun hHeld => ?_)
          clear hK K hHeld hzz hsz
          (try simp only [Act.put, List.setIfInBounds_toArray, List.set_cons_zero, List.set_cons_succ])
          refine wpAnyH_done (by kernel_rfl) ?_ _
          clear sd s5
          go_wp2
          go_roundw
          case rel => exact ⟨k + 1, L ++ [(u1, q2, c2)], S ++ S1, some ⟨g, 0, none⟩, c', by omega, by go_num, O0, O1, Q6, hid (ML5.out.same fun x hx _ => G6.out x (by omega)), hid (by rw [List.map_append, HLM.out, HTK.out]; rfl), B6⟩
          case measure => simp [intOf]; omega
        refine AllReadyH.cons rfl (fun K hK => ?_) AllReadyH.nil
        go_simp
        obtain ⟨W3, hW3⟩ : ∃ W3, W3 = w2.alloc (.cells #[.int .i64 u1.kind, .string u1.name, .string u1.num, .int .u64 u1.bits, .int .i64 u1.var, .slice q2 u1.args.length c2] 25) := ⟨_, rfl⟩
        rw [← hW3]
        have BA := hid (show Below w2.heap.size w2 W3 by rw [hW3]; exact (Below.refl _ _).alloc (Nat.le_refl _) _)
        have HN3 := hid (show W3.heap[w2.heap.size]? = some (.cells #[.int .i64 u1.kind, .string u1.name, .string u1.num, .int .u64 u1.bits, .int .i64 u1.var, .slice q2 u1.args.length c2] 25 (0, 0)) by rw [hW3]; exact World.alloc_heap_new w2 _)
        have BR3 := hid (show Below wr.heap.size wr W3 from BR2.out.trans (BA.out.mono BR2.out.size))
        have P2c := hid ((BR3.out.block _ (lt_of_block P2.out)).trans P2.out)
        have HZ3 := hid (show W3.heap.size = w2.heap.size + 1 by rw [hW3]; simp)
        clear hW3
        refine hK.out _ _ (SX.out W3 BR3.out) (fun hHeld => ?_)
        clear hK K
        (try simp only [Act.put, List.setIfInBounds_toArray, List.set_cons_zero, List.set_cons_succ])
        refine wpAnyH_ready (rs := [1]) (by decide +kernel) (by simp) ?_
        refine AllReadyH.cons rfl (fun K hK => ?_) AllReadyH.nil
        have q5 := cells_of (P2c.out) 5
        have q5 := q5.trans (show _ = some (.slice q k c) from rfl)
        go_simp
        refine hK.out _ _ (SX.out W3 BR3.out) (fun hHeld => ?_)
        clear hK K q5
        (try simp only [Act.put, List.setIfInBounds_toArray, List.set_cons_zero, List.set_cons_succ])
        refine wpAnyH_ready (rs := [10]) (by decide +kernel) (by simp) ?_
        refine AllReadyH.cons rfl (fun K hK => ?_) AllReadyH.nil
        have ML3 := hid (HML.out.same (w' := W3) fun x _ hx => BR3.out.block x hx)
        have HM3 := hid (HM1.out.same (w' := W3) fun x hx => BA.out.block x (HM1.out.lt x hx))
        have hsz := And.intro BR2.out.size hBr.out.size
        refine step_append_lies W3 rfl _ _ 23 rfl (w.heap.size + 3) 25 i0 (.agg #[.int .i64 0, .string ⟨#[]⟩, .string ⟨#[]⟩, .int .u64 0, .int .i64 0, .slice none 0 0]) 6 80 Tryz.underlying23 hi hz0 hz1 hz2 rfl (by decide) (.slice q k c) k (flat L) (by simp [Act.eval, Act.put]) ML3.out.row ⟨w2.heap.size, 0, none⟩ 1 1 (cellsT (u1, q2, c2)) (by simp [Act.eval, Act.put]) rfl (World.news_of_block HN3.out) (cellsT_one _) (by decide) (by unfold maxLen; omega) (by omega) (by rw [HZ3.out]; have := lt_of_block P2.out; omega) W3.heap.size rfl ?_
        intro g c' w5 hown hgrow hat hlt5
        have HG5 := hid hgrow
        have ML5 := hid (ML3.out.snoc (x := (u1, q2, c2)) HM3.out (fun x hx h1 => by have := HS1.out x h1; have := HML.out.own.lt x hx; have : wr.drew.heap.size = wr.heap.size := rfl; omega) (fun x hx h1 => by have := HS1.out x h1; have : wr.drew.heap.size = wr.heap.size := rfl; have := ownBlock_lt HML.out.row hx; omega) (fun x hx => by have := HS1.out x hx; have : wr.drew.heap.size = wr.heap.size := rfl; have := lt_of_block P2.out; omega) hown hgrow (hat.imp id (fun h => by omega)))
        have hob : ∀ x, x < w.heap.size + 3 → W3.heap.size ≥ w.heap.size + 3 → w5.heap[x]? = W3.heap[x]? := fun x hx hz => HG5.out.block x (by omega) (fun e => by have := ownBlock_le ML3.out.row e.symm; omega)
        have hzz : W3.heap.size ≥ w.heap.size + 3 := by rw [HZ3.out]; have := lt_of_block P2.out; omega
        have Q5 := hid ((hob _ (by omega) hzz).trans P2c.out)
        have OB := hid (fun x (h1 : x < w.heap.size + 3) (h2 : x < wr.heap.size) => (hob x h1 hzz).trans (BR3.out.block x h2))
        have B5 := hid (show Below w.heap.size w w5 from (hBr.out.trans (BR3.out.mono hBr.out.size)).grown hgrow (by omega) (fun x e => by have := ownBlock_le ML3.out.row e; omega))
        clear hown hgrow hat hob
        have s5 := SY.out w5 B5.out ((OB.out _ (by omega) (by have := lt_of_block P2.out; omega)).trans P0.out)
        refine hK.out _ _ s5 (fun hHeld => ?_)
        clear hK K
        (try simp only [Act.put, List.setIfInBounds_toArray, List.set_cons_zero, List.set_cons_succ])
        refine' wpAnyH_take (i := 11) (v := (.pointer (some ⟨w.heap.size + 1 + 1, 5, none⟩))) rfl (by decide +kernel) (by decide +kernel) (by decide +kernel) (fun _ _ _ h => h) (Or.inl ⟨by rfl, ?hyT10⟩) (by assumption) ?restT10
        case hyT10 => (intro w5 hSw; (try dsimp only at hSw); go_simp; try with_reducible rfl)
        case' restT10 => (try simp only [Act.put, List.setIfInBounds_toArray, List.set_cons_zero, List.set_cons_succ])
        refine wpAnyH_ready (rs := [12]) (by decide +kernel) (by simp) ?_
        refine AllReadyH.cons rfl (fun K hK => ?_) AllReadyH.nil
        obtain ⟨⟨z0, z1, z2, z3, z4, z5⟩, ⟨f0, f1, f2, f3, f4, f5⟩⟩ := six_free Q5.out
        go_simp
        have g6 := Below.heap_setCell w5 ⟨w.heap.size + 1 + 1, 5, none⟩ (.slice (some ⟨g, 0, none⟩) (k + 1) c')
        have B6 := hid (show Below w.heap.size w (w5.setCell ⟨w.heap.size + 1 + 1, 5, none⟩ (.slice (some ⟨g, 0, none⟩) (k + 1) c')) from B5.out.setCell (by simp; omega) _)
        have G6 := hid (fun x (hx : x ≠ w.heap.size + 1 + 1) => g6 x (fun e => hx e))
        have Q6 := hid (heap_setCell_same w5 (w.heap.size + 1 + 1) 5 _ _ (.slice (some ⟨g, 0, none⟩) (k + 1) c') Q5.out)
        clear g6 z0 z1 z2 z3 z4 z5 f0 f1 f2 f3 f4 f5
        have O0 := hid ((G6.out w.heap.size (by omega)).trans ((OB.out _ (by omega) (by have := lt_of_block P2.out; omega)).trans P0.out))
        have O1 := hid ((G6.out (w.heap.size + 1) (by omega)).trans ((OB.out _ (by omega) (by have := lt_of_block P2.out; omega)).trans P1.out))
        refine hK.out _ _ (SY.out _ B6.out O0.out) (fun hHeld => ?_)
        clear hK K hHeld hzz hsz
        (try simp only [Act.put, List.setIfInBounds_toArray, List.set_cons_zero, List.set_cons_succ])
        refine wpAnyH_done (by kernel_rfl) ?_ _
        clear sd s5
        go_wp2
        go_roundw
        case rel => exact ⟨k + 1, L ++ [(u1, q2, c2)], S ++ S1, some ⟨g, 0, none⟩, c', by omega, by go_num, O0, O1, Q6, hid (ML5.out.same fun x hx _ => G6.out x (by omega)), hid (by rw [List.map_append, HLM.out, HTK.out]; rfl), B6⟩
        case measure => simp [intOf]; omega
      · obtain rfl : k = t.args.length := by omega
        have HS := hid (HML.out.tree (Tm.mk t.kind t.name t.num t.bits t.var (t.args.map (instT l))) (by rw [HLM.out, List.take_length]; rfl) (by omega))
        have HSL := hid HML.out
        obtain ⟨⟨z0, z1, z2, z3, z4, z5⟩, ⟨f0, f1, f2, f3, f4, f5⟩⟩ := six_free P1.out
        obtain ⟨y0, y1, y2, y3, y4, y5⟩ := six_of (show wr.heap[w.heap.size + 1 + 1]? = some (tobj t q c) from P2.out)
        go_wp2
        have h1 := set6 P1.out (.int .i64 t.kind) (.string t.name) (.string t.num) (.int .u64 t.bits) (.int .i64 t.var) (.slice q t.args.length c)
        have hgr := set6_grown wr (w.heap.size + 1) (.int .i64 t.kind) (.string t.name) (.string t.num) (.int .u64 t.bits) (.int .i64 t.var) (.slice q t.args.length c)
        obtain ⟨S', hM, hS⟩ := HS.out
        refine bodyPost_ret (results_tm rfl _ _ (w.heap.size + 1) t q c (by rfl) h1) rfl ⟨q, c, S', rfl, hM.same fun x hx => hgr.block x (hM.lt x hx) (fun e => by have := hS x hx; have := Option.some.inj e; omega), fun x hx => by have := hS x hx; omega, set6_below hBr.out (by omega) _ _ _ _ _ _⟩
end Go.Proofs.YtkapejcbmonfkaaGreatDoor

namespace Go.Proofs.YtkapejcbmonfkaaGreatDoor
open Go.RowKit

set_option maxRecDepth 100000 in
set_option maxHeartbeats 8000000 in
theorem sized_any (l : List Bnd) (ql : Option Addr) (cl : Nat) (hlm : l.length ≤ 4398046511104) (d : Nat) : ∀ (t : Tm) (p : Option Addr) (cap : Nat) (n : Nat) (w : World), nodes t ≤ d → TmAt w t p → AllT CpOk t → BindAt w l ql → n ≤ 4000 →
    Calls Tryz.prog 70 #[t.val p cap, .slice ql l.length cl, .int .i64 (n : Int)] w fun e w' => e = .returned (.int .i64 (capped (n + nodes (instT l t)) 4001)) ∧ Below w.heap.size w w' := by
  induction d with
  | zero => intro t p cap n w h; have := nodes_pos t; omega
  | succ d ih =>
    intro t p cap n w hd hT hC hL hm
    obtain ⟨W0, hW0⟩ : ∃ W0, W0 = w.alloc (tobj t p cap) := ⟨_, rfl⟩
    have hB := hid (show Below w.heap.size w W0 by rw [hW0]; exact (Below.refl w.heap.size w).alloc (Nat.le_refl _) (tobj t p cap))
    have HS := hid (show W0.heap[w.heap.size]? = some (tobj t p cap) by rw [hW0]; exact heap_alloc_new w (tobj t p cap))
    have hlm' : (l.length : Int) ≤ 4398046511104 := by omega
    by_cases hk1 : t.kind = 1
    · obtain ⟨a1, a2, a3, a4⟩ := hC.head.1 hk1
      have ht : t = leaf 1 ⟨#[]⟩ ⟨#[]⟩ t.var := by
        cases t; simp only [Tm.kind, Tm.name, Tm.num, Tm.bits, Tm.args, Tm.var] at *; subst hk1 a1 a2 a3 a4; rfl
      have hI : instT l t = instV l t.var := instT_var hk1
      generalize hv : t.var = v at *
      rw [hI]
      subst ht
      clear hv hI a1 a2 a3 a4 hk1 hT hC ih hd
      have hW0' : W0 = w.alloc (.cells #[.int .i64 1, .string ⟨#[]⟩, .string ⟨#[]⟩, .int .u64 0, .int .i64 v, .slice p 0 cap] 25) := hW0
      clear hW0
      have CF := found_any l ql cl v W0 (hL.keep hB.out) hlm
      clear hL
      show Calls Tryz.prog 70 #[.agg #[.int .i64 1, .string ⟨#[]⟩, .string ⟨#[]⟩, .int .u64 0, .int .i64 v, .slice p 0 cap], .slice ql l.length cl, .int .i64 (n : Int)] w _
      obtain ⟨⟨x0, x1, x2, x3, x4, x5⟩, _⟩ := six_free (show W0.heap[w.heap.size]? = some (.cells #[.int .i64 1, .string ⟨#[]⟩, .string ⟨#[]⟩, .int .u64 0, .int .i64 v, .slice p 0 cap] 25 (0, 0)) from HS.out)
      cases hlk : lookB l v with
      | none =>
        have hI : instV l v = leaf 1 ⟨#[]⟩ ⟨#[]⟩ v := by unfold instV; rw [hlk]
        rw [hI]
        have hfv : foundV l v = leaf 0 ⟨#[]⟩ ⟨#[]⟩ 0 := by unfold foundV; rw [hlk]; rfl
        rw [hfv, hlk] at CF
        have CF := hid (show Calls Tryz.prog 69 #[.slice ql l.length cl, .int .i64 v] W0 fun e w' => ∃ p c, e = .returned (.tuple #[.agg #[.int .i64 0, .string ⟨#[]⟩, .string ⟨#[]⟩, .int .u64 0, .int .i64 0, .slice p 0 c], .bool false]) ∧ (∀ u, (none : Option Tm) = some u → TmAt W0 u p) ∧ Below W0.heap.size W0 w' from CF)
        have hcap : capped (n + nodes (leaf 1 ⟨#[]⟩ ⟨#[]⟩ v)) 4001 = (n : Int) + 1 := by simp [leaf, nodes, nodesL, capped]; omega
        rw [hcap]
        clear hI hfv hlk hcap
        go_enter Tryz.func70, Tryz.ntmps70
        go_upto_region 1 with fail
        rw [← hW0']
        clear hW0'
        go_upto_region 3 with (go_at_call 69; (with_reducible refine CF.out.mono ?_); rintro e w2 ⟨p2, c2, rfl, _, hb⟩; clear x0 x1 x2 x3 x4 x5 CF; have B2 := hid (hB.out.trans (hb.mono hB.out.size)); have P2 := hid ((hb.block _ (lt_of_block HS.out)).trans HS.out); clear hb)
        obtain ⟨W3, hW3⟩ : ∃ W3, W3 = w2.alloc (.cells #[.int .i64 0, .string ⟨#[]⟩, .string ⟨#[]⟩, .int .u64 0, .int .i64 0, .slice p2 0 c2] 25) := ⟨_, rfl⟩
        rw [← hW3]
        have A3 := hid (show Below w2.heap.size w2 W3 by rw [hW3]; exact (Below.refl _ _).alloc (Nat.le_refl _) _)
        clear hW3
        have B3 := hid (B2.out.trans (A3.out.mono B2.out.size))
        have P3 := hid ((A3.out.block _ (lt_of_block P2.out)).trans P2.out)
        have x5 : W3.cell? ⟨w.heap.size, 5, none⟩ = some (.slice p 0 cap) := (six_of P3.out).c5
        go_wp2_with fail
        refine wp_loop_rounds 1 ?_
        rw [rounds_succ]
        go_wp2_with fail
        go_ret
        exact ⟨rfl, B3.out⟩
      | some u =>
        have hI : instV l v = u := by unfold instV; rw [hlk]
        rw [hI]
        have hfv : foundV l v = u := by unfold foundV; rw [hlk]; rfl
        rw [hfv, hlk] at CF
        have CF := hid (show Calls Tryz.prog 69 #[.slice ql l.length cl, .int .i64 v] W0 fun e w' => ∃ p c, e = .returned (.tuple #[.agg #[.int .i64 u.kind, .string u.name, .string u.num, .int .u64 u.bits, .int .i64 u.var, .slice p u.args.length c], .bool true]) ∧ TmAt W0 u p ∧ Below W0.heap.size W0 w' from CF.mono fun e w' ⟨p, c, h1, h2, h3⟩ => ⟨p, c, h1, h2 u rfl, h3⟩)
        have CO := hid (fun (W : World) (p2 : Option Addr) (c2 : Nat) (h : TmAt W u p2) => countR_any (nodes u) u p2 c2 n W (Nat.le_refl _) h hm)
        unfold Tm.val at CO
        generalize capped (n + nodes u) 4001 = z at *
        clear hI hfv hlk
        go_enter Tryz.func70, Tryz.ntmps70
        go_upto_region 1 with fail
        rw [← hW0']
        clear hW0'
        go_upto_region 3 with (go_at_call 69; (with_reducible refine CF.out.mono ?_); rintro e w2 ⟨p2, c2, rfl, hT2, hb⟩; clear x0 x1 x2 x3 x4 x5 CF; have B2 := hid (hB.out.trans (hb.mono hB.out.size)); have HT2 := hid (hT2.keep hb); clear hb hT2)
        obtain ⟨W3, hW3⟩ : ∃ W3, W3 = w2.alloc (.cells #[.int .i64 u.kind, .string u.name, .string u.num, .int .u64 u.bits, .int .i64 u.var, .slice p2 u.args.length c2] 25) := ⟨_, rfl⟩
        rw [← hW3]
        have A3 := hid (show Below w2.heap.size w2 W3 by rw [hW3]; exact (Below.refl _ _).alloc (Nat.le_refl _) _)
        have P03 := hid (show W3.heap[w2.heap.size]? = some (tobj u p2 c2) by rw [hW3]; exact World.alloc_heap_new w2 _)
        clear hW3
        have B3 := hid (B2.out.trans (A3.out.mono B2.out.size))
        have CO3 := hid (CO.out W3 p2 c2 (HT2.out.keep A3.out))
        obtain ⟨x0, x1, x2, x3, x4, x5⟩ := six_of P03.out
        go_wp2_with (go_at_call 98; (with_reducible refine CO3.out.mono ?_); rintro e w4 ⟨rfl, hb⟩; have B4 := hid (B3.out.trans (hb.mono B3.out.size)); clear hb)
        go_ret
        exact ⟨rfl, B4.out⟩
    have hq1 : (t.kind == 1) = false := beq_eq_false_iff_ne.2 hk1
    have hI : instT l t = .mk t.kind t.name t.num t.bits t.var (t.args.map (instT l)) := instT_not hk1
    have HN := hid (show nodes (instT l t) = 1 + nodesL (t.args.map (instT l)) by rw [hI]; simp only [nodes]; try omega)
    clear hI hk1
    unfold tobj at hW0
    unfold Tm.val at ih ⊢
    have IH := hid ih
    have HT := hid hT
    have HC := hid hC
    have HL := hid hL
    have hlen := hT.len
    unfold maxLen at hlen
    have HNE := hid (fun k (h : k < t.args.length) => (show nodes t.args[k] ≤ d by have := nodes_lt h; omega))
    obtain ⟨x0, x1, x2, x3, x4, x5⟩ := six_of HS.out
    clear ih hT hC hL
    go_enter Tryz.func70, Tryz.ntmps70
    go_upto_region 1 with fail
    rw [← hW0]
    clear hW0
    go_wp2_with fail
    clear x0 x1 x2 x3 x4 x5
    go_loopw [2, 9] (fun c i wr => ∃ (k m : Nat), k ≤ t.args.length ∧ i = .int .i64 (k : Int) ∧ c = .int .i64 (m : Int) ∧ m ≤ 4001 ∧ Hid ((m : Int) = capped (n + 1 + nodesL ((t.args.map (instT l)).take k)) 4001) ∧ Hid (Below w.heap.size w wr) ∧ Hid (wr.heap[w.heap.size]? = some (tobj t p cap))) (fun _ i _ => t.args.length - (intOf i).toNat)
    case atStart => exact ⟨0, n + 1, by omega, rfl, by simp, by omega, hid (by simp [nodesL, capped]; omega), hB, HS⟩
    case round =>
      clear hB HS
      obtain ⟨k, m, hk, rfl, rfl, hm1, hc, hBr, hSr⟩ := hrel
      have x5 : wr.cell? ⟨w.heap.size, 5, none⟩ = some (.slice p t.args.length cap) := (six_of hSr.out).c5
      by_cases hlt : k < t.args.length
      · by_cases hcm : m ≤ 4000
        · obtain ⟨b, o, rfl, q, cq, hs, ht⟩ := (HT.out.keep hBr.out).get k hlt
          obtain ⟨y0, y1, y2, y3, y4, y5⟩ := hs
          have HTK := hid ht
          have HCK := hid (HC.out.arg k hlt)
          have HSUM := hid (show nodesL ((t.args.map (instT l)).take (k + 1)) = nodesL ((t.args.map (instT l)).take k) + nodes (instT l t.args[k]) by
            have h := nodesL_take (t.args.map (instT l)) k (by simpa using hlt)
            rwa [List.getElem_map] at h)
          have HNK := hid (HNE.out k hlt)
          clear ht
          generalize t.args[k] = u at *
          have HC1 := hid (IH.out u q cq m wr HNK.out HTK.out HCK.out (HL.out.keep hBr.out) hcm)
          obtain ⟨z, hz⟩ : ∃ z : Nat, (z : Int) = capped (m + nodes (instT l u)) 4001 := ⟨(capped (m + nodes (instT l u)) 4001).toNat, by unfold capped; split <;> omega⟩
          rw [← hz] at HC1
          have hz1 : z ≤ 4001 := by unfold capped at hz; split at hz <;> omega
          have HZ := hid (show (z : Int) = capped (n + 1 + nodesL ((t.args.map (instT l)).take (k + 1))) 4001 by
            have h1 := hc.out
            have h2 := HSUM.out
            rw [hz, h2]
            unfold capped at h1 ⊢
            split at h1 <;> split <;> split <;> omega)
          clear hz
          go_wp2_with (go_at_call 70; (with_reducible refine HC1.out.mono ?_); rintro e w2 ⟨rfl, hb2⟩; have B2 := hid (hBr.out.trans (hb2.mono hBr.out.size)); have S2 := hid (hb2.block _ (lt_of_block hSr.out) |>.trans hSr.out); clear hb2)
          go_roundw
          case rel => exact ⟨k + 1, z, by omega, by go_num, rfl, hz1, HZ, B2, S2⟩
          case measure => simp [intOf]; omega
        · obtain rfl : m = 4001 := by omega
          go_wp2_with fail
          go_ret
          refine ⟨?_, hBr.out⟩
          have h1 := hc.out
          have h2 := nodesL_take_le (t.args.map (instT l)) k
          have h3 := HN.out
          have h4 : capped (n + nodes (instT l t)) 4001 = 4001 := by
            unfold capped at h1 ⊢
            split at h1 <;> split <;> omega
          rw [h4]
          rfl
      · obtain rfl : k = t.args.length := by omega
        go_wp2_with fail
        go_ret
        refine ⟨?_, hBr.out⟩
        have h1 := hc.out
        have h3 := HN.out
        rw [List.take_of_length_le (by simp)] at h1
        show Ending.returned (.int .i64 (m : Int)) = _
        rw [h1, h3]
        congr 3
        omega
end Go.Proofs.YtkapejcbmonfkaaGreatDoor
