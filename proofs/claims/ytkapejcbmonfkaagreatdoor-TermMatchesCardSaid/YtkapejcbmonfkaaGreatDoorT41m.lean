/- Walks: rank, cmp.Compare at floats, order and standard of any trees that may be. No condition but those that each theorem names. Walk: order of any two trees that may be. No condition but those that each theorem names. Walks: standard and Compare of any two trees that may be; the document's Checks. No condition but those that each theorem names. -/
import Derived.Deep.RegionHeld3
import Derived.Test.YtkapejcbmonfkaaGreatDoorT38m
namespace Go.Proofs.YtkapejcbmonfkaaGreatDoor
open Go.RowKit

theorem rank_any (k : Int) (w : World) : Calls Tryz.prog 91 #[.int .i64 k] w fun e w' => e = .returned (.int .i64 (rankT k)) ∧ w' = w := by
  obtain ⟨r, hr⟩ : ∃ r, r = rankT k := ⟨_, rfl⟩
  rw [← hr]
  unfold rankT at hr
  rcases (show k = 1 ∨ k = 4 ∨ k = 3 ∨ k = 2 ∨ (k ≠ 1 ∧ k ≠ 4 ∧ k ≠ 3 ∧ k ≠ 2) by omega) with rfl | rfl | rfl | rfl | ⟨h1, h4, h3, h2⟩
  · simp at hr; subst hr
    go_enter Tryz.func91, Tryz.ntmps91
    go_wp2
    go_ret
    exact ⟨rfl, rfl⟩
  · simp at hr; subst hr
    go_enter Tryz.func91, Tryz.ntmps91
    go_wp2
    go_ret
    exact ⟨rfl, rfl⟩
  · simp at hr; subst hr
    go_enter Tryz.func91, Tryz.ntmps91
    go_wp2
    go_ret
    exact ⟨rfl, rfl⟩
  · simp at hr; subst hr
    go_enter Tryz.func91, Tryz.ntmps91
    go_wp2
    go_ret
    exact ⟨rfl, rfl⟩
  · rw [if_neg h1, if_neg h4, if_neg h3, if_neg h2] at hr
    subst hr
    have n1 : (k == 1) = false := beq_eq_false_iff_ne.2 h1
    have n2 : (k == 2) = false := beq_eq_false_iff_ne.2 h2
    have n3 : (k == 3) = false := beq_eq_false_iff_ne.2 h3
    have n4 : (k == 4) = false := beq_eq_false_iff_ne.2 h4
    clear h1 h2 h3 h4
    go_enter Tryz.func91, Tryz.ntmps91
    go_wp2
    go_ret
    exact ⟨rfl, rfl⟩
theorem isNaNF_any (n : Nat) (w : World) : Calls Tryz.prog 109 #[.float .f64 n] w fun e w' => e = .returned (.bool (isNaNb n)) ∧ w = w' := by
  go_enter Tryz.func109, Tryz.ntmps109
  go_wp2
  go_ret
  exact ⟨rfl, rfl⟩
set_option maxRecDepth 100000 in
theorem compareF_any (a b : Nat) (w : World) (ha : FinB a) (hb : FinB b) : Calls Tryz.prog 92 #[.float .f64 a, .float .f64 b] w fun e w' => e = .returned (.int .i64 (cmpF a b)) ∧ w' = w := by
  have CA := hid (show ∀ W, Calls Tryz.prog 109 #[.float .f64 a] W fun e w' => e = .returned (.bool false) ∧ W = w' from fun W => by have h := isNaNF_any a W; rw [(fin_facts a ha).2] at h; exact h)
  have CB := hid (show ∀ W, Calls Tryz.prog 109 #[.float .f64 b] W fun e w' => e = .returned (.bool false) ∧ W = w' from fun W => by have h := isNaNF_any b W; rw [(fin_facts b hb).2] at h; exact h)
  have ho := order_fin a b ha hb
  unfold cmpF
  rw [Int.toNat_natCast, Int.toNat_natCast]
  generalize compare (fval a) (fval b) = c at *
  rw [ho]
  clear ha hb
  cases c
  all_goals
    go_enter Tryz.func92, Tryz.ntmps92
    go_wp2_with (first
      | (go_at_call_of 109 (Value.float .f64 a); (with_reducible refine (CA.out _).mono ?_); rintro e w' ⟨rfl, rfl⟩)
      | (go_at_call_of 109 (Value.float .f64 b); (with_reducible refine (CB.out _).mono ?_); rintro e w' ⟨rfl, rfl⟩))
    go_ret
    exact ⟨rfl, rfl⟩
end Go.Proofs.YtkapejcbmonfkaaGreatDoor

namespace Go.Proofs.YtkapejcbmonfkaaGreatDoor
open Go.RowKit

theorem bareT_le (s : ByteArray) : (bareT s).size ≤ s.size := unsigned_le s
theorem drewN_below (W : World) (n : Nat) : Below W.heap.size W (W.drewN n) := ⟨rfl, rfl, rfl, Nat.le_refl _, fun _ _ => rfl⟩
theorem ordL_drop : ∀ (l m : List Tm) (k : Nat) (h : k < l.length) (h' : k < m.length), ordL (l.drop k) (m.drop k) = orI (ordT l[k] m[k]) (ordL (l.drop (k + 1)) (m.drop (k + 1)))
  | [], _, k, h, _ => by simp at h
  | _ :: _, [], k, _, h => by simp at h
  | t :: l, u :: m, 0, _, _ => by simp [ordL]
  | t :: l, u :: m, k + 1, h, h' => by
    have := ordL_drop l m k (by simpa using h) (by simpa using h')
    simpa using this
set_option maxRecDepth 100000 in
set_option maxHeartbeats 8000000 in
theorem order_any (d : Nat) : ∀ (t u : Tm) (p q : Option Addr) (cp cq : Nat) (w : World), nodes t ≤ d → TmAt w t p → TmAt w u q → Good t → Good u →
    Calls Tryz.prog 62 #[t.val p cp, u.val q cq, .func (.func 64) #[] #[]] w fun e w' => e = .returned (.int .i64 (ordT t u)) ∧ Below w.heap.size w w' := by
  induction d with
  | zero => intro t u p q cp cq w h; have := nodes_pos t; omega
  | succ d ih =>
    intro t u p q cp cq w hd hT hU gt gu
    obtain ⟨W0, hW0⟩ : ∃ W0, W0 = (w.alloc (tobj t p cp)).alloc (tobj u q cq) := ⟨_, rfl⟩
    have hB := hid (show Below w.heap.size w W0 by rw [hW0]; exact ((Below.refl w.heap.size w).alloc (Nat.le_refl _) _).alloc (by simp) _)
    have HS2 := hid (show W0.heap[w.heap.size + 1]? = some (tobj u q cq) by rw [hW0]; have h := heap_alloc_new (w.alloc (tobj t p cp)) (tobj u q cq); rwa [World.size_alloc] at h)
    have HS1 := hid (show W0.heap[w.heap.size]? = some (tobj t p cp) by rw [hW0]; exact (heap_alloc_old (w.alloc (tobj t p cp)) _ (by simp)).trans (heap_alloc_new w _))
    have hz0 : w.heap.size + 2 ≤ W0.heap.size := by rw [hW0]; simp
    have CN := hid (fun W => orderNums_any t.num u.num W (Nat.le_trans (bareT_le _) (by unfold maxLen; exact gt.1.head.num)) (Nat.le_trans (bareT_le _) (by unfold maxLen; exact gu.1.head.num)))
    have OT := hid gt.ok
    have OU := hid gu.ok
    have HG := hid (And.intro gt gu)
    have HT := hid (hT.keep hB.out)
    have HU := hid (hU.keep hB.out)
    have HE := hid (ordT_eq t u)
    have HNE := hid (fun k (h : k < t.args.length) => (show nodes t.args[k] ≤ d by have := nodes_lt h; omega))
    have hlt := hT.len
    have hlu := hU.len
    unfold maxLen at hlt hlu
    obtain ⟨x0, x1, x2, x3, x4, x5⟩ := six_of HS1.out
    obtain ⟨y0, y1, y2, y3, y4, y5⟩ := six_of HS2.out
    obtain ⟨r, hr⟩ : ∃ r, r = ordT t u := ⟨_, rfl⟩
    rw [← hr]
    have HR := hid (hr.trans HE.out)
    clear hr HE hT hU gt gu
    unfold tobj at hW0
    unfold Tm.val at ih ⊢
    have IH := hid ih
    clear ih
    by_cases hR : cmpI (rankT t.kind) (rankT u.kind) = 0
    · have hk := rank_inj OT.out.kind OU.out.kind (cmpI_zero.1 hR)
      have HR2 := hid (show r = ordG t u by rw [HR.out, hR]; rfl)
      have hRR := hid (cmpI_zero.2 (cmpI_zero.1 hR))
      clear HR hR
      rw [← hk] at y0 hW0 hRR ⊢
      rcases (show t.kind = 1 ∨ t.kind = 4 ∨ t.kind = 3 ∨ (t.kind ≠ 1 ∧ t.kind ≠ 4 ∧ t.kind ≠ 3) by omega) with h | h | h | ⟨h1, h4, h3⟩
      · have HV := hid (show r = cmpI t.var u.var by rw [HR2.out]; unfold ordG; rw [if_pos h])
        rw [h] at x0 y0 hW0 hRR ⊢
        clear HR2 hk h HNE IH HT HU HG OT OU
        generalize t.var = tv at *
        generalize u.var = uv at *
        go_enter Tryz.func62, Tryz.ntmps62
        go_wp2_with fail
        rw [← hW0]
        clear hW0
        go_quiet ((first | fail | (go_at_call 91; exact Calls.quiet_of_same (rank_any _ _)) | (go_at_call 64; exact Calls.quiet_of_same ((compareI_any _ _ _).mono fun e w' h => ⟨by rw [hRR.out] at h; exact h.1, h.2.symm⟩))))
        go_wp2_with (go_at_call 64; (with_reducible refine (compareI_any _ _ _).mono ?_); rintro e w2 ⟨rfl, rfl⟩)
        go_ret
        exact ⟨by rw [HV.out]; rfl, hB.out.trans ((drewN_below W0 nq).mono hB.out.size)⟩
      · have HV := hid (show r = cmpF t.bits u.bits by rw [HR2.out]; unfold ordG; rw [if_neg (by omega), if_pos h])
        obtain ⟨f1, -, -, z1⟩ := OT.out.fin h
        obtain ⟨f2, -, -, z2⟩ := OU.out.fin (hk ▸ h)
        rw [h] at x0 y0 hW0 hRR ⊢
        clear HR2 hk h HNE IH HT HU HG OT OU
        obtain ⟨n, hn⟩ : ∃ n : Nat, t.bits = (n : Int) := ⟨t.bits.toNat, by omega⟩
        obtain ⟨m, hm⟩ : ∃ m : Nat, u.bits = (m : Int) := ⟨u.bits.toNat, by omega⟩
        rw [hn] at f1 x3 hW0 HV ⊢
        rw [hm] at f2 y3 hW0 HV ⊢
        rw [Int.toNat_natCast] at f1 f2
        clear hn hm z1 z2
        have CF := hid (fun W => compareF_any n m W f1 f2)
        have r1 := run_frombits n
        have r2 := run_frombits m
        clear f1 f2
        generalize cmpF (n : Int) (m : Int) = z at *
        go_enter Tryz.func62, Tryz.ntmps62
        go_wp2_with fail
        rw [← hW0]
        clear hW0
        go_quiet ((first | fail | (go_at_call 91; exact Calls.quiet_of_same (rank_any _ _)) | (go_at_call 64; exact Calls.quiet_of_same ((compareI_any _ _ _).mono fun e w' h => ⟨by rw [hRR.out] at h; exact h.1, h.2.symm⟩))))
        go_wp2_with fail
        obtain ⟨W1, hW1⟩ : ∃ W1, W1 = W0.drewN nq := ⟨_, rfl⟩
        have hB1 := hid (show Below w.heap.size w W1 by rw [hW1]; exact hB.out.trans ((drewN_below W0 nq).mono hB.out.size))
        have a3 : W1.cell? ⟨w.heap.size, 3, none⟩ = some (.int .u64 (n : Int)) := by rw [hW1]; exact x3
        have b3 : W1.cell? ⟨w.heap.size + 1, 3, none⟩ = some (.int .u64 (m : Int)) := by rw [hW1]; exact y3
        rw [← hW1]
        clear hW1 x0 x1 x2 x3 x4 x5 y0 y1 y2 y3 y4 y5 HS1 HS2
        go_quiet ((first | fail | (go_at_call 92; exact Calls.quiet_of_same (CF.out _))))
        go_wp2
        go_ret
        exact ⟨by rw [HV.out]; rfl, hB1.out.trans ((drewN_below W1 _).mono hB1.out.size)⟩
      · have HV := hid (show r = numsWay t.num u.num by rw [HR2.out]; unfold ordG; rw [if_neg (by omega), if_neg (by omega), if_pos h])
        rw [h] at x0 y0 hW0 hRR ⊢
        clear HR2 hk h HNE IH HT HU HG OT OU
        generalize numsWay t.num u.num = z at *
        generalize t.num = tn at *
        generalize u.num = un at *
        go_enter Tryz.func62, Tryz.ntmps62
        go_wp2_with fail
        rw [← hW0]
        clear hW0
        go_quiet ((first | fail | (go_at_call 91; exact Calls.quiet_of_same (rank_any _ _)) | (go_at_call 64; exact Calls.quiet_of_same ((compareI_any _ _ _).mono fun e w' h => ⟨by rw [hRR.out] at h; exact h.1, h.2.symm⟩))))
        go_wp2_with (go_at_call 94; (with_reducible refine (CN.out _).mono ?_); rintro e w2 ⟨rfl, hb2⟩; have B2 := hid hb2; clear hb2)
        go_ret
        exact ⟨by rw [HV.out]; rfl, hB.out.trans (((drewN_below W0 nq).trans (B2.out.mono (Nat.le_refl _))).mono hB.out.size)⟩
      · have hq1 : (t.kind == 1) = false := beq_eq_false_iff_ne.2 h1
        have hq4 : (t.kind == 4) = false := beq_eq_false_iff_ne.2 h4
        have hq3 : (t.kind == 3) = false := beq_eq_false_iff_ne.2 h3
        obtain ⟨li, hli⟩ : ∃ li, li = cmpI (t.args.length : Int) (u.args.length : Int) := ⟨_, rfl⟩
        obtain ⟨ls, hls⟩ : ∃ ls, ls = cmpS t.name.data.toList u.name.data.toList := ⟨_, rfl⟩
        have HV := hid (show r = orI (orI li ls) (ordL t.args u.args) by rw [HR2.out, hli, hls]; unfold ordG; rw [if_neg h1, if_neg h4, if_neg h3])
        have HLI := hid hli
        have CI := hid (show ∀ W, Calls Tryz.prog 64 #[.int .i64 (t.args.length : Int), .int .i64 (u.args.length : Int)] W fun e w' => e = .returned (.int .i64 li) ∧ W = w' from fun W => by rw [hli]; exact compareI_any _ _ W)
        have CS := hid (show ∀ W, Calls Tryz.prog 96 #[.string t.name, .string u.name] W fun e w' => e = .returned (.int .i64 ls) ∧ W = w' from fun W => by rw [hls]; exact compareS_any _ _ W)
        clear HR2 hk h1 h4 h3 OT OU CN hli hls
        have PO := hid (fun (W : World) => pair_cells W (.int .i64 li) (.int .i64 ls) 3)
        have SX := hid (show ∀ W : World, Below W0.heap.size W0 W → (W.cell? ⟨w.heap.size, 5, none⟩ = some (.slice p t.args.length cp) ∧ W.cell? ⟨w.heap.size, 1, none⟩ = some (.string t.name) ∧ W.cell? ⟨w.heap.size + 1, 5, none⟩ = some (.slice q u.args.length cq) ∧ W.cell? ⟨w.heap.size + 1, 1, none⟩ = some (.string u.name)) from fun W h =>
          ⟨(six_of (obj_keep HS1.out h)).c5, (six_of (obj_keep HS1.out h)).c1, (six_of (obj_keep HS2.out h)).c5, (six_of (obj_keep HS2.out h)).c1⟩)
        clear HS1 HS2
        by_cases hor : orI li ls = 0
        · have hlen := hid (show t.args.length = u.args.length by have h := (orI_zero.1 hor).1; rw [HLI.out, cmpI_zero] at h; omega)
          have HV2 := hid (show r = ordL (t.args.drop 0) (u.args.drop 0) from (HV.out).trans (if_pos hor))
          have hqo : (orI li ls == 0) = true := beq_iff_eq.2 hor
          have hqn : (orI li ls != 0) = false := by simp [hor]
          clear HV hor HLI
          go_enter Tryz.func62, Tryz.ntmps62
          go_wp2_with fail
          rw [← hW0]
          clear hW0
          go_quiet ((first | fail | (go_at_call 91; exact Calls.quiet_of_same (rank_any _ _)) | (go_at_call 64; exact Calls.quiet_of_same ((compareI_any _ _ _).mono fun e w' h => ⟨by rw [hRR.out] at h; exact h.1, h.2.symm⟩))))
          go_wp2_with fail
          obtain ⟨W1, hW1⟩ : ∃ W1, W1 = W0.drewN nq := ⟨_, rfl⟩
          have hB1 := hid (show Below W0.heap.size W0 W1 by rw [hW1]; exact drewN_below W0 nq)
          rw [← hW1]
          clear hW1 x0 x1 x2 x3 x4 x5 y0 y1 y2 y3 y4 y5
          have s1 := SX.out W1 hB1.out
          go_region_held3 (fun w' => w'.cell? ⟨w.heap.size, 5, none⟩ = some (.slice p t.args.length cp) ∧ w'.cell? ⟨w.heap.size, 1, none⟩ = some (.string t.name) ∧ w'.cell? ⟨w.heap.size + 1, 5, none⟩ = some (.slice q u.args.length cq) ∧ w'.cell? ⟨w.heap.size + 1, 1, none⟩ = some (.string u.name))
            (first
              | (with_reducible exact s1)
              | (with_reducible exact SX.out _ (bl_drew hB1.out))
              | (with_reducible exact SX.out _ (bl_drew (bl_alloc hB1.out)))
              | (with_reducible exact SX.out _ (bl_alloc (bl_drew hB1.out)))
              | fail)
            ((first
              | (go_at_call 64; (with_reducible refine (CI.out _).mono ?_); rintro e w' ⟨rfl, rfl⟩)
              | (go_at_call 96; (with_reducible refine (CS.out _).mono ?_); rintro e w' ⟨rfl, rfl⟩)
              | (go_at_call 95; (with_reducible refine (or_any _ li ls _ (PO.out W1).1 (PO.out W1).2).mono ?_); rintro e w' ⟨rfl, rfl⟩)))
          obtain ⟨W2, hW2⟩ : ∃ W2, W2 = (W1.alloc (.cells #[.int .i64 li, .int .i64 ls] 3)).drew := ⟨_, rfl⟩
          have hB2 := hid (show Below W0.heap.size W0 W2 by rw [hW2]; exact bl_drew (bl_alloc hB1.out))
          rw [← hW2]
          clear hW2 s1 CI CS PO
          obtain ⟨s2a, s2d, s2b, s2c⟩ := SX.out W2 hB2.out
          go_wp2_with fail
          (try simp only [hqn])
          go_loopw [67] (fun i wr => ∃ k : Nat, k ≤ t.args.length ∧ i = .int .i64 (k : Int) ∧ Hid (r = ordL (t.args.drop k) (u.args.drop k)) ∧ Hid (Below W0.heap.size W0 wr)) (fun i _ => t.args.length - (intOf i).toNat)
          case atStart => exact ⟨0, by omega, rfl, HV2, hB2⟩
          case round =>
            clear HV2 hB2 hB1
            obtain ⟨k, hk, rfl, hr, hBr⟩ := hrel
            obtain ⟨g5, -, k5, -⟩ := SX.out wr hBr.out
            by_cases hlt : k < t.args.length
            · have hlt2 : k < u.args.length := by rw [← hlen.out]; exact hlt
              have hk0 : (0 : Int) ≤ (k : Int) := by omega
              have hk1 : (k : Int) < (t.args.length : Int) := by omega
              have hk2 : (k : Int) < (u.args.length : Int) := by omega
              obtain ⟨b, o, rfl, e1, c1, hs1, ht1⟩ := (HT.out.keep hBr.out).get k hlt
              obtain ⟨b2, o2, rfl, e2, c2, hs2, ht2⟩ := (HU.out.keep hBr.out).get k hlt2
              have HCALL := hid (fun (W : World) (h : Below wr.heap.size wr W) => IH.out t.args[k] u.args[k] e1 e2 c1 c2 W (HNE.out k hlt) (ht1.keep h) (ht2.keep h) (HG.out.1.arg _ (List.getElem_mem hlt)).1 (HG.out.2.arg _ (List.getElem_mem hlt2)).1)
              have HRK := hid (hr.out.trans (ordL_drop t.args u.args k hlt hlt2))
              have RR := hid (Below.refl wr.heap.size wr)
              clear hr ht1 ht2
              generalize t.args[k] = t1 at *
              generalize u.args[k] = u1 at *
              generalize ordT t1 u1 = z at *
              have SR := hid (show ∀ W : World, Below wr.heap.size wr W → (W.cell? ⟨w.heap.size, 5, none⟩ = some (.slice (some ⟨b, o, none⟩) t.args.length cp) ∧ W.cell? ⟨w.heap.size + 1, 5, none⟩ = some (.slice (some ⟨b2, o2, none⟩) u.args.length cq) ∧ W.cell? ⟨b, o + k * 6, none⟩ = some (.int .i64 t1.kind) ∧ W.cell? ⟨b, o + k * 6 + 1, none⟩ = some (.string t1.name) ∧ W.cell? ⟨b, o + k * 6 + 2, none⟩ = some (.string t1.num) ∧ W.cell? ⟨b, o + k * 6 + 3, none⟩ = some (.int .u64 t1.bits) ∧ W.cell? ⟨b, o + k * 6 + 4, none⟩ = some (.int .i64 t1.var) ∧ W.cell? ⟨b, o + k * 6 + 5, none⟩ = some (.slice e1 t1.args.length c1) ∧ W.cell? ⟨b2, o2 + k * 6, none⟩ = some (.int .i64 u1.kind) ∧ W.cell? ⟨b2, o2 + k * 6 + 1, none⟩ = some (.string u1.name) ∧ W.cell? ⟨b2, o2 + k * 6 + 2, none⟩ = some (.string u1.num) ∧ W.cell? ⟨b2, o2 + k * 6 + 3, none⟩ = some (.int .u64 u1.bits) ∧ W.cell? ⟨b2, o2 + k * 6 + 4, none⟩ = some (.int .i64 u1.var) ∧ W.cell? ⟨b2, o2 + k * 6 + 5, none⟩ = some (.slice e2 u1.args.length c2)) from fun W h =>
                have m1 := hs1.keep h
                have m2 := hs2.keep h
                have n := SX.out W (bl_call hBr.out h)
                ⟨n.1, n.2.2.1, m1.c0, m1.c1, m1.c2, m1.c3, m1.c4, m1.c5, m2.c0, m2.c1, m2.c2, m2.c3, m2.c4, m2.c5⟩)
              have sr := SR.out wr RR.out
              clear hs1 hs2 g5 k5
              by_cases hz : z = 0
              · subst hz
                have HRN := hid (show r = ordL (t.args.drop (k + 1)) (u.args.drop (k + 1)) from HRK.out)
                clear HRK
                go_wp2_with fail
                go_region_held3 (fun w' => w'.cell? ⟨w.heap.size, 5, none⟩ = some (.slice (some ⟨b, o, none⟩) t.args.length cp) ∧ w'.cell? ⟨w.heap.size + 1, 5, none⟩ = some (.slice (some ⟨b2, o2, none⟩) u.args.length cq) ∧ w'.cell? ⟨b, o + k * 6, none⟩ = some (.int .i64 t1.kind) ∧ w'.cell? ⟨b, o + k * 6 + 1, none⟩ = some (.string t1.name) ∧ w'.cell? ⟨b, o + k * 6 + 2, none⟩ = some (.string t1.num) ∧ w'.cell? ⟨b, o + k * 6 + 3, none⟩ = some (.int .u64 t1.bits) ∧ w'.cell? ⟨b, o + k * 6 + 4, none⟩ = some (.int .i64 t1.var) ∧ w'.cell? ⟨b, o + k * 6 + 5, none⟩ = some (.slice e1 t1.args.length c1) ∧ w'.cell? ⟨b2, o2 + k * 6, none⟩ = some (.int .i64 u1.kind) ∧ w'.cell? ⟨b2, o2 + k * 6 + 1, none⟩ = some (.string u1.name) ∧ w'.cell? ⟨b2, o2 + k * 6 + 2, none⟩ = some (.string u1.num) ∧ w'.cell? ⟨b2, o2 + k * 6 + 3, none⟩ = some (.int .u64 u1.bits) ∧ w'.cell? ⟨b2, o2 + k * 6 + 4, none⟩ = some (.int .i64 u1.var) ∧ w'.cell? ⟨b2, o2 + k * 6 + 5, none⟩ = some (.slice e2 u1.args.length c2))
                  (first
                    | (with_reducible exact sr)
                    | (with_reducible exact SR.out _ (bl_drew RR.out))
                    | (with_reducible exact SR.out _ C2.out)
                    | fail)
                  ((first
                    | (go_at_call 62; (with_reducible refine (HCALL.out _ (bl_drew RR.out)).mono ?_); rintro e w2 ⟨rfl, hb2⟩; have C2 := hid (bl_call (bl_drew RR.out) hb2); clear hb2)))
                go_wp2
                go_roundw
                case rel => exact ⟨k + 1, by omega, by go_num, HRN, hid (bl_call hBr.out C2.out)⟩
                case measure => simp [intOf]; omega
              · have hq : (z == 0) = false := beq_eq_false_iff_ne.2 hz
                have HRN := hid (show r = z from HRK.out.trans (if_neg hz))
                clear HRK hz
                go_wp2_with fail
                go_region_held3 (fun w' => w'.cell? ⟨w.heap.size, 5, none⟩ = some (.slice (some ⟨b, o, none⟩) t.args.length cp) ∧ w'.cell? ⟨w.heap.size + 1, 5, none⟩ = some (.slice (some ⟨b2, o2, none⟩) u.args.length cq) ∧ w'.cell? ⟨b, o + k * 6, none⟩ = some (.int .i64 t1.kind) ∧ w'.cell? ⟨b, o + k * 6 + 1, none⟩ = some (.string t1.name) ∧ w'.cell? ⟨b, o + k * 6 + 2, none⟩ = some (.string t1.num) ∧ w'.cell? ⟨b, o + k * 6 + 3, none⟩ = some (.int .u64 t1.bits) ∧ w'.cell? ⟨b, o + k * 6 + 4, none⟩ = some (.int .i64 t1.var) ∧ w'.cell? ⟨b, o + k * 6 + 5, none⟩ = some (.slice e1 t1.args.length c1) ∧ w'.cell? ⟨b2, o2 + k * 6, none⟩ = some (.int .i64 u1.kind) ∧ w'.cell? ⟨b2, o2 + k * 6 + 1, none⟩ = some (.string u1.name) ∧ w'.cell? ⟨b2, o2 + k * 6 + 2, none⟩ = some (.string u1.num) ∧ w'.cell? ⟨b2, o2 + k * 6 + 3, none⟩ = some (.int .u64 u1.bits) ∧ w'.cell? ⟨b2, o2 + k * 6 + 4, none⟩ = some (.int .i64 u1.var) ∧ w'.cell? ⟨b2, o2 + k * 6 + 5, none⟩ = some (.slice e2 u1.args.length c2))
                  (first
                    | (with_reducible exact sr)
                    | (with_reducible exact SR.out _ (bl_drew RR.out))
                    | (with_reducible exact SR.out _ C2.out)
                    | fail)
                  ((first
                    | (go_at_call 62; (with_reducible refine (HCALL.out _ (bl_drew RR.out)).mono ?_); rintro e w2 ⟨rfl, hb2⟩; have C2 := hid (bl_call (bl_drew RR.out) hb2); clear hb2)))
                go_wp2
                go_ret
                exact ⟨by rw [HRN.out]; rfl, hB.out.trans ((bl_call hBr.out C2.out).mono hB.out.size)⟩
            · obtain rfl : k = t.args.length := by omega
              have HRN := hid (show r = 0 by rw [hr.out, List.drop_length]; simp [ordL])
              clear hr hlt
              go_wp2_with fail
              go_ret
              exact ⟨by rw [HRN.out]; rfl, hB.out.trans (hBr.out.mono hB.out.size)⟩
        · have HV2 := hid (show r = orI li ls from (HV.out).trans (if_neg hor))
          have hqo : (orI li ls == 0) = false := beq_eq_false_iff_ne.2 hor
          clear HV hor HLI
          go_enter Tryz.func62, Tryz.ntmps62
          go_wp2_with fail
          rw [← hW0]
          clear hW0
          go_quiet ((first | fail | (go_at_call 91; exact Calls.quiet_of_same (rank_any _ _)) | (go_at_call 64; exact Calls.quiet_of_same ((compareI_any _ _ _).mono fun e w' h => ⟨by rw [hRR.out] at h; exact h.1, h.2.symm⟩))))
          go_wp2_with fail
          obtain ⟨W1, hW1⟩ : ∃ W1, W1 = W0.drewN nq := ⟨_, rfl⟩
          have hB1 := hid (show Below W0.heap.size W0 W1 by rw [hW1]; exact drewN_below W0 nq)
          rw [← hW1]
          clear hW1 x0 x1 x2 x3 x4 x5 y0 y1 y2 y3 y4 y5
          have s1 := SX.out W1 hB1.out
          go_region_held3 (fun w' => w'.cell? ⟨w.heap.size, 5, none⟩ = some (.slice p t.args.length cp) ∧ w'.cell? ⟨w.heap.size, 1, none⟩ = some (.string t.name) ∧ w'.cell? ⟨w.heap.size + 1, 5, none⟩ = some (.slice q u.args.length cq) ∧ w'.cell? ⟨w.heap.size + 1, 1, none⟩ = some (.string u.name))
            (first
              | (with_reducible exact s1)
              | (with_reducible exact SX.out _ (bl_drew hB1.out))
              | (with_reducible exact SX.out _ (bl_drew (bl_alloc hB1.out)))
              | (with_reducible exact SX.out _ (bl_alloc (bl_drew hB1.out)))
              | fail)
            ((first
              | (go_at_call 64; (with_reducible refine (CI.out _).mono ?_); rintro e w' ⟨rfl, rfl⟩)
              | (go_at_call 96; (with_reducible refine (CS.out _).mono ?_); rintro e w' ⟨rfl, rfl⟩)
              | (go_at_call 95; (with_reducible refine (or_any _ li ls _ (PO.out W1).1 (PO.out W1).2).mono ?_); rintro e w' ⟨rfl, rfl⟩)))
          go_wp2
          go_ret
          exact ⟨by rw [HV2.out]; rfl, hB.out.trans ((bl_drew (bl_alloc hB1.out)).mono hB.out.size)⟩
    · have HV := hid (show r = cmpI (rankT t.kind) (rankT u.kind) by rw [HR.out]; unfold orI; rw [if_neg hR])
      have hq : (cmpI (rankT t.kind) (rankT u.kind) == 0) = false := beq_eq_false_iff_ne.2 hR
      clear HR hR HNE IH HT HU HG OT OU CN
      go_enter Tryz.func62, Tryz.ntmps62
      go_wp2_with fail
      rw [← hW0]
      clear hW0
      go_quiet ((first | fail | (go_at_call 91; exact Calls.quiet_of_same (rank_any _ _)) | (go_at_call 64; exact Calls.quiet_of_same ((compareI_any _ _ _).mono fun e w' h => ⟨h.1, h.2.symm⟩))))
      go_wp2
      go_ret
      exact ⟨by rw [HV.out]; rfl, hB.out.trans ((drewN_below W0 nq).mono hB.out.size)⟩
end Go.Proofs.YtkapejcbmonfkaaGreatDoor

namespace Go.Proofs.YtkapejcbmonfkaaGreatDoor
open Go.RowKit

set_option maxRecDepth 100000 in
set_option maxHeartbeats 4000000 in
theorem standard_any (t u : Tm) (p q : Option Addr) (cp cq : Nat) (w : World) (hT : TmAt w t p) (hU : TmAt w u q) (gt : Good t) (gu : Good u) :
    Calls Tryz.prog 47 #[t.val p cp, u.val q cq] w fun e w' => e = .returned (.int .i64 (ordT t u)) ∧ Below w.heap.size w w' := by
  have hB := hid (((Below.refl w.heap.size w).alloc (Nat.le_refl _) (tobj t p cp)).alloc (by simp) (tobj u q cq))
  have OI := order_any (nodes t) t u p q cp cq _ (Nat.le_refl _) (hT.keep hB.out) (hU.keep hB.out) gt gu
  unfold tobj at hB OI
  unfold Tm.val at OI ⊢
  have HOI := hid OI
  clear OI hT hU gt gu
  generalize ordT t u = z at *
  go_enter Tryz.func47, Tryz.ntmps47
  go_wp2_with (go_at_call 62; (with_reducible refine HOI.out.mono ?_); rintro e w2 ⟨rfl, hb2⟩; have B2 := hid (hB.out.trans (hb2.mono hB.out.size)); clear hb2)
  go_ret
  exact ⟨rfl, B2.out⟩
/-- A tree that Check finds nothing wrong with. -/
def Valid (t : Tm) : Prop := AllT DomA t ∧ checkErr vName numOk bitsOk t = 0
theorem Valid.good {t : Tm} (h : Valid t) : Good t := ⟨h.1, by
  have := h.2
  unfold checkErr at this
  split at this
  · cases this
  · exact this⟩
set_option maxRecDepth 100000 in
set_option maxHeartbeats 4000000 in
/-- The document's Checks of a row of terms. -/
theorem checksR_any (l : List Tm) (p : Option Addr) (cap : Nat) (w : World) (hlen : l.length ≤ maxLen) (hR : l = [] ∨ ∃ b o, p = some ⟨b, o, none⟩ ∧ RowT w l b o) (hD : AllR DomA l) :
    Calls Tryz.prog 48 #[.slice p l.length cap] w fun e w' => e = .returned (.int .i64 (checksErr vName numOk bitsOk l)) ∧ Below w.heap.size w w' := by
  have HR := hid hR
  have HDA := hid (fun k hk => hD.get (l := l) k hk)
  have HRD := hid (fun k hk => checksErr_drop vName numOk bitsOk l k hk)
  have HB := hid (Below.refl w.heap.size w)
  obtain ⟨r, hr⟩ : ∃ r, r = checksErr vName numOk bitsOk l := ⟨_, rfl⟩
  rw [← hr]
  have HE := hid (show r = checksErr vName numOk bitsOk (l.drop 0) from hr)
  unfold maxLen at hlen
  clear hR hD hr
  go_enter Tryz.func48, Tryz.ntmps48
  go_wp2_with fail
  go_loopw [3] (fun i wr => ∃ k : Nat, k ≤ l.length ∧ i = .int .i64 (k : Int) ∧ Hid (r = checksErr vName numOk bitsOk (l.drop k)) ∧ Hid (Below w.heap.size w wr)) (fun i _ => l.length - (intOf i).toNat)
  case atStart => exact ⟨0, by omega, rfl, HE, HB⟩
  case round =>
    clear HB HE
    obtain ⟨k, hk, rfl, hr, hBr⟩ := hrel
    by_cases hlt : k < l.length
    · obtain ⟨b, o, rfl, hRT⟩ : ∃ b o, p = some ⟨b, o, none⟩ ∧ RowT w l b o := by
        rcases HR.out with rfl | h
        · simp at hlt
        · exact h
      obtain ⟨q, cq, hs, ht⟩ := (RowT.keep hBr.out hRT).get k hlt
      obtain ⟨x0, x1, x2, x3, x4, x5⟩ := hs
      have HTA := hid ht
      have HDK := hid (HDA.out k hlt)
      have HRK := hid (HRD.out k hlt)
      clear ht hRT
      generalize l[k] = u at *
      have C := checkR_any vName numOk bitsOk DomA u q cq _ HTA.out (oracleRA _) HDK.out
      unfold Tm.val at C
      have HC := hid C
      clear C
      generalize checkErr vName numOk bitsOk u = y at *
      by_cases hy : y = 0
      · subst hy
        have HRN := hid (show r = checksErr vName numOk bitsOk (l.drop (k + 1)) by rw [hr.out, HRK.out, if_pos rfl])
        clear HRK hr
        go_wp2_with (go_at_call 31; (with_reducible refine HC.out.mono ?_); rintro e w2 ⟨rfl, hb2⟩; have B2 := hid (hBr.out.trans (hb2.mono hBr.out.size)); clear hb2)
        go_roundw
        case rel => exact ⟨k + 1, by omega, by go_num, HRN, B2⟩
        case measure => simp [intOf]; omega
      · have hq : (y == 0) = false := beq_eq_false_iff_ne.2 hy
        have hq2 : (y != 0) = true := by simp [hy]
        have HRN := hid (show r = y by rw [hr.out, HRK.out, if_neg hy])
        clear HRK hr hy
        go_wp2_with (go_at_call 31; (with_reducible refine HC.out.mono ?_); rintro e w2 ⟨rfl, hb2⟩; have B2 := hid (hBr.out.trans (hb2.mono hBr.out.size)); clear hb2)
        go_ret
        exact ⟨ret_int (by rw [HRN.out]), B2.out⟩
    · obtain rfl : k = l.length := by omega
      clear hlt
      go_wp2_with fail
      go_ret
      exact ⟨ret_int (by rw [hr.out, List.drop_length]; rfl), hBr.out⟩
set_option maxRecDepth 100000 in
theorem first_any (l : List Tm) (p : Option Addr) (cap : Nat) (w : World) (hlen : l.length ≤ maxLen) (hR : l = [] ∨ ∃ b o, p = some ⟨b, o, none⟩ ∧ RowT w l b o) (hD : AllR DomA l) :
    Calls Tryz.prog 12 #[.slice p l.length cap] w fun e w' => e = .returned (.int .i64 (checksErr vName numOk bitsOk l)) ∧ Below w.heap.size w w' := by
  have C := hid (checksR_any l p cap w hlen hR hD)
  clear hR hD
  generalize checksErr vName numOk bitsOk l = z at *
  go_enter Tryz.func12, Tryz.ntmps12
  go_wp2_with (go_at_call 48; (with_reducible refine C.out.mono ?_); rintro e w2 ⟨rfl, hb2⟩; have B2 := hid hb2; clear hb2)
  go_ret
  exact ⟨rfl, B2.out⟩
end Go.Proofs.YtkapejcbmonfkaaGreatDoor
