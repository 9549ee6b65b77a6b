/- For every input the law TermOrders answers true and leaves its arguments alone: no condition on the arguments; the package-level tables that its row lists are tied to the program's text by the given tie. -/
import Derived.Test.YtkapejcbmonfkaaGreatDoorT47m
import Derived.Test.YtkapejcbmonfkaaGreatDoorT43m
import Derived.Test.YtkapejcbmonfkaaGreatDoorT36m
import Derived.Deep.DeepWitnessRowRef
namespace Go.Proofs.YtkapejcbmonfkaaGreatDoor
open Go.RowKit

set_option maxRecDepth 100000 in
set_option maxHeartbeats 16000000 in
theorem orderR_any (d : Nat) : ∀ (t u : Tm) (p q : Option Addr) (cp cq : Nat) (w : World), nodes t ≤ d → TmAt w t p → TmAt w u q → Good t → Good u →
    Calls Tryz.prog 13 #[t.val p cp, u.val q cq] w fun e w' => e = .returned (.int .i64 (ordT t u)) ∧ Below w.heap.size w w' := by
  induction d with
  | zero => intro t u p q cp cq w h; have := nodes_pos t; omega
  | succ d ih =>
    intro t u p q cp cq w hd hT hU gt gu
    obtain ⟨W0, hW0⟩ : ∃ W0, W0 = (w.alloc (tobj t p cp)).alloc (tobj u q cq) := ⟨_, rfl⟩
    have hB := hid (show Below w.heap.size w W0 by rw [hW0]; exact ((Below.refl w.heap.size w).alloc (Nat.le_refl _) _).alloc (by simp) _)
    have HS2 := hid (show W0.heap[w.heap.size + 1]? = some (tobj u q cq) by rw [hW0]; have h := heap_alloc_new (w.alloc (tobj t p cp)) (tobj u q cq); rwa [World.size_alloc] at h)
    have HS1 := hid (show W0.heap[w.heap.size]? = some (tobj t p cp) by rw [hW0]; exact (heap_alloc_old (w.alloc (tobj t p cp)) _ (by simp)).trans (heap_alloc_new w _))
    have OT := hid gt.ok
    have OU := hid gu.ok
    have HG := hid (And.intro gt gu)
    have HT := hid (hT.keep hB.out)
    have HU := hid (hU.keep hB.out)
    have HE := hid (ordT_eq t u)
    have HNE := hid (fun k (h : k < t.args.length) => (show nodes t.args[k] ≤ d by have := nodes_lt h; omega))
    have hlt := hT.len
    have hlu := hU.len
    unfold maxLen at hlt hlu
    obtain ⟨x0, x1, x2, x3, x4, x5⟩ := six_of HS1.out
    obtain ⟨y0, y1, y2, y3, y4, y5⟩ := six_of HS2.out
    have SX := hid (show ∀ W : World, Below W0.heap.size W0 W → (W.cell? ⟨w.heap.size, 5, none⟩ = some (.slice p t.args.length cp) ∧ W.cell? ⟨w.heap.size + 1, 5, none⟩ = some (.slice q u.args.length cq)) from fun W h =>
      ⟨(six_of (obj_keep HS1.out h)).c5, (six_of (obj_keep HS2.out h)).c5⟩)
    obtain ⟨r, hr⟩ : ∃ r, r = ordT t u := ⟨_, rfl⟩
    rw [← hr]
    have HR := hid (hr.trans HE.out)
    clear hr HE hT hU gt gu HS1 HS2
    unfold tobj at hW0
    unfold Tm.val at ih ⊢
    have IH := hid ih
    clear ih
    by_cases hR : t.kind = u.kind
    · have HR2 := hid (show r = ordG t u by rw [HR.out, hR, cmpI_zero.2 rfl]; rfl)
      clear HR
      rw [← hR] at y0 hW0 ⊢
      have hk := hid hR
      rcases (show t.kind = 1 ∨ t.kind = 4 ∨ t.kind = 3 ∨ t.kind = 2 ∨ t.kind = 5 by have := OT.out.kind; omega) with h | h | h | h | h
      · have HV := hid (show r = cmpI t.var u.var by rw [HR2.out]; unfold ordG; rw [if_pos h])
        rw [h] at x0 y0 hW0 ⊢
        clear HR2 hk hR h HNE IH HT HU HG OT OU SX
        generalize t.var = tv at *
        generalize u.var = uv at *
        have CI := hid (fun W => signR_any tv uv W)
        generalize cmpI tv uv = z at *
        go_enter Tryz.func13, Tryz.ntmps13
        go_wp2_with (first | (go_at_call 49; rw [← hW0]; (with_reducible refine (CI.out _).mono ?_); rintro e w' ⟨rfl, hw'⟩; replace hw' := hw'.symm; subst hw'; clear hW0))
        go_ret
        exact ⟨by rw [HV.out]; rfl, hB.out⟩
      · have HV := hid (show r = cmpF t.bits u.bits by rw [HR2.out]; unfold ordG; rw [if_neg (by omega), if_pos h])
        have hf1 := OT.out.fin h
        have hf2 := OU.out.fin (hk.out ▸ h)
        have HV2 := hid (show r = cmpI (keyR t.bits.toNat : Int) (keyR u.bits.toNat : Int) from HV.out.trans (cmpF_key hf1 hf2))
        obtain ⟨-, -, l1, z1⟩ := hf1
        obtain ⟨-, -, l2, z2⟩ := hf2
        rw [h] at x0 y0 hW0 ⊢
        clear HR2 HV hk hR h HNE IH HT HU HG OT OU SX
        obtain ⟨n, hn⟩ : ∃ n : Nat, t.bits = (n : Int) := ⟨t.bits.toNat, by omega⟩
        obtain ⟨m, hm⟩ : ∃ m : Nat, u.bits = (m : Int) := ⟨u.bits.toNat, by omega⟩
        rw [hn] at l1 x3 hW0 HV2 ⊢
        rw [hm] at l2 y3 hW0 HV2 ⊢
        rw [Int.toNat_natCast] at l1 l2
        rw [Int.toNat_natCast, Int.toNat_natCast] at HV2
        clear hn hm z1 z2
        have CF := hid (fun W => floatsR_any n m W l1 l2)
        clear l1 l2
        generalize cmpI (keyR n : Int) (keyR m : Int) = z at *
        go_enter Tryz.func13, Tryz.ntmps13
        go_wp2_with (first | (go_at_call 52; rw [← hW0]; (with_reducible refine (CF.out _).mono ?_); rintro e w' ⟨rfl, hw'⟩; replace hw' := hw'.symm; subst hw'; clear hW0))
        go_ret
        exact ⟨by rw [HV2.out]; rfl, hB.out⟩
      · have HV := hid (show r = numsWay t.num u.num by rw [HR2.out]; unfold ordG; rw [if_neg (by omega), if_neg (by omega), if_pos h])
        have CN := hid (fun W => intsR_any t.num u.num W (num_some HG.out.1 h) (num_some HG.out.2 (hk.out ▸ h)) HG.out.1.1.head.num HG.out.2.1.head.num)
        rw [h] at x0 y0 hW0 ⊢
        clear HR2 hk hR h HNE IH HT HU HG OT OU SX
        generalize numsWay t.num u.num = z at *
        generalize t.num = tn at *
        generalize u.num = un at *
        go_enter Tryz.func13, Tryz.ntmps13
        go_wp2_with (first | (go_at_call 51; rw [← hW0]; (with_reducible refine (CN.out _).mono ?_); rintro e w' ⟨rfl, hw'⟩; replace hw' := hw'.symm; subst hw'; clear hW0))
        go_ret
        exact ⟨by rw [HV.out]; rfl, hB.out⟩
      · have HV := hid (show r = cmpS t.name.data.toList u.name.data.toList by
          have e1 : t.args = [] := OT.out.args.resolve_left (by omega)
          have e2 : u.args = [] := OU.out.args.resolve_left (by have := hk.out; omega)
          rw [HR2.out]; unfold ordG; rw [if_neg (by omega), if_neg (by omega), if_neg (by omega), e1, e2]
          show orI (orI (cmpI ((0 : Nat) : Int) ((0 : Nat) : Int)) _) (ordL [] []) = _
          rw [cmpI_zero.2 rfl]
          unfold orI ordL
          split <;> simp_all)
        rw [h] at x0 y0 hW0 ⊢
        clear HR2 hk hR h HNE IH HT HU HG OT OU SX
        have CS := hid (fun W => textsR_any t.name u.name W)
        generalize cmpS t.name.data.toList u.name.data.toList = z at *
        go_enter Tryz.func13, Tryz.ntmps13
        go_wp2_with (first | (go_at_call 53; rw [← hW0]; (with_reducible refine (CS.out _).mono ?_); rintro e w' ⟨rfl, hw'⟩; replace hw' := hw'.symm; subst hw'; clear hW0))
        go_ret
        exact ⟨by rw [HV.out]; rfl, hB.out⟩
      · obtain ⟨ls, hls⟩ : ∃ ls, ls = cmpS t.name.data.toList u.name.data.toList := ⟨_, rfl⟩
        have HV := hid (show r = orI (orI (cmpI (t.args.length : Int) (u.args.length : Int)) ls) (ordL t.args u.args) by rw [HR2.out, hls]; unfold ordG; rw [if_neg (by omega), if_neg (by omega), if_neg (by omega)])
        have CS := hid (show ∀ W, Calls Tryz.prog 53 #[.string t.name, .string u.name] W fun e w' => e = .returned (.int .i64 ls) ∧ w' = W from fun W => by rw [hls]; exact textsR_any _ _ W)
        rw [h] at x0 y0 hW0 ⊢
        clear HR2 hk hR h OT OU hls
        by_cases hlen : t.args.length = u.args.length
        · have HV2 := hid (show r = orI ls (ordL (t.args.drop 0) (u.args.drop 0)) by rw [HV.out, hlen, cmpI_zero.2 rfl]; rfl)
          have HLEN := hid hlen
          have hqe : ((t.args.length : Int) == (u.args.length : Int)) = true := by rw [hlen]; simp
          have hqn : ((t.args.length : Int) != (u.args.length : Int)) = false := by rw [hlen]; simp
          have R0 := hid (Below.refl W0.heap.size W0)
          clear HV hlen
          go_enter Tryz.func13, Tryz.ntmps13
          go_wp2_with (first | (go_at_call 53; rw [← hW0]; (with_reducible refine (CS.out _).mono ?_); rintro e w' ⟨rfl, hw'⟩; replace hw' := hw'.symm; subst hw'; clear hW0) | fail)
          clear x0 x1 x2 x3 x4 x5 y0 y1 y2 y3 y4 y5 CS hqe hqn
          go_loopw [5, 6] (fun y i wr => ∃ (k : Nat) (z : Int), k ≤ t.args.length ∧ i = .int .i64 (k : Int) ∧ y = .int .i64 z ∧ Hid (r = orI z (ordL (t.args.drop k) (u.args.drop k))) ∧ Hid (Below W0.heap.size W0 wr)) (fun _ i _ => t.args.length - (intOf i).toNat)
          case atStart => exact ⟨0, ls, by omega, rfl, rfl, HV2, R0⟩
          case round =>
            clear HV2 R0
            obtain ⟨k, y, hk, rfl, rfl, hr, hBr⟩ := hrel
            obtain ⟨g5, k5⟩ := SX.out wr hBr.out
            by_cases hy : y = 0
            · subst hy
              by_cases hlt : k < t.args.length
              · have hlt2 : k < u.args.length := by rw [← HLEN.out]; exact hlt
                have hk0 : (0 : Int) ≤ (k : Int) := by omega
                have hk1 : (k : Int) < (t.args.length : Int) := by omega
                have hk2 : (k : Int) < (u.args.length : Int) := by omega
                obtain ⟨b, o, rfl, e1, c1', hs1, ht1⟩ := (HT.out.keep hBr.out).get k hlt
                obtain ⟨b2, o2, rfl, e2, c2', hs2, ht2⟩ := (HU.out.keep hBr.out).get k hlt2
                have HCALL := hid (fun (W : World) (h : Below wr.heap.size wr W) => IH.out t.args[k] u.args[k] e1 e2 c1' c2' W (HNE.out k hlt) (ht1.keep h) (ht2.keep h) (HG.out.1.arg _ (List.getElem_mem hlt)).1 (HG.out.2.arg _ (List.getElem_mem hlt2)).1)
                have HRN := hid (show r = orI (ordT t.args[k] u.args[k]) (ordL (t.args.drop (k + 1)) (u.args.drop (k + 1))) from hr.out.trans (ordL_drop t.args u.args k hlt hlt2))
                have RR := hid (Below.refl wr.heap.size wr)
                clear hr ht1 ht2
                generalize t.args[k] = t1 at *
                generalize u.args[k] = u1 at *
                generalize ordT t1 u1 = z at *
                have SR := hid (show ∀ W : World, Below wr.heap.size wr W → (W.cell? ⟨w.heap.size, 5, none⟩ = some (.slice (some ⟨b, o, none⟩) t.args.length cp) ∧ W.cell? ⟨w.heap.size + 1, 5, none⟩ = some (.slice (some ⟨b2, o2, none⟩) u.args.length cq) ∧ W.cell? ⟨b, o + k * 6, none⟩ = some (.int .i64 t1.kind) ∧ W.cell? ⟨b, o + k * 6 + 1, none⟩ = some (.string t1.name) ∧ W.cell? ⟨b, o + k * 6 + 2, none⟩ = some (.string t1.num) ∧ W.cell? ⟨b, o + k * 6 + 3, none⟩ = some (.int .u64 t1.bits) ∧ W.cell? ⟨b, o + k * 6 + 4, none⟩ = some (.int .i64 t1.var) ∧ W.cell? ⟨b, o + k * 6 + 5, none⟩ = some (.slice e1 t1.args.length c1') ∧ W.cell? ⟨b2, o2 + k * 6, none⟩ = some (.int .i64 u1.kind) ∧ W.cell? ⟨b2, o2 + k * 6 + 1, none⟩ = some (.string u1.name) ∧ W.cell? ⟨b2, o2 + k * 6 + 2, none⟩ = some (.string u1.num) ∧ W.cell? ⟨b2, o2 + k * 6 + 3, none⟩ = some (.int .u64 u1.bits) ∧ W.cell? ⟨b2, o2 + k * 6 + 4, none⟩ = some (.int .i64 u1.var) ∧ W.cell? ⟨b2, o2 + k * 6 + 5, none⟩ = some (.slice e2 u1.args.length c2')) from fun W h =>
                  have m1 := hs1.keep h
                  have m2 := hs2.keep h
                  have n := SX.out W (bl_call hBr.out h)
                  ⟨n.1, n.2, m1.c0, m1.c1, m1.c2, m1.c3, m1.c4, m1.c5, m2.c0, m2.c1, m2.c2, m2.c3, m2.c4, m2.c5⟩)
                have sr := SR.out wr RR.out
                clear hs1 hs2
                go_wp2_with fail
                go_region_held3 (fun W => (W.cell? ⟨w.heap.size, 5, none⟩ = some (.slice (some ⟨b, o, none⟩) t.args.length cp) ∧ W.cell? ⟨w.heap.size + 1, 5, none⟩ = some (.slice (some ⟨b2, o2, none⟩) u.args.length cq) ∧ W.cell? ⟨b, o + k * 6, none⟩ = some (.int .i64 t1.kind) ∧ W.cell? ⟨b, o + k * 6 + 1, none⟩ = some (.string t1.name) ∧ W.cell? ⟨b, o + k * 6 + 2, none⟩ = some (.string t1.num) ∧ W.cell? ⟨b, o + k * 6 + 3, none⟩ = some (.int .u64 t1.bits) ∧ W.cell? ⟨b, o + k * 6 + 4, none⟩ = some (.int .i64 t1.var) ∧ W.cell? ⟨b, o + k * 6 + 5, none⟩ = some (.slice e1 t1.args.length c1') ∧ W.cell? ⟨b2, o2 + k * 6, none⟩ = some (.int .i64 u1.kind) ∧ W.cell? ⟨b2, o2 + k * 6 + 1, none⟩ = some (.string u1.name) ∧ W.cell? ⟨b2, o2 + k * 6 + 2, none⟩ = some (.string u1.num) ∧ W.cell? ⟨b2, o2 + k * 6 + 3, none⟩ = some (.int .u64 u1.bits) ∧ W.cell? ⟨b2, o2 + k * 6 + 4, none⟩ = some (.int .i64 u1.var) ∧ W.cell? ⟨b2, o2 + k * 6 + 5, none⟩ = some (.slice e2 u1.args.length c2')))
                  (first
                    | (with_reducible exact sr)
                    | (with_reducible exact SR.out _ (bl_drew RR.out))
                    | (with_reducible exact SR.out _ C2.out)
                    | fail)
                  ((first
                    | (go_at_call 13; (with_reducible refine (HCALL.out _ (bl_drew RR.out)).mono ?_); rintro e w2 ⟨rfl, hb2⟩; have C2 := hid (bl_call (bl_drew RR.out) hb2); clear hb2)))
                go_wp2
                go_roundw
                case rel => exact ⟨k + 1, z, by omega, by go_num, rfl, HRN, hid (bl_call hBr.out C2.out)⟩
                case measure => simp [intOf]; omega
              · obtain rfl : k = t.args.length := by omega
                have HRN := hid (show r = 0 by rw [hr.out, List.drop_length]; simp [ordL, orI])
                clear hr hlt
                go_wp2_with fail
                go_ret
                exact ⟨by rw [HRN.out]; rfl, hB.out.trans (hBr.out.mono hB.out.size)⟩
            · have hq : (y == 0) = false := beq_eq_false_iff_ne.2 hy
              have HRN := hid (show r = y from hr.out.trans (if_neg hy))
              clear hr hy
              by_cases hlt : k < t.args.length
              · have hk1 : (k : Int) < (t.args.length : Int) := by omega
                go_wp2_with fail
                go_ret
                exact ⟨by rw [HRN.out]; rfl, hB.out.trans (hBr.out.mono hB.out.size)⟩
              · have hk1 : ¬ (k : Int) < (t.args.length : Int) := by omega
                go_wp2_with fail
                go_ret
                exact ⟨by rw [HRN.out]; rfl, hB.out.trans (hBr.out.mono hB.out.size)⟩
        · have hne : ¬ cmpI (t.args.length : Int) (u.args.length : Int) = 0 := fun h => hlen (by have := cmpI_zero.1 h; omega)
          have HV2 := hid (show r = cmpI (t.args.length : Int) (u.args.length : Int) by rw [HV.out]; unfold orI; rw [if_neg hne, if_neg hne])
          have hqe : ((t.args.length : Int) == (u.args.length : Int)) = false := beq_eq_false_iff_ne.2 (by omega)
          have hqn : ((t.args.length : Int) != (u.args.length : Int)) = true := by rw [bne, hqe]; rfl
          clear HV hne hlen HNE IH HT HU HG CS SX
          have CI := hid (fun W => signR_any (t.args.length : Int) (u.args.length : Int) W)
          generalize cmpI (t.args.length : Int) (u.args.length : Int) = z at *
          go_enter Tryz.func13, Tryz.ntmps13
          go_wp2_with (first | (go_at_call 49; rw [← hW0]; (with_reducible refine (CI.out _).mono ?_); rintro e w' ⟨rfl, hw'⟩; replace hw' := hw'.symm; subst hw'; clear hW0) | fail)
          go_ret
          exact ⟨by rw [HV2.out]; rfl, hB.out⟩
    · have hne : ¬ cmpI (rankT t.kind) (rankT u.kind) = 0 := fun h => hR (rank_inj OT.out.kind OU.out.kind (cmpI_zero.1 h))
      have HV := hid (show r = cmpI (rankT t.kind) (rankT u.kind) by rw [HR.out]; unfold orI; rw [if_neg hne])
      have hqe : (t.kind == u.kind) = false := beq_eq_false_iff_ne.2 hR
      have hqn : (t.kind != u.kind) = true := by rw [bne, hqe]; rfl
      clear HR hR hne HNE IH HT HU HG OT OU SX
      go_enter Tryz.func13, Tryz.ntmps13
      go_wp2_with fail
      rw [← hW0]
      clear hW0
      go_quiet ((first | fail | (go_at_call 50; exact Calls.quiet_of_same (rankR_any _ _)) | (go_at_call 49; exact Calls.quiet_of_same (signR_any _ _ _))))
      go_wp2
      go_ret
      exact ⟨by rw [HV.out]; rfl, hB.out.trans ((drewN_below W0 nq).mono hB.out.size)⟩
end Go.Proofs.YtkapejcbmonfkaaGreatDoor

namespace Go.Proofs.YtkapejcbmonfkaaGreatDoor
open Go.RowKit

theorem checks_turn {a b : Tm} : checksErr vName numOk bitsOk [a, b] = 0 ↔ checksErr vName numOk bitsOk [b, a] = 0 := by
  unfold checksErr checksErr checksErr
  generalize checkErr vName numOk bitsOk a = x
  generalize checkErr vName numOk bitsOk b = y
  split <;> split <;> simp_all
theorem ordT_three (t u : Tm) : ordT t u = -1 ∨ ordT t u = 0 ∨ ordT t u = 1 := by have := ordT_range t u; omega
set_option maxRecDepth 100000 in
set_option maxHeartbeats 16000000 in
theorem orders_yes (a b : Tm) (pa pb : Option Addr) (ca cb : Nat) (w : World) (hU : Utf w) (ha : TmAt w a pa) (hb : TmAt w b pb) (da : AllT DomA a) (db : AllT DomA b) :
    Calls Tryz.prog 3 #[a.val pa ca, b.val pb cb] w fun e w' => e = .returned (.bool true) ∧ Below w.heap.size w w' := by
  obtain ⟨W0, hW0⟩ : ∃ W0, W0 = (w.alloc (tobj a pa ca)).alloc (tobj b pb cb) := ⟨_, rfl⟩
  have hB := hid (show Below w.heap.size w W0 by rw [hW0]; exact ((Below.refl w.heap.size w).alloc (Nat.le_refl _) _).alloc (by simp) _)
  have HS2 := hid (show W0.heap[w.heap.size + 1]? = some (tobj b pb cb) by rw [hW0]; have h := heap_alloc_new (w.alloc (tobj a pa ca)) (tobj b pb cb); rwa [World.size_alloc] at h)
  have HS1 := hid (show W0.heap[w.heap.size]? = some (tobj a pa ca) by rw [hW0]; exact (heap_alloc_old (w.alloc (tobj a pa ca)) _ (by simp)).trans (heap_alloc_new w _))
  have SX := hid (show ∀ W : World, Below W0.heap.size W0 W → (W.cell? ⟨w.heap.size, 0, none⟩ = some (.int .i64 a.kind) ∧ W.cell? ⟨w.heap.size, 1, none⟩ = some (.string a.name) ∧ W.cell? ⟨w.heap.size, 2, none⟩ = some (.string a.num) ∧ W.cell? ⟨w.heap.size, 3, none⟩ = some (.int .u64 a.bits) ∧ W.cell? ⟨w.heap.size, 4, none⟩ = some (.int .i64 a.var) ∧ W.cell? ⟨w.heap.size, 5, none⟩ = some (.slice pa a.args.length ca) ∧ W.cell? ⟨w.heap.size + 1, 0, none⟩ = some (.int .i64 b.kind) ∧ W.cell? ⟨w.heap.size + 1, 1, none⟩ = some (.string b.name) ∧ W.cell? ⟨w.heap.size + 1, 2, none⟩ = some (.string b.num) ∧ W.cell? ⟨w.heap.size + 1, 3, none⟩ = some (.int .u64 b.bits) ∧ W.cell? ⟨w.heap.size + 1, 4, none⟩ = some (.int .i64 b.var) ∧ W.cell? ⟨w.heap.size + 1, 5, none⟩ = some (.slice pb b.args.length cb)) from fun W h =>
    have m1 := six_of (obj_keep HS1.out h)
    have m2 := six_of (obj_keep HS2.out h)
    ⟨m1.c0, m1.c1, m1.c2, m1.c3, m1.c4, m1.c5, m2.c0, m2.c1, m2.c2, m2.c3, m2.c4, m2.c5⟩)
  have A := hid (awake_true W0 (hU.keep hB.out))
  obtain ⟨e, he⟩ : ∃ e, e = checksErr vName numOk bitsOk [a, b] := ⟨_, rfl⟩
  obtain ⟨f, hf⟩ : ∃ f, f = checksErr vName numOk bitsOk [b, a] := ⟨_, rfl⟩
  have hef : e = 0 ↔ f = 0 := by rw [he, hf]; exact checks_turn
  have FA := hid (show ∀ W, Below W0.heap.size W0 W → Calls Tryz.prog 12 #[.slice (some ⟨W.heap.size, 0, none⟩) 2 2] (W.alloc (.cells #[.int .i64 a.kind, .string a.name, .string a.num, .int .u64 a.bits, .int .i64 a.var, .slice pa a.args.length ca, .int .i64 b.kind, .string b.name, .string b.num, .int .u64 b.bits, .int .i64 b.var, .slice pb b.args.length cb] 25)) fun r w' => r = .returned (.int .i64 e) ∧ Below W0.heap.size W0 w' from fun W h => by
    have h2 := (bl_alloc (x := (.cells #[.int .i64 a.kind, .string a.name, .string a.num, .int .u64 a.bits, .int .i64 a.var, .slice pa a.args.length ca, .int .i64 b.kind, .string b.name, .string b.num, .int .u64 b.bits, .int .i64 b.var, .slice pb b.args.length cb] 25)) h)
    have hk := hB.out.trans (h2.mono hB.out.size)
    have F := first_any [a, b] (some ⟨W.heap.size, 0, none⟩) 2 _ (by unfold maxLen; simp) (.inr ⟨_, _, rfl, row_two (p := pa) (q := pb) (cp := ca) (cq := cb) (World.alloc_heap_new W _) (ha.keep hk) (hb.keep hk)⟩) (by unfold AllR AllR AllR; exact ⟨da, db, trivial⟩)
    rw [← he] at F
    exact F.mono fun r w' ⟨g1, g2⟩ => ⟨g1, bl_call h2 g2⟩)
  have FB := hid (show ∀ W, Below W0.heap.size W0 W → Calls Tryz.prog 12 #[.slice (some ⟨W.heap.size, 0, none⟩) 2 2] (W.alloc (.cells #[.int .i64 b.kind, .string b.name, .string b.num, .int .u64 b.bits, .int .i64 b.var, .slice pb b.args.length cb, .int .i64 a.kind, .string a.name, .string a.num, .int .u64 a.bits, .int .i64 a.var, .slice pa a.args.length ca] 25)) fun r w' => r = .returned (.int .i64 f) ∧ Below W0.heap.size W0 w' from fun W h => by
    have h2 := (bl_alloc (x := (.cells #[.int .i64 b.kind, .string b.name, .string b.num, .int .u64 b.bits, .int .i64 b.var, .slice pb b.args.length cb, .int .i64 a.kind, .string a.name, .string a.num, .int .u64 a.bits, .int .i64 a.var, .slice pa a.args.length ca] 25)) h)
    have hk := hB.out.trans (h2.mono hB.out.size)
    have F := first_any [b, a] (some ⟨W.heap.size, 0, none⟩) 2 _ (by unfold maxLen; simp) (.inr ⟨_, _, rfl, row_two (p := pb) (q := pa) (cp := cb) (cq := ca) (World.alloc_heap_new W _) (hb.keep hk) (ha.keep hk)⟩) (by unfold AllR AllR AllR; exact ⟨db, da, trivial⟩)
    rw [← hf] at F
    exact F.mono fun r w' ⟨g1, g2⟩ => ⟨g1, bl_call h2 g2⟩)
  have CAB := fun W (h : Below W0.heap.size W0 W) => compareAll_any a b pa pb ca cb W (ha.keep (hB.out.trans (h.mono hB.out.size))) (hb.keep (hB.out.trans (h.mono hB.out.size))) da db (hU.keep (hB.out.trans (h.mono hB.out.size)))
  have CBA := fun W (h : Below W0.heap.size W0 W) => compareAll_any b a pb pa cb ca W (hb.keep (hB.out.trans (h.mono hB.out.size))) (ha.keep (hB.out.trans (h.mono hB.out.size))) db da (hU.keep (hB.out.trans (h.mono hB.out.size)))
  by_cases h0 : e = 0
  · obtain ⟨va, vb⟩ := checks_two da db (by rw [← he]; exact h0)
    have ORD := fun W (h : Below W0.heap.size W0 W) => orderR_any (nodes a) a b pa pb ca cb W (Nat.le_refl _) (ha.keep (hB.out.trans (h.mono hB.out.size))) (hb.keep (hB.out.trans (h.mono hB.out.size))) va.good vb.good
    have f0 := hef.1 h0
    have e1 : cmpAns a b = ordT a b := by unfold cmpAns; rw [← he, if_pos h0]
    have e2 : cmpAns b a = -ordT a b := by unfold cmpAns; rw [← hf, if_pos f0]; exact ordT_anti va.good vb.good
    have hx := ordT_three a b
    rw [← he, h0, e1] at CAB
    rw [← hf, f0, e2] at CBA
    rw [h0] at FA
    rw [f0] at FB
    unfold tobj at hW0
    unfold Tm.val at CAB CBA ORD ⊢
    clear he hf hef h0 f0 va vb ha hb da db hU HS1 HS2 e1 e2
    generalize ordT a b = x at *
    rcases hx with rfl | rfl | rfl
    all_goals
      have H1 := hid CAB
      have H2 := hid CBA
      have H3 := hid ORD
      clear CAB CBA ORD
      go_enter Tryz.func3, Tryz.ntmps3
      go_wp2_with (first
           | (go_at_call 10; rw [← hW0]; (with_reducible refine A.out.mono ?_); rintro r w1 ⟨rfl, hb1⟩; have K0 := hid hb1; obtain ⟨a0, a1, a2, a3, a4, a5, a6, a7, a8, a9, a10, a11⟩ := SX.out _ hb1; clear hb1)
           | (go_at_call 11; have tok := K0; (with_reducible refine (H1.out _ K0.out).mono ?_); rintro r w2 ⟨rfl, hb2⟩; have K1 := hid (bl_call K0.out hb2); obtain ⟨b0, b1, b2, b3, b4, b5, b6, b7, b8, b9, b10, b11⟩ := SX.out _ K1.out; clear hb2 K0 tok)
           | (go_at_call 11; have tok := K1; (with_reducible refine (H2.out _ K1.out).mono ?_); rintro r w3 ⟨rfl, hb3⟩; have K2 := hid (bl_call K1.out hb3); obtain ⟨c0, c1, c2, c3, c4, c5, c6, c7, c8, c9, c10, c11⟩ := SX.out _ K2.out; clear hb3 K1 tok)
           | (go_at_call 12; have tok := K2; (with_reducible refine (FA.out _ K2.out).mono ?_); rintro r w4 ⟨rfl, hb4⟩; have K3 := hid hb4; obtain ⟨d0, d1, d2, d3, d4, d5, d6, d7, d8, d9, d10, d11⟩ := SX.out _ K3.out; clear hb4 K2 tok)
           | (go_at_call 12; have tok := K3; (with_reducible refine (FB.out _ K3.out).mono ?_); rintro r w5 ⟨rfl, hb5⟩; have K4 := hid hb5; obtain ⟨e0, e1, e2, e3, e4, e5, e6, e7, e8, e9, e10, e11⟩ := SX.out _ K4.out; clear hb5 K3 tok)
           | (go_at_call 13; (with_reducible refine (H3.out _ K4.out).mono ?_); rintro r w6 ⟨rfl, hb6⟩; have K5 := hid (bl_call K4.out hb6); clear hb6 K4))
      go_ret
      exact ⟨rfl, hB.out.trans (K5.out.mono hB.out.size)⟩
  · have f0 : f ≠ 0 := fun h => h0 (hef.2 h)
    have e1 : cmpAns a b = 0 := by unfold cmpAns; rw [← he, if_neg h0]
    have e2 : cmpAns b a = 0 := by unfold cmpAns; rw [← hf, if_neg f0]
    rw [← he, e1] at CAB
    rw [← hf, e2] at CBA
    have hq : (e == 0) = false := beq_eq_false_iff_ne.2 h0
    have hq2 : (e != 0) = true := by simp [h0]
    unfold tobj at hW0
    unfold Tm.val at CAB CBA ⊢
    clear he hf hef h0 f0 ha hb da db hU HS1 HS2 e1 e2
    have H1 := hid CAB
    have H2 := hid CBA
    clear CAB CBA
    go_enter Tryz.func3, Tryz.ntmps3
    go_wp2_with (first
           | (go_at_call 10; rw [← hW0]; (with_reducible refine A.out.mono ?_); rintro r w1 ⟨rfl, hb1⟩; have K0 := hid hb1; obtain ⟨a0, a1, a2, a3, a4, a5, a6, a7, a8, a9, a10, a11⟩ := SX.out _ hb1; clear hb1)
           | (go_at_call 11; have tok := K0; (with_reducible refine (H1.out _ K0.out).mono ?_); rintro r w2 ⟨rfl, hb2⟩; have K1 := hid (bl_call K0.out hb2); obtain ⟨b0, b1, b2, b3, b4, b5, b6, b7, b8, b9, b10, b11⟩ := SX.out _ K1.out; clear hb2 K0 tok)
           | (go_at_call 11; have tok := K1; (with_reducible refine (H2.out _ K1.out).mono ?_); rintro r w3 ⟨rfl, hb3⟩; have K2 := hid (bl_call K1.out hb3); obtain ⟨c0, c1, c2, c3, c4, c5, c6, c7, c8, c9, c10, c11⟩ := SX.out _ K2.out; clear hb3 K1 tok)
           | (go_at_call 12; have tok := K2; (with_reducible refine (FA.out _ K2.out).mono ?_); rintro r w4 ⟨rfl, hb4⟩; have K3 := hid hb4; obtain ⟨d0, d1, d2, d3, d4, d5, d6, d7, d8, d9, d10, d11⟩ := SX.out _ K3.out; clear hb4 K2 tok)
           | (go_at_call 12; have tok := K3; (with_reducible refine (FB.out _ K3.out).mono ?_); rintro r w5 ⟨rfl, hb5⟩; have K4 := hid hb5; obtain ⟨e0, e1, e2, e3, e4, e5, e6, e7, e8, e9, e10, e11⟩ := SX.out _ K4.out; clear hb5 K3 tok))
    go_ret
    exact ⟨by simp, hB.out.trans (K4.out.mono hB.out.size)⟩
end Go.Proofs.YtkapejcbmonfkaaGreatDoor

namespace Go.Proofs.YtkapejcbmonfkaaGreatDoor
open Go.ChangeShapes Go.WideShapes Go.ChangeAt Go.RowKit Go.Joins Go.ChangeMaps

theorem orders_params : ∀ t ∈ Tryz.f3.params.toList, Tryz.prog.readableRec t = true ∧ t < Tryz.prog.types.size := by
  intro t ht
  rw [Tryz.params3] at ht
  simp at ht
  subst ht; exact readsT

set_option maxRecDepth 100000 in
theorem orders_contract (H : Type) (enc : TypeId × Value → H) (W : World) (base : Nat) (args : Array Value) (ds gs : List (DataW H)) (before : List MemPlace)
    (hval : ∀ (j : Nat) t v, Tryz.f3.params[j]? = some t → args[j]? = some v → Value.okWide Tryz.prog W .any base t v)
    (hW : DataW.Whole enc Tryz.prog Tryz.f3.params.toList Rows.termOrdersSpec.vars false W args.toList ds gs before) (hL : laidMet Tryz.prog theLaid W) :
    Calls Tryz.prog 3 args W fun e W' => ∃ v, e = .returned v ∧ Rows.termOrdersSpec.post enc Tryz.prog Tryz.f3 false true false false W args v W' := by
  have hU := laid_facts hL
  have hW' := hW
  obtain ⟨p, q, hA0, hV, rfl, hfz, hnd⟩ := hW
  have hA : DataW.TrodAll enc Tryz.prog W 0 (fun _ => true) true Tryz.f3.params.toList args.toList ds p := hA0
  rw [Tryz.params3] at hA hval
  obtain ⟨v0, vs0, d0, ds0, p0, q0', hargs, rfl, rfl, h0, r0⟩ := trodAll_cons hA
  obtain ⟨v1, vs1, d1, ds1, p1, q1', rfl, rfl, rfl, h1, r1⟩ := trodAll_cons r0
  obtain ⟨rfl, rfl, rfl⟩ := trodAll_nil r1
  obtain rfl : args = #[v0, v1] := by cases args; simp_all
  obtain ⟨t0, q0, c0, rfl, hT0, hD0⟩ := open_term (hval 0 25 v0 rfl rfl) h0
  obtain ⟨t1, q1, c1, rfl, hT1, hD1⟩ := open_term (hval 1 25 v1 rfl rfl) h1
  refine (orders_yes t0 t1 q0 q1 c0 c1 W hU hT0 hT1 hD0 hD1).mono fun e W' ⟨he, hb⟩ => ⟨_, he, ?_⟩
  exact law_post orders_params rfl rfl rfl rfl rfl hW' hb

/-- The world of the witness. -/
noncomputable def ordersWorld (os : Os) : World := World.laidAll Tryz.prog os Rows.termOrdersRow.laid
noncomputable def ordersArgs : Array Value := #[.agg #[.int .i64 0, .string ByteArray.empty, .string ByteArray.empty, .int .u64 0, .int .i64 0, .slice none 0 0], .agg #[.int .i64 0, .string ByteArray.empty, .string ByteArray.empty, .int .u64 0, .int .i64 0, .slice none 0 0]]
set_option maxRecDepth 100000 in
theorem orders_laid (os : Os) : laidMet Tryz.prog Rows.termOrdersRow.laid ((ordersWorld os).forCall (fun _ _ => 0) ⟨#[], ordersArgs, []⟩).memory :=
  laidMet_laidAll _ (by kernel_rfl) (by kernel_rfl)
set_option maxRecDepth 100000 in
theorem orders_reads (os : Os) {H : Type} (enc : TypeId × Value → H) : ∃ places, DataW.whole enc Tryz.prog ((ordersWorld os).forCall (fun _ _ => 0) ⟨#[], ordersArgs, []⟩).memory Tryz.f3.params.toList Rows.termOrdersSpec.vars false ordersArgs.toList 8 =
    some ([.agg [.lit (.int .i64 0), .lit (.string []), .lit (.string []), .lit (.int .u64 0), .lit (.int .i64 0), .nil], .agg [.lit (.int .i64 0), .lit (.string []), .lit (.string []), .lit (.int .u64 0), .lit (.int .i64 0), .nil]], [], places) :=
  ⟨[], by kernel_rfl⟩

set_option maxRecDepth 100000 in
theorem orders_lifted (os : Os) (started : os.Started) (H : Type) (enc : TypeId × Value → H) (F : Stop.Interp) :
    ReturnsInHanded {} Tryz.checked os 3 .any ((OpenSpec.ofChange Rows.termOrdersSpec).preRow enc Tryz.prog Tryz.f3 Rows.termOrdersRow.domain false Rows.termOrdersRow.laid) (((OpenSpec.ofChange Rows.termOrdersSpec).at F).post enc Tryz.prog Tryz.f3 false true false false) := by
  obtain ⟨places, hx⟩ := orders_reads os enc
  refine returnsInHanded_of_row (C := Tryz.checked) (s := OpenSpec.ofChange Rows.termOrdersSpec) own started (by kernel_rfl) Tryz.func3
    (witness_row_atRef (enc := enc) (C := Tryz.checked) false (ordersWorld os) ordersArgs (World.laidAll_os _ _ _) (by kernel_rfl) (by kernel_rfl) (by kernel_rfl)
      (OpenSpec.preRow_of_cond 8 hx (by kernel_rfl) (fun k hk => by cases hk) (by kernel_rfl) (orders_laid os))) ?_
  intro W base args ds gs before hval hW _ _ hsz hL _ _
  exact orders_contract H enc W base args ds gs before hval hW hL

set_option maxRecDepth 100000 in
theorem orders_said : Rows.TermOrdersSaid :=
  OpenClaim.holds_of_cond 3 Tryz.f3 rfl rfl rfl rfl rfl rfl rfl ⟨rfl, rfl, rfl, rfl, rfl⟩ rfl rfl rfl rfl rfl (by kernel_rfl) Tryz.func3 (by kernel_rfl)
    (of_decide_eq_true (by kernel_rfl)) (by unfold Func.isWrapper; first | (rw [if_pos (by decide +kernel)]; kernel_rfl) | (rw [if_neg (by decide +kernel)]; exact ⟨rfl, rfl⟩))
    (fun os started H enc _ F => by rw [OpenClaim.pre_eq_preRow]; exact orders_lifted os started H enc F)

set_option maxRecDepth 100000 in
theorem orders_plain (f : FuncId) (fn : Func) (hf : Tryz.pinned.checked.prog.funcNamed "hornbeam/hornbeamlaw02.TermOrders" = some f) (hfn : Tryz.pinned.checked.prog.funcs[f]? = some fn) :
    false = Tryz.pinned.checked.prog.looks [] ∧ ∀ (j : Nat) t, fn.params[j]? = some t → Tryz.pinned.checked.prog.wantsStandIn t = false := by
  obtain rfl : f = 3 := Option.some.inj ((show Tryz.prog.funcNamed "hornbeam/hornbeamlaw02.TermOrders" = some 3 by kernel_rfl).symm.trans hf) |>.symm
  obtain rfl : fn = Tryz.f3 := (Option.some.inj (Tryz.func3.symm.trans hfn)).symm
  refine ⟨by kernel_rfl, fun j t ht => ?_⟩
  rw [Tryz.params3] at ht
  have hm := Array.mem_of_getElem? ht
  simp at hm
  subst hm
  exact (show Tryz.prog.wantsStandIn 25 = false by kernel_rfl)

set_option maxRecDepth 100000 in
theorem orders_card : Rows.TermOrdersCardSaid :=
  Claim7.holds_tied_plain_at .later [] _ _ _ _ orders_said (fun _ h => by cases h) (by kernel_rfl) (fun _ h => by cases h) termOrders_row_tie rfl ⟨rfl, rfl⟩ (by kernel_rfl) rfl orders_plain (by kernel_rfl)
end Go.Proofs.YtkapejcbmonfkaaGreatDoor
