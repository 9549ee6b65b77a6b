/- The law OpsPlays answers true whatever the script, where the program's tables of words and of blanks lie as its text lays them. -/
import Derived.Test.YtnbhmgonijlplaaDoorT47
import Derived.Deep.RegionHeld3
namespace Go.Proofs.YtnbhmgonijlplaaDoor
open Go.RowKit Go.Maps Go.Shelf

theorem look_zero {L : List Opn} (h : Good (look L)) (s : ByteArray) : look L 0 s = none := by
  cases e : look L 0 s with
  | none => rfl
  | some x => have := h.cl _ _ _ e; omega
theorem six_cells {W : World} {b : Nat} {x0 x1 x2 x3 x4 x5 : Value} {t : TypeId} (h : W.heap[b]? = some (.cells #[x0, x1, x2, x3, x4, x5] t (0, 0))) :
    W.cell? ⟨b, 0, none⟩ = some x0 ∧ W.cell? ⟨b, 1, none⟩ = some x1 ∧ W.cell? ⟨b, 2, none⟩ = some x2 ∧ W.cell? ⟨b, 3, none⟩ = some x3 ∧ W.cell? ⟨b, 4, none⟩ = some x4 ∧ W.cell? ⟨b, 5, none⟩ = some x5 :=
  ⟨(cells_fifteen h 0).trans rfl, (cells_fifteen h 1).trans rfl, (cells_fifteen h 2).trans rfl, (cells_fifteen h 3).trans rfl, (cells_fifteen h 4).trans rfl, (cells_fifteen h 5).trans rfl⟩

set_option maxRecDepth 100000 in
set_option maxHeartbeats 16000000 in
theorem plays_yes (v : Value) (S : List Cl) (w : World) (hS : ClsAt w v S) (hn : ∀ c ∈ S, c.name.size ≤ maxLen) (hon : ∀ c ∈ S, -9223372036854775808 ≤ c.on ∧ c.on ≤ 9223372036854775807) (hnn : ∀ c ∈ S, -9223372036854775808 ≤ c.n ∧ c.n ≤ 9223372036854775807)
    (hlen : S.length * 56 ≤ 140737488351232) (hw : Words w) (hbl : Blanks w) :
    Calls Tryd.prog 3 #[v] w fun e w' => e = .returned (.bool true) ∧ Below w.heap.size w w' := by
  have A := hid (awake_true w hw hbl)
  have BL := hid hbl
  have hl1 := hid hbl.lt
  obtain ⟨p0, cap0, rfl, hx⟩ := hS
  have HX := hid hx
  have HN := hid hn
  have HON := hid hon
  have HNN := hid hnn
  clear hx hn hon hnn hw hbl
  go_enter Tryd.func3, Tryd.ntmps3
  go_wp2_with (first
    | (go_at_call 9; (with_reducible refine A.out.mono ?_); rintro e w1 ⟨rfl, hb1⟩; have B1 := hid hb1; have L1 := hid (BL.out.keep hl1.out hb1); clear hb1 A)
    | (go_at_call 10; (with_reducible refine (new_any _ L1.out).mono ?_); rintro e w2 ⟨rfl, hT2, hc2, hb2⟩; have T2 := hid hT2; have C2 := hid hc2; have B2 := hid (B1.out.trans (hb2.mono B1.out.size)); have L2 := hid (L1.out.keep L1.out.lt hb2); have S2 := hid (show w1.heap.size < w2.heap.size from hT2.lt); clear hT2 hc2 hb2 L1)
    | (go_at_call 11; (with_reducible refine (copy_any _ _ _ _ _ T2.out C2.out).mono ?_); rintro e w3 ⟨b3, bt3, rfl, hs3, ht3, hne3, hT3, hc3, hb3⟩; have T3 := hid (T2.out.keep hb3); have C3 := hid (heap_cell_keep hb3 C2.out); have U3 := hid hT3; have D3 := hid hc3; have B3 := hid (B2.out.trans (hb3.mono B2.out.size)); have L3 := hid (L2.out.keep L2.out.lt hb3); have S3 := hid (And.intro hs3 hT3.lt); clear hs3 ht3 hne3 hT3 hc3 hb3 L2 T2 C2)
    | (go_at_call 10; (with_reducible refine (new_any _ L3.out).mono ?_); rintro e w4 ⟨rfl, hT4, hc4, hb4⟩; have V4 := hid hT4; have E4 := hid hc4; have T4 := hid (T3.out.keep hb4); have C4 := hid (heap_cell_keep hb4 C3.out); have U4 := hid (U3.out.keep hb4); have D4 := hid (heap_cell_keep hb4 D3.out); have B4 := hid (B3.out.trans (hb4.mono B3.out.size)); have S4 := hid (show w3.heap.size < w4.heap.size from hT4.lt); clear hT4 hc4 hb4 L3 T3 C3 U3 D3)
    | (go_at_call 12; have tok1 := S4; (with_reducible refine (refNew _).mono ?_); rintro e w5 ⟨r5, rfl, hr5, hR5, hb5⟩; obtain ⟨Wo, hWo⟩ : ∃ Wo, Wo = w4.alloc (.cells #[.pointer (some ⟨w1.heap.size + 1, 0, none⟩), .pointer (some ⟨bt3, 0, none⟩), .pointer (some ⟨w3.heap.size + 1, 0, none⟩)] 24) := ⟨_, rfl⟩
       have ho := hid (show Wo.heap[w4.heap.size]? = some (.cells #[.pointer (some ⟨w1.heap.size + 1, 0, none⟩), .pointer (some ⟨bt3, 0, none⟩), .pointer (some ⟨w3.heap.size + 1, 0, none⟩)] 24 (0, 0)) by rw [hWo]; exact World.alloc_heap_new w4 _)
       have hbo : Below w4.heap.size w4 Wo := by rw [hWo]; exact (Below.refl _ _).alloc (Nat.le_refl _) _
       rw [← hWo] at hb5 hr5
       have hso := hbo.size
       have O5 := hid (heap_keep3 ho.out hb5)
       have hb45 := hbo.trans (hb5.mono hso)
       have K5 := hid hb45
       have R5 := hid hR5
       have Q5 := hid (And.intro (show w4.heap.size ≤ r5 by omega) hR5.lt)
       clear hWo ho hbo hb5 hso hb45 hr5 hR5 S4 tok1)
    | (go_at_call 12; have tok1 := S3; (with_reducible refine (refNew _).mono ?_); rintro e w6 ⟨r6, rfl, hr6, hR6, hb6⟩
       have O6 := hid (heap_keep3 O5.out hb6)
       have K6 := hid (K5.out.trans (hb6.mono K5.out.size))
       have R5 := hid (R5.out.keep hb6)
       have R6 := hid hR6
       have Q6 := hid (And.intro hr6 hR6.lt)
       have P3 := S3
       clear O5 hb6 hr6 hR6 S3 tok1)
    | (go_at_call 12; (with_reducible refine (refNew _).mono ?_); rintro e w7 ⟨r7, rfl, hr7, hR7, hb7⟩))
  obtain ⟨W0, hW0⟩ : ∃ W0, W0 = w7.alloc (.cells #[.pointer (some ⟨r5, 0, none⟩), .pointer (some ⟨r6, 0, none⟩), .pointer (some ⟨r7, 0, none⟩)] 27) := ⟨_, rfl⟩
  rw [← hW0]
  obtain ⟨B, hB⟩ : ∃ B, B = w.heap.size := ⟨_, rfl⟩
  have hr7s := hR7.lt
  have hb47 := K6.out.trans (hb7.mono K6.out.size)
  have hb70 : Below w7.heap.size w7 W0 := by rw [hW0]; exact (Below.refl _ _).alloc (Nat.le_refl _) _
  have hb40 := hb47.trans (hb70.mono hb47.size)
  have hb60 : Below w6.heap.size w6 W0 := hb7.trans (hb70.mono hb7.size)
  have HB := hid (show Below w.heap.size w W0 from B4.out.trans (hb40.mono B4.out.size))
  have hB1 := B1.out.size
  have hB4 := B4.out.size
  have h47 := hb47.size
  have hP3 := P3.out
  have hS2 := S2.out
  have hQ5 := Q5.out
  have hQ6 := Q6.out
  have hPlay : Play W0 B w4.heap.size w7.heap.size 54 := by
    rw [hB]
    exact play_start (heap_keep3 O6.out hb60) (by rw [hW0]; exact World.alloc_heap_new w7 _) (by omega) (by omega)
      (heap_cell_keep hb40 C4.out) (heap_cell_keep hb40 D4.out) (heap_cell_keep hb40 E4.out) (T4.out.keep hb40) (U4.out.keep hb40) (V4.out.keep hb40)
      (R5.out.keep hb60) (R6.out.keep hb60) (hR7.keep hb70) (by omega) (by omega) (by omega) (by omega) (by omega) (by omega)
  have HP := hid hPlay
  have HBe := hid hB
  have hBl : B ≤ W0.heap.size := by rw [hB]; exact HB.out.size
  obtain ⟨o, ho⟩ : ∃ o, o = w4.heap.size := ⟨_, rfl⟩
  obtain ⟨r, hr⟩ : ∃ r, r = w7.heap.size := ⟨_, rfl⟩
  rw [← ho, ← hr] at HP
  rw [← ho, ← hr]
  clear hPlay hB ho hr hW0 hb40 hb47 hb60 hb70 h47 hP3 hS2 hQ5 hQ6 hr7 hR7 hb7 hr7s R5 R6 O6 K6 Q5 Q6 C4 D4 E4 T4 U4 V4 B1 B2 B3 B4 S2 P3 hB1 hB4
  go_loopw [7] (fun t wr => ∃ i : Nat, i ≤ S.length ∧ t = .int .i64 (i : Int) ∧ Hid (Play wr B o r (54 + i)) ∧ Hid (Below B w wr)) (fun t _ => S.length - (intOf t).toNat)
  case atStart => exact ⟨0, by omega, rfl, HP, hid (by rw [HBe.out]; exact HB.out)⟩
  case round =>
    obtain ⟨i, hi, rfl, hP, hBw⟩ := hrel
    clear HP HB hBl
    by_cases hlt : i < S.length
    · obtain ⟨bt, bm, rb, L, hI, hL⟩ := hP.out.ex
      obtain ⟨sb, soff, rfl, z0, z1, z2, z3, z4, z5⟩ := HX.out i hlt
      have hsb := World.block_lt_of_cell? w _ z0
      simp at hsb
      have kp : ∀ (q : Nat) (u : Value), w.cell? ⟨sb, q, none⟩ = some u → wr.cell? ⟨sb, q, none⟩ = some u := fun q u h => (hBw.out.cell (p := ⟨sb, q, none⟩) (by rw [HBe.out]; exact hsb)).trans h
      have y0 := kp _ _ z0
      have y1 := kp _ _ z1
      have y2 := kp _ _ z2
      have y3 := kp _ _ z3
      have y4 := kp _ _ z4
      have y5 := kp _ _ z5
      clear kp z0 z1 z2 z3 z4 z5 hsb
      have hnm := HN.out _ (List.getElem_mem hlt)
      have PO := hid (fun W => pick_any S[i].on (HON.out _ (List.getElem_mem hlt)).1 (HON.out _ (List.getElem_mem hlt)).2 W)
      have PM := hid (fun W => pick_any S[i].n (HNN.out _ (List.getElem_mem hlt)).1 (HNN.out _ (List.getElem_mem hlt)).2 W)
      have hk := pk_lt S[i].on
      have hm := pk_lt S[i].n
      generalize S[i] = c at *
      obtain ⟨knd, on, pp, tk, cn, nm⟩ := c
      dsimp only at y0 y1 y2 y3 y4 y5 hnm PO PM hk hm
      generalize pk on = k at *
      generalize pk cn = m at *
      have HI := hid hI
      have HL := hid hL
      have HNM := hid hnm
      clear hI hL hnm hP
      go_upto_region 11 with (fail)
      obtain ⟨cb, hcb⟩ : ∃ cb, cb = wr.heap.size := ⟨_, rfl⟩
      obtain ⟨W1, hW1⟩ : ∃ W1, W1 = wr.alloc (.cells #[.int .i64 knd, .int .i64 on, .int .i64 pp, .int .i64 tk, .int .i64 cn, .string nm] 31) := ⟨_, rfl⟩
      rw [← hW1, ← hcb]
      have hb1 : Below wr.heap.size wr W1 := by rw [hW1]; exact (Below.refl _ _).alloc (Nat.le_refl _) _
      have HC := hid (show W1.heap[cb]? = some (.cells #[.int .i64 knd, .int .i64 on, .int .i64 pp, .int .i64 tk, .int .i64 cn, .string nm] 31 (0, 0)) by rw [hW1, hcb]; exact World.alloc_heap_new wr _)
      have I1 := hid (HI.out.keep hb1)
      have hBr := hBw.out.size
      rw [← HBe.out] at hBr
      have HB1 := hid (hBw.out.trans (hb1.mono hBr))
      have hB1 := HB1.out.size
      rw [← HBe.out] at hB1
      have hmk := (HI.out.tab k hk).lt
      have hrk := (HI.out.ref k hk).lt
      rw [← hcb] at hmk hrk
      have hL0 := HL.out.len k hk
      clear hW1 hb1 hcb y0 y1 y2 y3 y4 y5 hBw HI hBr
      obtain ⟨x0, x1, x2, x3, x4, x5⟩ := six_cells HC.out
      have hk0 : (0 : Int) ≤ (k : Int) := by omega
      have hk3 : (k : Int) < 3 := by omega
      have hk2 : (k : Int) ≤ 3 := by omega
      have q0 := I1.out.tob.cell hk
      have q1 := I1.out.tr.cell hk
      have HR := hid (And.intro q0 (And.intro q1 (And.intro x2 (And.intro x3 x5))))
      have hD := hid ((Below.refl W1.heap.size W1).drew)
      have ID := hid (I1.out.keep hD.out)
      have HBD := hid (HB1.out.drew)
      have HCD := hid (show W1.drew.heap[cb]? = _ from HC.out)
      have hBD : B ≤ W1.drew.heap.size := hB1
      by_cases h1 : knd = 1
      · subst h1
        have AD := hid (add_any (bt k) (bm k) (54 + i) (look (L k)) pp tk nm W1.drew (ID.out.tab k hk) (ID.out.box k hk) HNM.out (by unfold maxLen; omega))
        have RA := hid (fun W2 (h : RefAt W2 (rb k) (L k)) => refAdd (rb k) (L k) pp tk nm W2 h (by omega) (look_zero (HL.out.good k hk) nm))
        generalize refu (look (L k)) pp tk nm = z at *
        have hsd := show W1.drew.cell? ⟨o, k, none⟩ = some (.pointer (some ⟨bt k, 0, none⟩)) ∧ W1.drew.cell? ⟨r, k, none⟩ = some (.pointer (some ⟨rb k, 0, none⟩)) ∧ W1.drew.cell? ⟨cb, 2, none⟩ = some (.int .i64 pp) ∧ W1.drew.cell? ⟨cb, 3, none⟩ = some (.int .i64 tk) ∧ W1.drew.cell? ⟨cb, 5, none⟩ = some (.string nm) from HR.out
        have hs1 := HR.out
        have ncm : cb ≠ bm k := by omega
        have ncr : cb ≠ rb k := by omega
        go_wp2_with (go_at_call 13; (with_reducible refine (PO.out _).mono ?_); rintro e w5 ⟨rfl, rfl⟩)
        go_region_held3 (fun w' => w'.cell? ⟨o, k, none⟩ = some (.pointer (some ⟨bt k, 0, none⟩)) ∧ w'.cell? ⟨r, k, none⟩ = some (.pointer (some ⟨rb k, 0, none⟩)) ∧ w'.cell? ⟨cb, 2, none⟩ = some (.int .i64 pp) ∧ w'.cell? ⟨cb, 3, none⟩ = some (.int .i64 tk) ∧ w'.cell? ⟨cb, 5, none⟩ = some (.string nm))
          (first | (with_reducible exact hs1) | (with_reducible exact hsd) | (with_reducible exact hs2) | (with_reducible exact hs3))
          ((first
            | (go_at_call 14; (with_reducible refine AD.out.mono ?_); rintro e w2 ⟨rfl, hT2, hg2⟩; have T2 := hid hT2; have G2 := hid hg2; have I2 := hid (ID.out.add hk (Nat.le_succ _) hg2 hT2); have hs2 := And.intro (I2.out.tob.cell hk) (And.intro (I2.out.tr.cell hk) (And.intro (hg2.cell hsd.2.2.1 (by simpa using ncm)) (And.intro (hg2.cell hsd.2.2.2.1 (by simpa using ncm)) (hg2.cell hsd.2.2.2.2 (by simpa using ncm))))); clear hT2 hg2)
            | (go_at_call 15; (with_reducible refine (RA.out _ (I2.out.ref k hk)).mono ?_); rintro e w3 ⟨rfl, hR3, hg3⟩; have R3 := hid hR3; have G3 := hid hg3; have I3 := hid (I2.out.radd hk hg3 hR3); have hs3 := And.intro (I3.out.tob.cell hk) (And.intro (I3.out.tr.cell hk) (And.intro (hg3.cell hs2.2.2.1 (by simpa using ncr)) (And.intro (hg3.cell hs2.2.2.2.1 (by simpa using ncr)) (hg3.cell hs2.2.2.2.2 (by simpa using ncr))))); clear hR3 hg3)))
        go_wp2
        go_roundw
        case rel => exact ⟨i + 1, by omega, by go_num, hid (play_add ID.out HL.out hk pp tk HNM.out G2.out T2.out G3.out R3.out), hid ((HBD.out.grown G2.out hBD (fun q e => by cases e; exact ID.out.mB k hk)).grown G3.out (by have := G2.out.size; omega) (fun q e => by cases e; exact ID.out.bB k hk))⟩
        case measure => simp [intOf]; omega
      · have hq1 : (knd == 1) = false := beq_eq_false_iff_ne.2 h1
        clear h1
        by_cases h2 : knd = 2
        · subst h2
          clear hq1
          have AK := hid (asked_any (bt k) (bm k) (54 + i) (rb k) (L k) nm W1.drew (ID.out.tab k hk) (ID.out.box k hk) (ID.out.ref k hk) HNM.out (by omega))
          have hsd := show W1.drew.cell? ⟨o, k, none⟩ = some (.pointer (some ⟨bt k, 0, none⟩)) ∧ W1.drew.cell? ⟨r, k, none⟩ = some (.pointer (some ⟨rb k, 0, none⟩)) ∧ W1.drew.cell? ⟨cb, 5, none⟩ = some (.string nm) from ⟨q0, q1, x5⟩
          have hs1 := And.intro q0 (And.intro q1 x5)
          go_wp2_with (go_at_call 13; (with_reducible refine (PO.out _).mono ?_); rintro e w5 ⟨rfl, rfl⟩)
          go_region_held3 (fun w' => w'.cell? ⟨o, k, none⟩ = some (.pointer (some ⟨bt k, 0, none⟩)) ∧ w'.cell? ⟨r, k, none⟩ = some (.pointer (some ⟨rb k, 0, none⟩)) ∧ w'.cell? ⟨cb, 5, none⟩ = some (.string nm))
            (first | (with_reducible exact hs1) | (with_reducible exact hsd) | (with_reducible exact hs2))
            ((first
              | (go_at_call 16; (with_reducible refine AK.out.mono ?_); rintro e w2 ⟨rfl, hb2⟩; have E2 := hid hb2; have hs2 := And.intro (heap_cell_keep hb2 hsd.1) (And.intro (heap_cell_keep hb2 hsd.2.1) (heap_cell_keep hb2 hsd.2.2)); clear hb2)))
          go_wp2
          go_roundw
          case rel => exact ⟨i + 1, by omega, by go_num, hid ((Play.mk ⟨_, _, _, _, ID.out.keep E2.out, HL.out⟩).mono (by omega)), hid (HBD.out.trans (E2.out.mono hBD))⟩
          case measure => simp [intOf]; omega
        · have hq2 : (knd == 2) = false := beq_eq_false_iff_ne.2 h2
          clear h2
          by_cases h3 : knd = 3
          · subst h3
            clear hq1 hq2
            have LI := hid (listed_any (bt k) (bm k) (54 + i) (rb k) (L k) W1.drew (ID.out.tab k hk) (ID.out.box k hk) (HL.out.good k hk) (ID.out.ref k hk) (HL.out.ap k hk) (by unfold maxLen; omega) (by omega) (by unfold maxLen; omega) (by omega))
            have hsd := show W1.drew.cell? ⟨o, k, none⟩ = some (.pointer (some ⟨bt k, 0, none⟩)) ∧ W1.drew.cell? ⟨r, k, none⟩ = some (.pointer (some ⟨rb k, 0, none⟩)) from ⟨q0, q1⟩
            have hs1 := And.intro q0 q1
            go_wp2_with (go_at_call 13; (with_reducible refine (PO.out _).mono ?_); rintro e w5 ⟨rfl, rfl⟩)
            go_region_held3 (fun w' => w'.cell? ⟨o, k, none⟩ = some (.pointer (some ⟨bt k, 0, none⟩)) ∧ w'.cell? ⟨r, k, none⟩ = some (.pointer (some ⟨rb k, 0, none⟩)))
              (first | (with_reducible exact hs1) | (with_reducible exact hsd) | (with_reducible exact hs2))
              ((first
                | (go_at_call 17; (with_reducible refine LI.out.mono ?_); rintro e w2 ⟨rfl, hb2⟩; have E2 := hid hb2; have hs2 := And.intro (heap_cell_keep hb2 hsd.1) (heap_cell_keep hb2 hsd.2); clear hb2)))
            go_wp2
            go_roundw
            case rel => exact ⟨i + 1, by omega, by go_num, hid ((Play.mk ⟨_, _, _, _, ID.out.keep E2.out, HL.out⟩).mono (by omega)), hid (HBD.out.trans (E2.out.mono hBD))⟩
            case measure => simp [intOf]; omega
          · have hq3 : (knd == 3) = false := beq_eq_false_iff_ne.2 h3
            clear h3
            by_cases h4 : knd = 4
            · subst h4
              clear hq1 hq2 hq3
              have hm3 : (m : Int) < 3 := by omega
              have hm2 : (m : Int) ≤ 3 := by omega
              have hm0 : (0 : Int) ≤ (m : Int) := by omega
              have CP := hid (copy_any (bt k) (bm k) (54 + i) (look (L k)) W1.drew (ID.out.tab k hk) (ID.out.box k hk))
              have d4A := show W1.drew.cell? ⟨cb, 4, none⟩ = some (.int .i64 cn) from x4
              have q0d := show W1.drew.cell? ⟨o, k, none⟩ = some (.pointer (some ⟨bt k, 0, none⟩)) from q0
              have nco : cb ≠ o := by intro e; have h := I1.out.tob; rw [Trio, ← e, HC.out] at h; simp at h
              have ncr : cb ≠ r := by intro e; have h := I1.out.tr; rw [Trio, ← e, HC.out] at h; simp at h
              go_wp2_with (go_at_call 13; (with_reducible refine (PO.out _).mono ?_); rintro e w5 ⟨rfl, rfl⟩)
              refine wp_region_held_drew (S := fun w' => w'.cell? ⟨cb, 4, none⟩ = some (.int .i64 cn)) (by kernel_rfl) d4A (fun hHeld => ?_)
              refine' wpAnyH_take (i := 0) (v := (.slice (some ⟨o, 0, none⟩) 3 3)) rfl (by decide +kernel) (by decide +kernel) (by decide +kernel) (fun _ _ _ h => h) (Or.inl ⟨by rfl, ?hyA0⟩) (by assumption) ?restA0
              case hyA0 => (intro w5 hSw; (try dsimp only at hSw); go_simp; try with_reducible rfl)
              case' restA0 => (try simp only [Act.put, List.setIfInBounds_toArray, List.set_cons_zero, List.set_cons_succ])
              refine' wpAnyH_take (i := 1) (v := (.pointer (some ⟨cb, 4, none⟩))) rfl (by decide +kernel) (by decide +kernel) (by decide +kernel) (fun _ _ _ h => h) (Or.inl ⟨by rfl, ?hyA1⟩) (by assumption) ?restA1
              case hyA1 => (intro w5 hSw; (try dsimp only at hSw); go_simp; try with_reducible rfl)
              case' restA1 => (try simp only [Act.put, List.setIfInBounds_toArray, List.set_cons_zero, List.set_cons_succ])
              refine' wpAnyH_take (i := 2) (v := (.int .i64 cn)) rfl (by decide +kernel) (by decide +kernel) (by decide +kernel) (fun _ _ _ h => h) (Or.inl ⟨by rfl, ?hyA2⟩) (by assumption) ?restA2
              case hyA2 => (intro w5 hSw; (try dsimp only at hSw); go_simp; try with_reducible rfl)
              case' restA2 => (try simp only [Act.put, List.setIfInBounds_toArray, List.set_cons_zero, List.set_cons_succ])
              refine' wpAnyH_take (i := 4) (v := (.slice (some ⟨o, 0, none⟩) 3 3)) rfl (by decide +kernel) (by decide +kernel) (by decide +kernel) (fun _ _ _ h => h) (Or.inl ⟨by rfl, ?hyA4⟩) (by assumption) ?restA4
              case hyA4 => (intro w5 hSw; (try dsimp only at hSw); go_simp; try with_reducible rfl)
              case' restA4 => (try simp only [Act.put, List.setIfInBounds_toArray, List.set_cons_zero, List.set_cons_succ])
              refine' wpAnyH_take (i := 5) (v := (.int .i64 (k : Int))) rfl (by decide +kernel) (by decide +kernel) (by decide +kernel) (fun _ _ _ h => h) (Or.inl ⟨by rfl, ?hyA5⟩) (by assumption) ?restA5
              case hyA5 => (intro w5 hSw; (try dsimp only at hSw); go_simp; try with_reducible rfl)
              case' restA5 => (try simp only [Act.put, List.setIfInBounds_toArray, List.set_cons_zero, List.set_cons_succ])
              refine' wpAnyH_take (i := 6) (v := (.pointer (some ⟨o, k, none⟩))) rfl (by decide +kernel) (by decide +kernel) (by decide +kernel) (fun _ _ _ h => h) (Or.inl ⟨by rfl, ?hyA6⟩) (by assumption) ?restA6
              case hyA6 => (intro w5 hSw; (try dsimp only at hSw); go_simp; try with_reducible rfl)
              case' restA6 => (try simp only [Act.put, List.setIfInBounds_toArray, List.set_cons_zero, List.set_cons_succ])
              refine wpAnyH_ready (rs := [3, 7]) (by decide +kernel) (by simp) ?_
              refine AllReadyH.cons rfl (fun K hK => ?_) ?_
              · go_simp
                go_at_call 13
                (with_reducible refine (PM.out _).mono ?_)
                rintro e w5 ⟨rfl, rfl⟩
                go_wp2_with fail
                refine hK.out _ _ d4A (fun hHeld => ?_)
                clear hK K
                (try simp only [Act.put, List.setIfInBounds_toArray, List.set_cons_zero, List.set_cons_succ])
                refine wpAnyH_ready (rs := [7]) (by decide +kernel) (by simp) ?_
                refine AllReadyH.cons rfl (fun K hK => ?_) AllReadyH.nil
                go_simp
                refine hK.out _ _ d4A (fun hHeld => ?_)
                clear hK K
                (try simp only [Act.put, List.setIfInBounds_toArray, List.set_cons_zero, List.set_cons_succ])
                refine wpAnyH_ready (rs := [8]) (by decide +kernel) (by simp) ?_
                refine AllReadyH.cons rfl (fun K hK => ?_) AllReadyH.nil
                go_simp
                go_at_call 11
                (with_reducible refine CP.out.mono ?_)
                rintro e w2 ⟨x, y, rfl, hx2, hy2, hne2, hT2, hc2, hb2⟩
                have I2 := hid (ID.out.keep hb2)
                have e4A := heap_cell_keep hb2 d4A
                have HC2 := hid (heap_keep3 HCD.out hb2)
                have t2 := I2.out.tob.cell hm
                have u2 := I2.out.tob.frozen hm
                have f4A := (World.cell?_of_block (Below.heap_setCell w2 ⟨o, m, none⟩ (.pointer (some ⟨y, 0, none⟩)) cb (fun q => nco q))).trans e4A
                have HT2 := hid hT2
                have HC3 := hid hc2
                have HB2 := hid hb2
                have HX2 := hid hx2
                clear hT2 hc2 hb2 hx2 hy2 hne2
                go_wp2_with fail
                refine hK.out _ _ e4A (fun hHeld => ?_)
                clear hK K
                (try simp only [Act.put, List.setIfInBounds_toArray, List.set_cons_zero, List.set_cons_succ])
                refine' wpAnyH_take (i := 9) (v := (.pointer (some ⟨o, m, none⟩))) rfl (by decide +kernel) (by decide +kernel) (by decide +kernel) (fun _ _ _ h => h) (Or.inl ⟨by rfl, ?hyAa⟩) (by assumption) ?restAa
                case hyAa => (intro w5 hSw; (try dsimp only at hSw); go_simp; try with_reducible rfl)
                case' restAa => (try simp only [Act.put, List.setIfInBounds_toArray, List.set_cons_zero, List.set_cons_succ])
                refine wpAnyH_ready (rs := [10]) (by decide +kernel) (by simp) ?_
                refine AllReadyH.cons rfl (fun K hK => ?_) AllReadyH.nil
                go_simp
                refine hK.out _ _ f4A (fun hHeld => ?_)
                clear hK K
                (try simp only [Act.put, List.setIfInBounds_toArray, List.set_cons_zero, List.set_cons_succ])
                refine wpAnyH_done (by kernel_rfl) ?_ _
                obtain ⟨W2, hW2⟩ : ∃ W2, W2 = w2.setCell ⟨o, m, none⟩ (.pointer (some ⟨y, 0, none⟩)) := ⟨_, rfl⟩
                rw [← hW2]
                have I2s := hid (show Inv W2 B o r (54 + i) (put bt m y) (put bm m x) rb (put (fun j => look (L j)) m (look (L k))) L by rw [hW2]; exact ID.out.oset hm HB2.out HX2.out hBD HT2.out HC3.out)
                have hC2s : W2.cell? ⟨cb, 4, none⟩ = some (.int .i64 cn) := by rw [hW2]; exact f4A
                have HB2s := hid (show Below B w W2 by rw [hW2]; exact (HBD.out.trans (HB2.out.mono hBD)).setCell ID.out.oB _)
                have hB2s : B ≤ W2.heap.size := by rw [hW2]; have := HB2.out.size; simp; omega
                have n2r : cb ≠ r := ncr
                clear hW2 f4A e4A HC2 t2 u2 HT2 HC3 HB2 HX2 I2
                go_wp2
                have J0 := I2s.out.tr.cell hk
                have d4B := show W2.drew.cell? ⟨cb, 4, none⟩ = some (.int .i64 cn) from hC2s
                have J0d := show W2.drew.cell? ⟨r, k, none⟩ = some (.pointer (some ⟨rb k, 0, none⟩)) from J0
                have hD2 := hid ((Below.refl W2.heap.size W2).drew)
                have RC := hid (refCopy (rb k) (L k) W2.drew ((I2s.out.ref k hk).keep hD2.out) (by unfold maxLen; omega) (by omega))
                have IRB := hid I2s.out.rB
                refine wp_region_held_drew (S := fun w' => w'.cell? ⟨cb, 4, none⟩ = some (.int .i64 cn)) (by kernel_rfl) d4B (fun hHeld => ?_)
                refine' wpAnyH_take (i := 0) (v := (.slice (some ⟨r, 0, none⟩) 3 3)) rfl (by decide +kernel) (by decide +kernel) (by decide +kernel) (fun _ _ _ h => h) (Or.inl ⟨by rfl, ?hyBa0⟩) (by assumption) ?restBa0
                case hyBa0 => (intro w5 hSw; (try dsimp only at hSw); go_simp; try with_reducible rfl)
                case' restBa0 => (try simp only [Act.put, List.setIfInBounds_toArray, List.set_cons_zero, List.set_cons_succ])
                refine' wpAnyH_take (i := 1) (v := (.pointer (some ⟨cb, 4, none⟩))) rfl (by decide +kernel) (by decide +kernel) (by decide +kernel) (fun _ _ _ h => h) (Or.inl ⟨by rfl, ?hyBa1⟩) (by assumption) ?restBa1
                case hyBa1 => (intro w5 hSw; (try dsimp only at hSw); go_simp; try with_reducible rfl)
                case' restBa1 => (try simp only [Act.put, List.setIfInBounds_toArray, List.set_cons_zero, List.set_cons_succ])
                refine' wpAnyH_take (i := 2) (v := (.int .i64 cn)) rfl (by decide +kernel) (by decide +kernel) (by decide +kernel) (fun _ _ _ h => h) (Or.inl ⟨by rfl, ?hyBa2⟩) (by assumption) ?restBa2
                case hyBa2 => (intro w5 hSw; (try dsimp only at hSw); go_simp; try with_reducible rfl)
                case' restBa2 => (try simp only [Act.put, List.setIfInBounds_toArray, List.set_cons_zero, List.set_cons_succ])
                refine' wpAnyH_take (i := 4) (v := (.slice (some ⟨r, 0, none⟩) 3 3)) rfl (by decide +kernel) (by decide +kernel) (by decide +kernel) (fun _ _ _ h => h) (Or.inl ⟨by rfl, ?hyBa4⟩) (by assumption) ?restBa4
                case hyBa4 => (intro w5 hSw; (try dsimp only at hSw); go_simp; try with_reducible rfl)
                case' restBa4 => (try simp only [Act.put, List.setIfInBounds_toArray, List.set_cons_zero, List.set_cons_succ])
                refine' wpAnyH_take (i := 5) (v := (.int .i64 (k : Int))) rfl (by decide +kernel) (by decide +kernel) (by decide +kernel) (fun _ _ _ h => h) (Or.inl ⟨by rfl, ?hyBa5⟩) (by assumption) ?restBa5
                case hyBa5 => (intro w5 hSw; (try dsimp only at hSw); go_simp; try with_reducible rfl)
                case' restBa5 => (try simp only [Act.put, List.setIfInBounds_toArray, List.set_cons_zero, List.set_cons_succ])
                refine' wpAnyH_take (i := 6) (v := (.pointer (some ⟨r, k, none⟩))) rfl (by decide +kernel) (by decide +kernel) (by decide +kernel) (fun _ _ _ h => h) (Or.inl ⟨by rfl, ?hyBa6⟩) (by assumption) ?restBa6
                case hyBa6 => (intro w5 hSw; (try dsimp only at hSw); go_simp; try with_reducible rfl)
                case' restBa6 => (try simp only [Act.put, List.setIfInBounds_toArray, List.set_cons_zero, List.set_cons_succ])
                refine wpAnyH_ready (rs := [3, 7]) (by decide +kernel) (by simp) ?_
                refine AllReadyH.cons rfl (fun K hK => ?_) ?_
                · go_simp
                  go_at_call 13
                  (with_reducible refine (PM.out _).mono ?_)
                  rintro e w5 ⟨rfl, rfl⟩
                  go_wp2_with fail
                  refine hK.out _ _ d4B (fun hHeld => ?_)
                  clear hK K
                  (try simp only [Act.put, List.setIfInBounds_toArray, List.set_cons_zero, List.set_cons_succ])
                  refine wpAnyH_ready (rs := [7]) (by decide +kernel) (by simp) ?_
                  refine AllReadyH.cons rfl (fun K hK => ?_) AllReadyH.nil
                  go_simp
                  refine hK.out _ _ d4B (fun hHeld => ?_)
                  clear hK K
                  (try simp only [Act.put, List.setIfInBounds_toArray, List.set_cons_zero, List.set_cons_succ])
                  refine wpAnyH_ready (rs := [8]) (by decide +kernel) (by simp) ?_
                  refine AllReadyH.cons rfl (fun K hK => ?_) AllReadyH.nil
                  go_simp
                  go_at_call 18
                  (with_reducible refine RC.out.mono ?_)
                  rintro e w3 ⟨z, rfl, hz3, hR3, hb3⟩
                  have hb3' := hD2.out.trans (hb3.mono (Nat.le_refl _))
                  have e4B := heap_cell_keep hb3 d4B
                  have I3 := hid (I2s.out.keep hb3')
                  have t3 := I3.out.tr.cell hm
                  have u3 := I3.out.tr.frozen hm
                  have f4B := (World.cell?_of_block (Below.heap_setCell w3 ⟨r, m, none⟩ (.pointer (some ⟨z, 0, none⟩)) cb (fun q => n2r q))).trans e4B
                  go_wp2_with fail
                  refine hK.out _ _ e4B (fun hHeld => ?_)
                  clear hK K
                  (try simp only [Act.put, List.setIfInBounds_toArray, List.set_cons_zero, List.set_cons_succ])
                  refine' wpAnyH_take (i := 9) (v := (.pointer (some ⟨r, m, none⟩))) rfl (by decide +kernel) (by decide +kernel) (by decide +kernel) (fun _ _ _ h => h) (Or.inl ⟨by rfl, ?hyBaa⟩) (by assumption) ?restBaa
                  case hyBaa => (intro w5 hSw; (try dsimp only at hSw); go_simp; try with_reducible rfl)
                  case' restBaa => (try simp only [Act.put, List.setIfInBounds_toArray, List.set_cons_zero, List.set_cons_succ])
                  refine wpAnyH_ready (rs := [10]) (by decide +kernel) (by simp) ?_
                  refine AllReadyH.cons rfl (fun K hK => ?_) AllReadyH.nil
                  go_simp
                  refine hK.out _ _ f4B (fun hHeld => ?_)
                  clear hK K
                  (try simp only [Act.put, List.setIfInBounds_toArray, List.set_cons_zero, List.set_cons_succ])
                  refine wpAnyH_done (by kernel_rfl) ?_ _
                  go_wp2
                  go_roundw
                  case rel => exact ⟨i + 1, by omega, by go_num, hid ((play_copy HL.out hk hm I2s.out hb3' hz3 hB2s hR3).mono (by omega)), hid (HB2s.out.trans (hb3'.mono hB2s) |>.setCell IRB.out _)⟩
                  case measure => simp [intOf]; omega
                refine AllReadyH.cons rfl (fun K hK => ?_) AllReadyH.nil
                go_simp
                refine hK.out _ _ d4B (fun hHeld => ?_)
                clear hK K
                (try simp only [Act.put, List.setIfInBounds_toArray, List.set_cons_zero, List.set_cons_succ])
                refine wpAnyH_ready (rs := [3]) (by decide +kernel) (by simp) ?_
                refine AllReadyH.cons rfl (fun K hK => ?_) AllReadyH.nil
                go_simp
                go_at_call 13
                (with_reducible refine (PM.out _).mono ?_)
                rintro e w5 ⟨rfl, rfl⟩
                go_wp2_with fail
                refine hK.out _ _ d4B (fun hHeld => ?_)
                clear hK K
                (try simp only [Act.put, List.setIfInBounds_toArray, List.set_cons_zero, List.set_cons_succ])
                refine wpAnyH_ready (rs := [8]) (by decide +kernel) (by simp) ?_
                refine AllReadyH.cons rfl (fun K hK => ?_) AllReadyH.nil
                go_simp
                go_at_call 18
                (with_reducible refine RC.out.mono ?_)
                rintro e w3 ⟨z, rfl, hz3, hR3, hb3⟩
                have hb3' := hD2.out.trans (hb3.mono (Nat.le_refl _))
                have e4B := heap_cell_keep hb3 d4B
                have I3 := hid (I2s.out.keep hb3')
                have t3 := I3.out.tr.cell hm
                have u3 := I3.out.tr.frozen hm
                have f4B := (World.cell?_of_block (Below.heap_setCell w3 ⟨r, m, none⟩ (.pointer (some ⟨z, 0, none⟩)) cb (fun q => n2r q))).trans e4B
                go_wp2_with fail
                refine hK.out _ _ e4B (fun hHeld => ?_)
                clear hK K
                (try simp only [Act.put, List.setIfInBounds_toArray, List.set_cons_zero, List.set_cons_succ])
                refine' wpAnyH_take (i := 9) (v := (.pointer (some ⟨r, m, none⟩))) rfl (by decide +kernel) (by decide +kernel) (by decide +kernel) (fun _ _ _ h => h) (Or.inl ⟨by rfl, ?hyBab⟩) (by assumption) ?restBab
                case hyBab => (intro w5 hSw; (try dsimp only at hSw); go_simp; try with_reducible rfl)
                case' restBab => (try simp only [Act.put, List.setIfInBounds_toArray, List.set_cons_zero, List.set_cons_succ])
                refine wpAnyH_ready (rs := [10]) (by decide +kernel) (by simp) ?_
                refine AllReadyH.cons rfl (fun K hK => ?_) AllReadyH.nil
                go_simp
                refine hK.out _ _ f4B (fun hHeld => ?_)
                clear hK K
                (try simp only [Act.put, List.setIfInBounds_toArray, List.set_cons_zero, List.set_cons_succ])
                refine wpAnyH_done (by kernel_rfl) ?_ _
                go_wp2
                go_roundw
                case rel => exact ⟨i + 1, by omega, by go_num, hid ((play_copy HL.out hk hm I2s.out hb3' hz3 hB2s hR3).mono (by omega)), hid (HB2s.out.trans (hb3'.mono hB2s) |>.setCell IRB.out _)⟩
                case measure => simp [intOf]; omega
              refine AllReadyH.cons rfl (fun K hK => ?_) AllReadyH.nil
              go_simp
              refine hK.out _ _ d4A (fun hHeld => ?_)
              clear hK K
              (try simp only [Act.put, List.setIfInBounds_toArray, List.set_cons_zero, List.set_cons_succ])
              refine wpAnyH_ready (rs := [3]) (by decide +kernel) (by simp) ?_
              refine AllReadyH.cons rfl (fun K hK => ?_) AllReadyH.nil
              go_simp
              go_at_call 13
              (with_reducible refine (PM.out _).mono ?_)
              rintro e w5 ⟨rfl, rfl⟩
              go_wp2_with fail
              refine hK.out _ _ d4A (fun hHeld => ?_)
              clear hK K
              (try simp only [Act.put, List.setIfInBounds_toArray, List.set_cons_zero, List.set_cons_succ])
              refine wpAnyH_ready (rs := [8]) (by decide +kernel) (by simp) ?_
              refine AllReadyH.cons rfl (fun K hK => ?_) AllReadyH.nil
              go_simp
              go_at_call 11
              (with_reducible refine CP.out.mono ?_)
              rintro e w2 ⟨x, y, rfl, hx2, hy2, hne2, hT2, hc2, hb2⟩
              have I2 := hid (ID.out.keep hb2)
              have e4A := heap_cell_keep hb2 d4A
              have HC2 := hid (heap_keep3 HCD.out hb2)
              have t2 := I2.out.tob.cell hm
              have u2 := I2.out.tob.frozen hm
              have f4A := (World.cell?_of_block (Below.heap_setCell w2 ⟨o, m, none⟩ (.pointer (some ⟨y, 0, none⟩)) cb (fun q => nco q))).trans e4A
              have HT2 := hid hT2
              have HC3 := hid hc2
              have HB2 := hid hb2
              have HX2 := hid hx2
              clear hT2 hc2 hb2 hx2 hy2 hne2
              go_wp2_with fail
              refine hK.out _ _ e4A (fun hHeld => ?_)
              clear hK K
              (try simp only [Act.put, List.setIfInBounds_toArray, List.set_cons_zero, List.set_cons_succ])
              refine' wpAnyH_take (i := 9) (v := (.pointer (some ⟨o, m, none⟩))) rfl (by decide +kernel) (by decide +kernel) (by decide +kernel) (fun _ _ _ h => h) (Or.inl ⟨by rfl, ?hyAb⟩) (by assumption) ?restAb
              case hyAb => (intro w5 hSw; (try dsimp only at hSw); go_simp; try with_reducible rfl)
              case' restAb => (try simp only [Act.put, List.setIfInBounds_toArray, List.set_cons_zero, List.set_cons_succ])
              refine wpAnyH_ready (rs := [10]) (by decide +kernel) (by simp) ?_
              refine AllReadyH.cons rfl (fun K hK => ?_) AllReadyH.nil
              go_simp
              refine hK.out _ _ f4A (fun hHeld => ?_)
              clear hK K
              (try simp only [Act.put, List.setIfInBounds_toArray, List.set_cons_zero, List.set_cons_succ])
              refine wpAnyH_done (by kernel_rfl) ?_ _
              obtain ⟨W2, hW2⟩ : ∃ W2, W2 = w2.setCell ⟨o, m, none⟩ (.pointer (some ⟨y, 0, none⟩)) := ⟨_, rfl⟩
              rw [← hW2]
              have I2s := hid (show Inv W2 B o r (54 + i) (put bt m y) (put bm m x) rb (put (fun j => look (L j)) m (look (L k))) L by rw [hW2]; exact ID.out.oset hm HB2.out HX2.out hBD HT2.out HC3.out)
              have hC2s : W2.cell? ⟨cb, 4, none⟩ = some (.int .i64 cn) := by rw [hW2]; exact f4A
              have HB2s := hid (show Below B w W2 by rw [hW2]; exact (HBD.out.trans (HB2.out.mono hBD)).setCell ID.out.oB _)
              have hB2s : B ≤ W2.heap.size := by rw [hW2]; have := HB2.out.size; simp; omega
              have n2r : cb ≠ r := ncr
              clear hW2 f4A e4A HC2 t2 u2 HT2 HC3 HB2 HX2 I2
              go_wp2
              have J0 := I2s.out.tr.cell hk
              have d4B := show W2.drew.cell? ⟨cb, 4, none⟩ = some (.int .i64 cn) from hC2s
              have J0d := show W2.drew.cell? ⟨r, k, none⟩ = some (.pointer (some ⟨rb k, 0, none⟩)) from J0
              have hD2 := hid ((Below.refl W2.heap.size W2).drew)
              have RC := hid (refCopy (rb k) (L k) W2.drew ((I2s.out.ref k hk).keep hD2.out) (by unfold maxLen; omega) (by omega))
              have IRB := hid I2s.out.rB
              refine wp_region_held_drew (S := fun w' => w'.cell? ⟨cb, 4, none⟩ = some (.int .i64 cn)) (by kernel_rfl) d4B (fun hHeld => ?_)
              refine' wpAnyH_take (i := 0) (v := (.slice (some ⟨r, 0, none⟩) 3 3)) rfl (by decide +kernel) (by decide +kernel) (by decide +kernel) (fun _ _ _ h => h) (Or.inl ⟨by rfl, ?hyBb0⟩) (by assumption) ?restBb0
              case hyBb0 => (intro w5 hSw; (try dsimp only at hSw); go_simp; try with_reducible rfl)
              case' restBb0 => (try simp only [Act.put, List.setIfInBounds_toArray, List.set_cons_zero, List.set_cons_succ])
              refine' wpAnyH_take (i := 1) (v := (.pointer (some ⟨cb, 4, none⟩))) rfl (by decide +kernel) (by decide +kernel) (by decide +kernel) (fun _ _ _ h => h) (Or.inl ⟨by rfl, ?hyBb1⟩) (by assumption) ?restBb1
              case hyBb1 => (intro w5 hSw; (try dsimp only at hSw); go_simp; try with_reducible rfl)
              case' restBb1 => (try simp only [Act.put, List.setIfInBounds_toArray, List.set_cons_zero, List.set_cons_succ])
              refine' wpAnyH_take (i := 2) (v := (.int .i64 cn)) rfl (by decide +kernel) (by decide +kernel) (by decide +kernel) (fun _ _ _ h => h) (Or.inl ⟨by rfl, ?hyBb2⟩) (by assumption) ?restBb2
              case hyBb2 => (intro w5 hSw; (try dsimp only at hSw); go_simp; try with_reducible rfl)
              case' restBb2 => (try simp only [Act.put, List.setIfInBounds_toArray, List.set_cons_zero, List.set_cons_succ])
              refine' wpAnyH_take (i := 4) (v := (.slice (some ⟨r, 0, none⟩) 3 3)) rfl (by decide +kernel) (by decide +kernel) (by decide +kernel) (fun _ _ _ h => h) (Or.inl ⟨by rfl, ?hyBb4⟩) (by assumption) ?restBb4
              case hyBb4 => (intro w5 hSw; (try dsimp only at hSw); go_simp; try with_reducible rfl)
              case' restBb4 => (try simp only [Act.put, List.setIfInBounds_toArray, List.set_cons_zero, List.set_cons_succ])
              refine' wpAnyH_take (i := 5) (v := (.int .i64 (k : Int))) rfl (by decide +kernel) (by decide +kernel) (by decide +kernel) (fun _ _ _ h => h) (Or.inl ⟨by rfl, ?hyBb5⟩) (by assumption) ?restBb5
              case hyBb5 => (intro w5 hSw; (try dsimp only at hSw); go_simp; try with_reducible rfl)
              case' restBb5 => (try simp only [Act.put, List.setIfInBounds_toArray, List.set_cons_zero, List.set_cons_succ])
              refine' wpAnyH_take (i := 6) (v := (.pointer (some ⟨r, k, none⟩))) rfl (by decide +kernel) (by decide +kernel) (by decide +kernel) (fun _ _ _ h => h) (Or.inl ⟨by rfl, ?hyBb6⟩) (by assumption) ?restBb6
              case hyBb6 => (intro w5 hSw; (try dsimp only at hSw); go_simp; try with_reducible rfl)
              case' restBb6 => (try simp only [Act.put, List.setIfInBounds_toArray, List.set_cons_zero, List.set_cons_succ])
              refine wpAnyH_ready (rs := [3, 7]) (by decide +kernel) (by simp) ?_
              refine AllReadyH.cons rfl (fun K hK => ?_) ?_
              · go_simp
                go_at_call 13
                (with_reducible refine (PM.out _).mono ?_)
                rintro e w5 ⟨rfl, rfl⟩
                go_wp2_with fail
                refine hK.out _ _ d4B (fun hHeld => ?_)
                clear hK K
                (try simp only [Act.put, List.setIfInBounds_toArray, List.set_cons_zero, List.set_cons_succ])
                refine wpAnyH_ready (rs := [7]) (by decide +kernel) (by simp) ?_
                refine AllReadyH.cons rfl (fun K hK => ?_) AllReadyH.nil
                go_simp
                refine hK.out _ _ d4B (fun hHeld => ?_)
                clear hK K
                (try simp only [Act.put, List.setIfInBounds_toArray, List.set_cons_zero, List.set_cons_succ])
                refine wpAnyH_ready (rs := [8]) (by decide +kernel) (by simp) ?_
                refine AllReadyH.cons rfl (fun K hK => ?_) AllReadyH.nil
                go_simp
                go_at_call 18
                (with_reducible refine RC.out.mono ?_)
                rintro e w3 ⟨z, rfl, hz3, hR3, hb3⟩
                have hb3' := hD2.out.trans (hb3.mono (Nat.le_refl _))
                have e4B := heap_cell_keep hb3 d4B
                have I3 := hid (I2s.out.keep hb3')
                have t3 := I3.out.tr.cell hm
                have u3 := I3.out.tr.frozen hm
                have f4B := (World.cell?_of_block (Below.heap_setCell w3 ⟨r, m, none⟩ (.pointer (some ⟨z, 0, none⟩)) cb (fun q => n2r q))).trans e4B
                go_wp2_with fail
                refine hK.out _ _ e4B (fun hHeld => ?_)
                clear hK K
                (try simp only [Act.put, List.setIfInBounds_toArray, List.set_cons_zero, List.set_cons_succ])
                refine' wpAnyH_take (i := 9) (v := (.pointer (some ⟨r, m, none⟩))) rfl (by decide +kernel) (by decide +kernel) (by decide +kernel) (fun _ _ _ h => h) (Or.inl ⟨by rfl, ?hyBba⟩) (by assumption) ?restBba
                case hyBba => (intro w5 hSw; (try dsimp only at hSw); go_simp; try with_reducible rfl)
                case' restBba => (try simp only [Act.put, List.setIfInBounds_toArray, List.set_cons_zero, List.set_cons_succ])
                refine wpAnyH_ready (rs := [10]) (by decide +kernel) (by simp) ?_
                refine AllReadyH.cons rfl (fun K hK => ?_) AllReadyH.nil
                go_simp
                refine hK.out _ _ f4B (fun hHeld => ?_)
                clear hK K
                (try simp only [Act.put, List.setIfInBounds_toArray, List.set_cons_zero, List.set_cons_succ])
                refine wpAnyH_done (by kernel_rfl) ?_ _
                go_wp2
                go_roundw
                case rel => exact ⟨i + 1, by omega, by go_num, hid ((play_copy HL.out hk hm I2s.out hb3' hz3 hB2s hR3).mono (by omega)), hid (HB2s.out.trans (hb3'.mono hB2s) |>.setCell IRB.out _)⟩
                case measure => simp [intOf]; omega
              refine AllReadyH.cons rfl (fun K hK => ?_) AllReadyH.nil
              go_simp
              refine hK.out _ _ d4B (fun hHeld => ?_)
              clear hK K
              (try simp only [Act.put, List.setIfInBounds_toArray, List.set_cons_zero, List.set_cons_succ])
              refine wpAnyH_ready (rs := [3]) (by decide +kernel) (by simp) ?_
              refine AllReadyH.cons rfl (fun K hK => ?_) AllReadyH.nil
              go_simp
              go_at_call 13
              (with_reducible refine (PM.out _).mono ?_)
              rintro e w5 ⟨rfl, rfl⟩
              go_wp2_with fail
              refine hK.out _ _ d4B (fun hHeld => ?_)
              clear hK K
              (try simp only [Act.put, List.setIfInBounds_toArray, List.set_cons_zero, List.set_cons_succ])
              refine wpAnyH_ready (rs := [8]) (by decide +kernel) (by simp) ?_
              refine AllReadyH.cons rfl (fun K hK => ?_) AllReadyH.nil
              go_simp
              go_at_call 18
              (with_reducible refine RC.out.mono ?_)
              rintro e w3 ⟨z, rfl, hz3, hR3, hb3⟩
              have hb3' := hD2.out.trans (hb3.mono (Nat.le_refl _))
              have e4B := heap_cell_keep hb3 d4B
              have I3 := hid (I2s.out.keep hb3')
              have t3 := I3.out.tr.cell hm
              have u3 := I3.out.tr.frozen hm
              have f4B := (World.cell?_of_block (Below.heap_setCell w3 ⟨r, m, none⟩ (.pointer (some ⟨z, 0, none⟩)) cb (fun q => n2r q))).trans e4B
              go_wp2_with fail
              refine hK.out _ _ e4B (fun hHeld => ?_)
              clear hK K
              (try simp only [Act.put, List.setIfInBounds_toArray, List.set_cons_zero, List.set_cons_succ])
              refine' wpAnyH_take (i := 9) (v := (.pointer (some ⟨r, m, none⟩))) rfl (by decide +kernel) (by decide +kernel) (by decide +kernel) (fun _ _ _ h => h) (Or.inl ⟨by rfl, ?hyBbb⟩) (by assumption) ?restBbb
              case hyBbb => (intro w5 hSw; (try dsimp only at hSw); go_simp; try with_reducible rfl)
              case' restBbb => (try simp only [Act.put, List.setIfInBounds_toArray, List.set_cons_zero, List.set_cons_succ])
              refine wpAnyH_ready (rs := [10]) (by decide +kernel) (by simp) ?_
              refine AllReadyH.cons rfl (fun K hK => ?_) AllReadyH.nil
              go_simp
              refine hK.out _ _ f4B (fun hHeld => ?_)
              clear hK K
              (try simp only [Act.put, List.setIfInBounds_toArray, List.set_cons_zero, List.set_cons_succ])
              refine wpAnyH_done (by kernel_rfl) ?_ _
              go_wp2
              go_roundw
              case rel => exact ⟨i + 1, by omega, by go_num, hid ((play_copy HL.out hk hm I2s.out hb3' hz3 hB2s hR3).mono (by omega)), hid (HB2s.out.trans (hb3'.mono hB2s) |>.setCell IRB.out _)⟩
              case measure => simp [intOf]; omega
            · have hq4 : (knd == 4) = false := beq_eq_false_iff_ne.2 h4
              clear h4
              go_wp2_with (go_at_call 13; (with_reducible refine (PO.out _).mono ?_); rintro e w5 ⟨rfl, rfl⟩)
              go_roundw
              case rel => exact ⟨i + 1, by omega, by go_num, hid ((Play.mk ⟨_, _, _, _, I1.out, HL.out⟩).mono (by omega)), HB1⟩
              case measure => simp [intOf]; omega
    · obtain rfl : i = S.length := by omega
      clear hlt
      have HPl := hid hP.out
      have HBl := hid hBw.out
      clear hP hBw
      go_wp2
      obtain ⟨Wl, rfl⟩ : ∃ Wl : World, Wl = wr := ⟨_, rfl⟩
      go_loopw [11] (fun t wi => ∃ k : Nat, k ≤ 3 ∧ t = .int .i64 (k : Int) ∧ Hid (Below Wl.heap.size Wl wi)) (fun t _ => 3 - (intOf t).toNat)
      case atStart => exact ⟨0, by omega, rfl, hid (Below.refl _ _)⟩
      case round =>
        obtain ⟨k, hk', rfl, hBk⟩ := hrel
        by_cases hk : k < 3
        · obtain ⟨bt, bm, rb, L, hI, hL⟩ := (HPl.out.keep hBk.out).ex
          have q0 := hI.tob.cell hk
          have q1 := hI.tr.cell hk
          have hL0 := hL.len k hk
          have hk0 : (0 : Int) ≤ (k : Int) := by omega
          have hk3 : (k : Int) < 3 := by omega
          have hk2 : (k : Int) ≤ 3 := by omega
          have ID := hid (hI.keep ((Below.refl wr.heap.size wr).drew))
          have HL := hid hL
          clear hI hL
          have LI := hid (listed_any (bt k) (bm k) (54 + S.length) (rb k) (L k) wr.drew (ID.out.tab k hk) (ID.out.box k hk) (HL.out.good k hk) (ID.out.ref k hk) (HL.out.ap k hk) (by unfold maxLen; omega) (by omega) (by unfold maxLen; omega) (by omega))
          have hsd := show wr.drew.cell? ⟨o, k, none⟩ = some (.pointer (some ⟨bt k, 0, none⟩)) ∧ wr.drew.cell? ⟨r, k, none⟩ = some (.pointer (some ⟨rb k, 0, none⟩)) from ⟨q0, q1⟩
          have hs1 := And.intro q0 q1
          go_wp2
          go_region_held3 (fun w' => w'.cell? ⟨o, k, none⟩ = some (.pointer (some ⟨bt k, 0, none⟩)) ∧ w'.cell? ⟨r, k, none⟩ = some (.pointer (some ⟨rb k, 0, none⟩)))
            (first | (with_reducible exact hs1) | (with_reducible exact hsd) | (with_reducible exact hs2))
            ((first
              | (go_at_call 17; (with_reducible refine LI.out.mono ?_); rintro e w2 ⟨rfl, hb2⟩; have E2 := hid hb2; have hs2 := And.intro (heap_cell_keep hb2 hsd.1) (heap_cell_keep hb2 hsd.2); clear hb2)))
          go_wp2
          go_roundw
          case rel => exact ⟨k + 1, by omega, by go_num, hid (hBk.out.drew.trans (E2.out.mono hBk.out.size))⟩
          case measure => simp [intOf]; omega
        · obtain rfl : k = 3 := by omega
          clear hk
          go_wp2
          go_ret
          have h := HBl.out.size
          rw [← HBe.out] at h
          exact ⟨rfl, by rw [← HBe.out]; exact HBl.out.trans (hBk.out.mono h)⟩
end Go.Proofs.YtnbhmgonijlplaaDoor
