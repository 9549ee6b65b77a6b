/- The law OpsAdds answers true whatever was added, where the program's tables of words and of blanks lie as its text lays them. -/
import Derived.Test.YtnbhmgonijlplaaDoorT24
import Derived.Deep.QuietTactic
import Derived.BigQuiet
namespace Go.Proofs.YtnbhmgonijlplaaDoor
open Go.RowKit Go.Maps

theorem guard39 (op : BinOp) (a b : Operand) (xs ys : Array Value) (w : World) : (eqGuard op 39 a b (.agg xs) (.agg ys)).run Tryd.prog w = .ok () w := run_eqGuard_agg w op 39 a b xs ys (by kernel_rfl)
/-- A slice that owns operators, as it is read. -/
structure RowAt (w : World) (g : Nat) (L : List Opn) : Prop where
  c0 : ∀ k (h : k < L.length), w.cell? ⟨g, k * 3, none⟩ = some (.string L[k].name)
  c1 : ∀ k (h : k < L.length), w.cell? ⟨g, k * 3 + 1, none⟩ = some (.int .i64 L[k].typ)
  c2 : ∀ k (h : k < L.length), w.cell? ⟨g, k * 3 + 2, none⟩ = some (.int .i64 L[k].pri)
theorem row_open {W : World} {base : Nat} {v : Value} {L : List Opn} (h : W.ownsRow base 39 3 v L.length (rowOf L)) (hl : 0 < L.length) : ∃ g cap, v = .slice (some ⟨g, 0, none⟩) L.length cap ∧ base ≤ g ∧ g < W.heap.size ∧ RowAt W g L := by
  obtain ⟨g, cap, cur, rfl, h1, h2, h3, h4, h5, h6⟩ := row_apart h hl
  refine ⟨g, cap, rfl, h1, lt_of_block h2, ⟨fun k hk => ?_, fun k hk => ?_, fun k hk => ?_⟩⟩
  · have := (triple_get h6 rfl hk).1; simpa [World.cell?, h2] using this
  · have := (triple_get h6 rfl hk).2.1; simpa [World.cell?, h2] using this
  · have := (triple_get h6 rfl hk).2.2; simpa [World.cell?, h2] using this
theorem RowAt.grown {w w' : World} {g b : Nat} {L : List Opn} (h : RowAt w g L) (hg : w.grownBy w' (some b)) (hne : g ≠ b) : RowAt w' g L :=
  ⟨fun k hk => hg.cell (h.c0 k hk) (by simpa using hne), fun k hk => hg.cell (h.c1 k hk) (by simpa using hne), fun k hk => hg.cell (h.c2 k hk) (by simpa using hne)⟩
theorem RowAt.keep {w w' : World} {g : Nat} {L : List Opn} (h : RowAt w g L) (hb : Below w.heap.size w w') : RowAt w' g L :=
  ⟨fun k hk => heap_cell_keep hb (h.c0 k hk), fun k hk => heap_cell_keep hb (h.c1 k hk), fun k hk => heap_cell_keep hb (h.c2 k hk)⟩

theorem opEq_comm (x y : Opn) : opEq x y = opEq y x := by unfold opEq; by_cases h : x = y <;> simp [h, Ne.symm]
theorem below_drewN {B : Nat} {a w : World} (h : Below B a w) (n : Nat) : Below B a (w.drewN n) := ⟨h.os, h.tape, h.output, h.size, h.block⟩
/-- What the law asks at its end. -/
structure Fin (z p : Int) (l m t o : Nat) : Prop where
  no : z ≠ 0 → m = l ∧ o = l
  del : z = 0 → p = 0 → t = 0 ∧ o = m ∧ l ≤ m + 1
  put : z = 0 → p ≠ 0 → t = 1 ∧ l ≤ o + 1 ∧ (m = l ∨ m = l + 1)
theorem fin_of {F : Fn} (g : Good F) (x : Opn) {L M : List Opn} (hL : Told F L) (hM : Told (after F x.pri x.typ x.name) M) (gM : Good (after F x.pri x.typ x.name)) : Fin (refu F x.pri x.typ x.name) x.pri L.length M.length (M.count x) (cross M L) := by
  unfold after at hM gM
  refine ⟨fun h => ?_, fun h hp => ?_, fun h hp => ?_⟩
  · rw [if_neg h] at hM
    obtain rfl := hL.one hM
    exact ⟨rfl, cross_all hL.nodup fun y hy => hy⟩
  · have h0 : ¬ 0 < x.pri := by omega
    rw [if_pos h, if_neg h0] at hM gM
    obtain ⟨h1, h2, h3⟩ := told_len_del hL hM
    refine ⟨List.count_eq_zero.2 fun hx => ?_, cross_all hL.nodup h1, h3⟩
    have := (gM.pri _ _ _ ((hM.mem x).1 hx)).1
    omega
  · have hr := (refu_ok h).1
    have h0 : 0 < x.pri := by omega
    rw [if_pos h, if_pos h0] at hM
    obtain ⟨h1, h2, h3, h4⟩ := told_len_put hL hM
    have h5 := cross_most hL.nodup x hM.nodup h2
    exact ⟨count_one hM.nodup h1, by omega, by omega⟩

set_option maxRecDepth 100000 in
set_option maxHeartbeats 8000000 in
theorem adds_yes (v : Value) (L : List Opn) (x : Opn) (w : World) (hL : OpsAt w v L) (hn : ∀ y ∈ L, y.name.size ≤ maxLen) (hx : x.name.size ≤ maxLen) (hlen : L.length * 32 ≤ 140737488351232) (hw : Words w) (hbl : Blanks w) :
    Calls Tryd.prog 5 #[v, x.val] w fun e w' => e = .returned (.bool true) ∧ Below w.heap.size w w' := by
  obtain ⟨W0, hW0⟩ : ∃ W0, W0 = w.alloc (.cells #[.string x.name, .int .i64 x.typ, .int .i64 x.pri] 39) := ⟨_, rfl⟩
  have hB0 : Below w.heap.size w W0 := by rw [hW0]; exact (Below.refl _ _).alloc (Nat.le_refl _) _
  have hX0 : W0.heap[w.heap.size]? = some (.cells #[.string x.name, .int .i64 x.typ, .int .i64 x.pri] 39 (0, 0)) := by rw [hW0]; exact heap_alloc_new w _
  have hs0 : W0.heap.size = w.heap.size + 1 := by rw [hW0]; simp
  have hl1 := hbl.lt
  have A := hid (awake_true W0 (hw.keep hw.lt hB0) (hbl.keep hl1 hB0))
  have OA := hid (hL.keep hB0)
  have BL := hid (hbl.keep hl1 hB0)
  have HX := hid hX0
  have HB := hid hB0
  have G0 := hid (Good.all hn good_new)
  have HN := hid hn
  have hl62 : L.length ≤ 4611686018427387904 := by omega
  have hnn : 54 + L.length + 1 ≤ maxLen := by unfold maxLen; omega
  have hby : (54 + L.length + 1) * 32 ≤ 140737488355328 := by omega
  have hnn0 : 54 + L.length ≤ maxLen := by unfold maxLen; omega
  have hby0 : (54 + L.length) * 32 ≤ 140737488355328 := by omega
  have hnl : 54 + L.length < maxLen := by unfold maxLen; omega
  have HAF := hid (Good.after G0.out x.pri x.typ hx)
  clear hn hL hw hbl hX0 hB0
  unfold Opn.val
  go_enter Tryd.func5, Tryd.ntmps5
  go_wp2_with fail
  rw [← hW0]
  clear hW0
  go_wp2_with (first
    | (go_at_call 9; (with_reducible refine A.out.mono ?_); rintro e w1 ⟨rfl, hb1⟩; have B1 := hid hb1; have O1 := hid (OA.out.keep hb1); have L1 := hid (BL.out.keep (by omega) hb1); clear hb1 A)
    | (go_at_call 25; (with_reducible refine (filled_any _ L _ O1.out HN.out hl62 L1.out).mono ?_); rintro e w2 ⟨rfl, hT2, c2, hb2⟩; have T2 := hid hT2; have C2 := hid c2; have B2 := hid (B1.out.trans (hb2.mono B1.out.size)); have S2 := hid (show w1.heap.size < w2.heap.size from hT2.lt); have S1 := hid B1.out.size; clear hT2 c2 hb2 O1 L1 B1)
    | (go_at_call 26; (with_reducible refine (all26_told _ _ _ hnn0 hby0 _ G0.out _ C2.out T2.out).mono ?_); rintro e w3 ⟨v1, L1, rfl, ⟨hT3, hL3⟩, hr3, hb3⟩; obtain ⟨g1, cap1, rfl, hg1, hg1l, hR1⟩ := row_open hr3 (comma_told G0.out hT3); have T3 := hid (T2.out.keep hb3); have C3 := hid (heap_cell_keep hb3 C2.out); have R3 := hid hR1; have TL := hid hT3; have BL3 := hid (And.intro hL3 hg1); have B3 := hid (B2.out.trans (hb3.mono B2.out.size)); have HX3 := hid ((B3.out.block _ (by omega)).trans HX.out); obtain ⟨x0, x1, x2, _, _, _⟩ := three_cells HX3.out; clear hT3 hL3 hr3 hb3 hg1 hR1 T2 C2 B2)
    | (go_at_call 14; (with_reducible refine (add_any _ _ _ _ _ _ _ _ T3.out C3.out hx hnl).mono ?_); rintro e w4 ⟨rfl, hT4, hg4⟩; have T4 := hid hT4; have C4 := hid (hg4.cell C3.out (by simp)); have R4 := hid (R3.out.grown hg4 (by have := S2.out; have := BL3.out.2; omega)); have B4 := hid (grown_below B3.out S1.out hg4); clear hT4 hg4 T3 C3 R3 B3 x0 x1 x2)
    | (go_at_call 26; (with_reducible refine (all26_told _ _ _ hnn hby _ HAF.out _ C4.out T4.out).mono ?_); rintro e w5 ⟨v2, L2, rfl, ⟨hT5, hL5⟩, hr5, hb5⟩; obtain ⟨g2, cap2, rfl, hg2, hg2l, hR2⟩ := row_open hr5 (comma_told HAF.out hT5); have R5 := hid (R4.out.keep hb5); have Q5 := hid hR2; have TM := hid hT5; have BL5 := hid hL5; have B5 := hid (B4.out.trans (hb5.mono B4.out.size)); have HX5 := hid ((B5.out.block _ (by omega)).trans HX.out); clear hT5 hL5 hr5 hb5 hg2 hR2 T4 C4 R4 B4))
  have FI := hid (fin_of G0.out x TL.out TM.out HAF.out)
  have hM5 := BL5.out
  have hL3 := BL3.out.1
  generalize refu (afterAll newF L) x.pri x.typ x.name = z at *
  have ND := hid TL.out.nodup
  clear TL TM HAF G0 BL5 BL3 hnn hby hnn0 hby0 hnl HN OA BL HX S1 S2
  go_loopw [10, 11, 12] (fun t o i wr => ∃ k : Nat, k ≤ L2.length ∧ i = .int .i64 (k : Int) ∧ t = .int .i64 ((L2.take k).count x : Nat) ∧ o = .int .i64 (cross (L2.take k) L1 : Nat) ∧ Hid (Below w5.heap.size w5 wr)) (fun _ _ i _ => L2.length - (intOf i).toNat)
  case atStart => exact ⟨0, by omega, rfl, by simp, by simp [cross], hid (Below.refl _ _)⟩
  case round =>
    obtain ⟨k, hk, rfl, rfl, rfl, hBk⟩ := hrel
    obtain ⟨ws, rfl⟩ : ∃ ws : World, ws = wr := ⟨_, rfl⟩
    by_cases hlt : k < L2.length
    · have HY := hid (show ∀ W, Below w5.heap.size w5 W → W.cell? ⟨g2, k * 3, none⟩ = some (.string L2[k].name) ∧ W.cell? ⟨g2, k * 3 + 1, none⟩ = some (.int .i64 L2[k].typ) ∧ W.cell? ⟨g2, k * 3 + 2, none⟩ = some (.int .i64 L2[k].pri) from
        fun W hW => ⟨(Q5.out.keep hW).c0 k hlt, (Q5.out.keep hW).c1 k hlt, (Q5.out.keep hW).c2 k hlt⟩)
      obtain ⟨r0, r1, r2⟩ := HY.out ws hBk.out
      obtain ⟨x0, x1, x2, _, _, _⟩ := three_cells (heap_keep3 HX5.out hBk.out)
      have HCS := hid (count_snoc L2 k hlt x)
      have HCR := hid (cross_snoc L2 L1 k hlt)
      have hc1 : (L2.take k).count x ≤ k := Nat.le_trans List.count_le_length (by simp; omega)
      have hc2 : cross (L2.take k) L1 ≤ k := Nat.le_trans (cross_le ND.out _) (by simp; omega)
      have EQ := eq39 L2[k] x
      have GU := guard39
      generalize (L2.take k).count x = T at *
      generalize cross (L2.take k) L1 = O at *
      generalize L2[k] = y at *
      generalize opEq y x = q at *
      have HQ : Hid ((L2.take (k + 1)).count x = T + (if q = true then 1 else 0)) := HCS
      clear HCS
      cases q
      all_goals
        go_wp2_with fail
        go_quiet (fail)
        go_wp2
        have hBw := hid (below_drewN hBk.out nq)
        clear r0 r1 r2 x0 x1 x2 EQ
        go_loopw [11, 13] (fun o j wi => ∃ m : Nat, m ≤ L1.length ∧ j = .int .i64 (m : Int) ∧ o = .int .i64 ((O + (L1.take m).count y : Nat) : Int) ∧ Hid (Below w5.heap.size w5 wi)) (fun _ j _ => L1.length - (intOf j).toNat)
        case atStart => exact ⟨0, by omega, rfl, by simp, hBw⟩
        case round =>
          obtain ⟨m, hm, rfl, rfl, hBi⟩ := hrel
          by_cases hmt : m < L1.length
          · obtain ⟨r0, r1, r2⟩ := HY.out wr hBi.out
            have s0 := (R5.out.keep hBi.out).c0 m hmt
            have s1 := (R5.out.keep hBi.out).c1 m hmt
            have s2 := (R5.out.keep hBi.out).c2 m hmt
            have HM := hid (count_snoc L1 m hmt y)
            have hc3 : (L1.take m).count y ≤ m := Nat.le_trans List.count_le_length (by simp; omega)
            have EQ := eq39 y L1[m]
            rw [opEq_comm] at EQ
            generalize (L1.take m).count y = C at *
            generalize L1[m] = u at *
            generalize opEq u y = q at *
            cases q
            all_goals
              go_wp2_with fail
              go_quiet (fail)
              go_wp2
              go_roundw
              case rel => exact ⟨m + 1, by omega, by go_num, by congr 1; have h := HM.out; simp at h; omega, hid (below_drewN hBi.out _)⟩
              case measure => simp [intOf]; omega
          · obtain rfl : m = L1.length := by omega
            rw [List.take_length]
            go_wp2
            go_roundw
            case rel => exact ⟨k + 1, by omega, by go_num, by congr 1; have h := HQ.out; simp at h; omega, by congr 1; have h := HCR.out; omega, hBi⟩
            case measure => simp [intOf]; omega
    · obtain rfl : k = L2.length := by omega
      rw [List.take_length]
      obtain ⟨f1, f2, f3⟩ := FI.out
      have hO := cross_le ND.out L2
      generalize L2.count x = T at *
      generalize cross L2 L1 = O at *
      have HBE := hid (show Below w.heap.size w ws from (HB.out.trans (B5.out.mono HB.out.size)).trans (hBk.out.mono (Nat.le_trans HB.out.size B5.out.size)))
      obtain ⟨x0, x1, x2, _, _, _⟩ := three_cells (heap_keep3 HX5.out hBk.out)
      clear R5 Q5 HX5 B5 HB hBk
      generalize L2.length = m at *
      generalize L1.length = l at *
      by_cases h1 : z = 0
      · subst h1
        by_cases h2 : x.pri = 0
        · obtain ⟨rfl, rfl, h5⟩ := f2 rfl h2
          have h6 : (l : Int) - 1 ≤ O := by omega
          have h2' : (x.pri == 0) = true := by simpa using h2
          clear f1 f2 f3 h2
          go_wp2
          go_ret
          exact ⟨rfl, HBE.out⟩
        · obtain ⟨rfl, h5, h7⟩ := f3 rfl h2
          have h6 : (l : Int) - 1 ≤ O := by omega
          have h2' : (x.pri == 0) = false := by simpa using h2
          clear f1 f2 f3 h2
          rcases h7 with rfl | rfl
          · go_wp2
            go_ret
            exact ⟨rfl, HBE.out⟩
          · go_wp2
            go_ret
            exact ⟨rfl, HBE.out⟩
      · obtain ⟨rfl, rfl⟩ := f1 h1
        have hz : (z != 0) = true := by simpa using h1
        clear f1 f2 f3 h1
        go_wp2
        go_ret
        exact ⟨rfl, HBE.out⟩
end Go.Proofs.YtnbhmgonijlplaaDoor
