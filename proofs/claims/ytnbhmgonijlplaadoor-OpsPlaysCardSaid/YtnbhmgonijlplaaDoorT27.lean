/- The law OpsApart answers true whatever was added, where the program's tables of words and of blanks lie as its text lays them. -/
import Derived.Test.YtnbhmgonijlplaaDoorT25
import Derived.Test.YtnbhmgonijlplaaDoorT26
import Derived.IntWalk
namespace Go.Proofs.YtnbhmgonijlplaaDoor
open Go.RowKit Go.Maps

theorem told_is {F : Fn} (g : Good F) {y : Opn} (h : F (cls y.typ) y.name = some y) : ((F 1 y.name).isSome || (F 2 y.name).isSome || (F 3 y.name).isSome) = true := by
  rcases g.cl _ _ _ h with e | e | e <;> rw [e] at h <;> rw [h] <;> simp
theorem told_apart {F : Fn} (g : Good F) (s : ByteArray) : (F 2 s).isSome = true → (F 3 s).isSome = true → False := fun h2 h3 => by
  obtain ⟨x, hx⟩ := Option.isSome_iff_exists.1 h2
  obtain ⟨y, hy⟩ := Option.isSome_iff_exists.1 h3
  exact g.apart _ _ _ hx hy
theorem told_names {F : Fn} {L : List Opn} (h : Told F L) {k : Nat} (hk : k + 1 < L.length) : Op.bytesLess (L[k + 1]).name.toList (L[k]).name.toList = false := by
  rw [bytesLess_eq, Lib.toList_data, Lib.toList_data]
  refine decide_eq_false fun q => ?_
  have := List.pairwise_iff_getElem.1 h.asc k (k + 1) (by omega) hk (by omega)
  rcases this with p | ⟨p, _⟩
  · exact List.lt_irrefl _ (List.lt_trans p q)
  · unfold nm at p; rw [p] at q; exact List.lt_irrefl _ q

theorem infix_comma {F : Fn} (g : Good F) {bt b n : Nat} {w : World} (hT : Tab w b n F) (hc : w.cell? ⟨bt, 0, none⟩ = some (.map (some b))) :
    Calls Tryd.prog 27 #[.pointer (some ⟨bt, 0, none⟩), .string ⟨#[44]⟩] w fun e w' => e = .returned (.tuple #[.agg #[.string ⟨#[44]⟩, .int .i64 4, .int .i64 1000], .bool true]) ∧ Below w.heap.size w w' := by
  have h := infix_any bt b n F ⟨#[44]⟩ w hT hc (by decide)
  unfold found at h
  rw [g.comma] at h
  exact h
theorem eq_comma (w : World) : (binOp .eql 39 (.agg #[.string ⟨#[44]⟩, .int .i64 4, .int .i64 1000]) (.agg #[.string ⟨#[44]⟩, .int .i64 4, .int .i64 1000])).run Tryd.prog w = .ok (.bool true) w := by
  have h := eq39 ⟨⟨#[44]⟩, 4, 1000⟩ ⟨⟨#[44]⟩, 4, 1000⟩ w
  rw [show opEq ⟨⟨#[44]⟩, 4, 1000⟩ ⟨⟨#[44]⟩, 4, 1000⟩ = true from decide_eq_true rfl] at h
  exact h

set_option maxRecDepth 100000 in
set_option maxHeartbeats 8000000 in
theorem apart_yes (v : Value) (L : List Opn) (w : World) (hL : OpsAt w v L) (hn : ∀ y ∈ L, y.name.size ≤ maxLen) (hlen : L.length * 32 ≤ 140737488351232) (hw : Words w) (hbl : Blanks w) :
    Calls Tryd.prog 6 #[v] w fun e w' => e = .returned (.bool true) ∧ Below w.heap.size w w' := by
  have hl1 := hbl.lt
  have A := hid (awake_true w hw hbl)
  have OA := hid hL
  have BL := hid hbl
  have G0 := hid (Good.all hn good_new)
  have HN := hid hn
  have hl62 : L.length ≤ 4611686018427387904 := by omega
  have hnn0 : 54 + L.length ≤ maxLen := by unfold maxLen; omega
  have hby0 : (54 + L.length) * 32 ≤ 140737488355328 := by omega
  clear hn hL hw hbl
  go_enter Tryd.func6, Tryd.ntmps6
  go_wp2_with (first
    | (go_at_call 9; (with_reducible refine A.out.mono ?_); rintro e w1 ⟨rfl, hb1⟩; have B1 := hid hb1; have O1 := hid (OA.out.keep hb1); have L1 := hid (BL.out.keep (by omega) hb1); clear hb1 A)
    | (go_at_call 25; (with_reducible refine (filled_any _ L _ O1.out HN.out hl62 L1.out).mono ?_); rintro e w2 ⟨rfl, hT2, c2, hb2⟩; have T2 := hid hT2; have C2 := hid c2; have B2 := hid (B1.out.trans (hb2.mono B1.out.size)); clear hT2 c2 hb2 O1 L1 B1)
    | (go_at_call 26; (with_reducible refine (all26_told _ _ _ hnn0 hby0 _ G0.out _ C2.out T2.out).mono ?_); rintro e w3 ⟨v1, M, rfl, ⟨hT3, hL3⟩, hr3, hb3⟩; obtain ⟨g1, cap1, rfl, hg1, hg1l, hR1⟩ := row_open hr3 (comma_told G0.out hT3); have T3 := hid (T2.out.keep hb3); have C3 := hid (heap_cell_keep hb3 C2.out); have R3 := hid hR1; have TL := hid hT3; have hM := hL3; have B3 := hid (B2.out.trans (hb3.mono B2.out.size)); clear hT3 hL3 hr3 hb3 hg1 hR1 T2 C2 B2))
  generalize afterAll newF L = F at *
  have hcomma := hid G0.out.comma
  have HB := hid (Below.refl w3.heap.size w3)
  go_loopw [6] (fun i wr => ∃ k : Nat, k ≤ M.length ∧ i = .int .i64 (k : Int) ∧ Hid (Below w3.heap.size w3 wr)) (fun i _ => M.length - (intOf i).toNat)
  case atStart => exact ⟨0, by omega, rfl, HB⟩
  case round =>
    obtain ⟨k, hk, rfl, hBk⟩ := hrel
    by_cases hlt : k < M.length
    · have HY := hid (show ∀ W, Below w3.heap.size w3 W → W.cell? ⟨g1, k * 3, none⟩ = some (.string M[k].name) ∧ W.cell? ⟨g1, k * 3 + 1, none⟩ = some (.int .i64 M[k].typ) ∧ W.cell? ⟨g1, k * 3 + 2, none⟩ = some (.int .i64 M[k].pri) from
        fun W hW => ⟨(R3.out.keep hW).c0 k hlt, (R3.out.keep hW).c1 k hlt, (R3.out.keep hW).c2 k hlt⟩)
      have hm := (TL.out.mem M[k]).1 (List.getElem_mem hlt)
      have hnl := hid (by have := G0.out.len _ _ _ hm; exact this : M[k].name.size ≤ maxLen)
      have HIS := hid (told_is G0.out hm)
      have hp := G0.out.pri _ _ _ hm
      have HAP := hid (told_apart G0.out M[k].name)
      have hpr : Hid (∀ j, k = j + 1 → ∃ p : ByteArray, (∀ W, Below w3.heap.size w3 W → W.cell? ⟨g1, j * 3, none⟩ = some (.string p)) ∧ Op.bytesLess M[k].name.toList p.toList = false) := hid (by
        rintro j rfl
        exact ⟨M[j].name, fun W hW => (R3.out.keep hW).c0 j (by omega), told_names TL.out hlt⟩)
      clear hm
      generalize M[k] = y at *
      obtain ⟨hp1, hp2⟩ := hp
      have INF := hid (fun (W : World) (hW : Below w3.heap.size w3 W) => infix_any _ _ _ F y.name W (T3.out.keep hW) (heap_cell_keep hW C3.out) hnl.out)
      have POF := hid (fun (W : World) (hW : Below w3.heap.size w3 W) => postfix_any _ _ _ F y.name W (T3.out.keep hW) (heap_cell_keep hW C3.out) hnl.out)
      have ISF := hid (fun (W : World) (hW : Below w3.heap.size w3 W) => is_any _ _ _ F y.name W (T3.out.keep hW) (heap_cell_keep hW C3.out) hnl.out)
      rw [HIS.out] at ISF
      unfold Opn.val at INF POF
      clear HIS
      generalize (F 2 y.name).isSome = q2 at *
      generalize (F 3 y.name).isSome = q3 at *
      generalize found F 2 y.name = z2 at *
      generalize found F 3 y.name = z3 at *
      obtain ⟨r0, r1, r2⟩ := HY.out wr hBk.out
      go_wp2_with (first
        | (go_at_call 27; (with_reducible refine (INF.out _ hBk.out).mono ?_); rintro e w4 ⟨rfl, hb4⟩; have B4 := hid ((hBk.out.trans (hb4.mono hBk.out.size)).alloc (Nat.le_trans hBk.out.size hb4.size) (.cells #[.string z2.name, .int .i64 z2.typ, .int .i64 z2.pri] 39)); obtain ⟨s0, s1, s2⟩ := HY.out _ B4.out; clear hb4 INF)
        | (go_at_call 28; (with_reducible refine (POF.out _ B4.out).mono ?_); rintro e w5 ⟨rfl, hb5⟩; have B5 := hid ((B4.out.trans (hb5.mono B4.out.size)).alloc (Nat.le_trans B4.out.size hb5.size) (.cells #[.string z3.name, .int .i64 z3.typ, .int .i64 z3.pri] 39)); obtain ⟨t0, t1, t2⟩ := HY.out _ B5.out; clear hb5 POF)
        | (go_at_call 29; (with_reducible refine (ISF.out _ B5.out).mono ?_); rintro e w6 ⟨rfl, hb6⟩; have B6 := hid (B5.out.trans (hb6.mono B5.out.size)); obtain ⟨u0, u1, u2⟩ := HY.out _ B6.out; clear hb6 ISF))
      have hqq := hid (show ¬ (q2 = true ∧ q3 = true) from fun h => HAP.out h.1 h.2)
      have e1 : decide (y.pri < 1) = false := decide_eq_false (by omega)
      have e2 : decide (1200 < y.pri) = false := decide_eq_false (by omega)
      clear HAP s0 s1 s2 t0 t1 t2 r0 r1 r2
      rcases Nat.eq_zero_or_pos k with hk0 | hk0
      · have hd : decide (0 < k) = false := decide_eq_false (by omega)
        clear hpr HY hk0
        cases q2 <;> cases q3
        all_goals
          first
          | exact absurd ⟨rfl, rfl⟩ hqq.out
          | (clear hqq
             go_quiet (fail)
             go_wp2
             go_roundw
             case rel => exact ⟨k + 1, by omega, by go_num, hid (below_drewN B6.out _)⟩
             case measure => simp [intOf]; omega)
      · obtain ⟨j, hj⟩ : ∃ j, k = j + 1 := ⟨k - 1, by omega⟩
        obtain ⟨p, hpc, hpl⟩ := hpr.out j hj
        have hpj := hpc _ B6.out
        have hd : decide (0 < k) = true := decide_eq_true (by omega)
        have hsub : IntKind.i64.wrap ((k : Int) - 1) = (j : Int) := by rw [IntWalk.i64_in _ (by unfold maxLen at hnn0; omega)]; omega
        have hj1 : j < M.length := by omega
        clear hpr HY hk0 hj hpc
        cases q2 <;> cases q3
        all_goals
          first
          | exact absurd ⟨rfl, rfl⟩ hqq.out
          | (clear hqq
             go_quiet (fail)
             go_wp2
             go_roundw
             case rel => exact ⟨k + 1, by omega, by go_num, hid (below_drewN B6.out _)⟩
             case measure => simp [intOf]; omega)
    · obtain rfl : k = M.length := by omega
      clear hlt
      have INF := hid (infix_comma G0.out (T3.out.keep hBk.out) (heap_cell_keep hBk.out C3.out))
      have EQ := eq_comma
      have hBW := hid (B3.out.trans (hBk.out.mono B3.out.size))
      go_wp2_with (go_at_call 27; (with_reducible refine INF.out.mono ?_); rintro e w4 ⟨rfl, hb4⟩; have B4 := hid ((hBW.out.trans (hb4.mono hBW.out.size)).alloc (Nat.le_trans hBW.out.size hb4.size) (.cells #[.string ⟨#[44]⟩, .int .i64 4, .int .i64 1000] 39)); clear hb4)
      go_ret
      exact ⟨rfl, B4.out⟩
end Go.Proofs.YtnbhmgonijlplaaDoor
