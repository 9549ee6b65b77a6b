/- The document's answer on tables of operators: New. No condition but those that the theorem names. -/
import Derived.Test.YtnbhmgonijlplaaDoorT43
import Derived.Test.YtnbhmgonijlplaaDoorT41
import Derived.Test.YtnbhmgonijlplaaDoorT23
import Derived.Deep.AppendLies
import Derived.Deep.RegionHeld
namespace Go.Proofs.YtnbhmgonijlplaaDoor
open Go.RowKit Go.Joins

theorem step_app3 {w : World} {ops : Array Oper} {o : Oper} {a : Act} {K : Act → World → Prop} {Q : Exit → Act → World → Prop} {E : Prop} (hgd : o.guard = none) (s x : Operand)
    (ho : o.op = .call { callee := .builtin .append, args := #[s, x], argTypes := #[45, 45] })
    (h : ∃ (base k : Nat) (xs : List Value) (y : Opn) (c : Nat) (v : Value), a.eval s = v ∧ w.ownsRow base 39 3 v k xs ∧ (∃ g, a.eval x = .slice (some ⟨g, 0, none⟩) 1 c ∧ w.heap[g]? = some (.cells #[.string y.name, .int .i64 y.typ, .int .i64 y.pri] 39 (0, 0))) ∧ k + 1 ≤ maxLen ∧ (k + 1) * 32 ≤ 140737488355328 ∧ base ≤ w.heap.size ∧
      ∀ g' cap' w', w'.ownsRow base 39 3 (.slice (some ⟨g', 0, none⟩) (k + 1) cap') (k + 1) (xs ++ y.cells) → w.grownBy w' v.ownBlock → K (a.put o.dst (.slice (some ⟨g', 0, none⟩) (k + 1) cap')) w') :
    if Region.wanted o (yielded ops a.tmps) = true then Oper.wp Tryd.prog o a w K Q else E := by
  obtain ⟨base, k, xs, y, c, v, hs, hown, ⟨g, hx, hg⟩, hm, hb, hbase, hK⟩ := h
  obtain ⟨i0, hi, hz0, hz1, hz2⟩ := info_parts info39
  refine step_append_lies w hgd s x 45 ho base 39 i0 (.agg #[.string ⟨#[]⟩, .int .i64 0, .int .i64 0]) 3 32 Tryd.underlying45 hi hz0 hz1 hz2 rfl (by decide) v k xs hs hown ⟨g, 0, none⟩ 1 c y.cells hx rfl (cells_in3 hg) (by simp [Opn.cells, Value.oneCell']) (by omega) hm hb hbase _ rfl ?_
  intro g' cap' w' h1 h2 _ _
  exact hK g' cap' w' h1 h2
/-- A slice's cells, a value each. -/
theorem cells_fifteen {W : World} {b : Nat} {cs : Array Value} {t : TypeId} (h : W.heap[b]? = some (.cells cs t (0, 0))) (k : Nat) : W.cell? ⟨b, k, none⟩ = cs[k]? := by simp [World.cell?, h]
def pris : Array Value := #[.int .i64 1200, .int .i64 1200, .int .i64 1100, .int .i64 1050, .int .i64 1000, .int .i64 900, .int .i64 760, .int .i64 700, .int .i64 500, .int .i64 450, .int .i64 400, .int .i64 200, .int .i64 200, .int .i64 200, .int .i64 200]
def kins : Array Value := #[.int .i64 3, .int .i64 1, .int .i64 4, .int .i64 4, .int .i64 4, .int .i64 2, .int .i64 5, .int .i64 3, .int .i64 5, .int .i64 3, .int .i64 5, .int .i64 3, .int .i64 4, .int .i64 2, .int .i64 4]
def rowsV : Array Value := (rws.map fun r => Value.string r.2.2).toArray
theorem tab_pris : ∀ k, k < 15 → pris[k]? = some (.int .i64 (row k).1) := by
  intro k hk
  rcases (show k = 0 ∨ k = 1 ∨ k = 2 ∨ k = 3 ∨ k = 4 ∨ k = 5 ∨ k = 6 ∨ k = 7 ∨ k = 8 ∨ k = 9 ∨ k = 10 ∨ k = 11 ∨ k = 12 ∨ k = 13 ∨ k = 14 by omega) with rfl | rfl | rfl | rfl | rfl | rfl | rfl | rfl | rfl | rfl | rfl | rfl | rfl | rfl | rfl <;> rfl
theorem tab_kins : ∀ k, k < 15 → kins[k]? = some (.int .i64 (row k).2.1) := by
  intro k hk
  rcases (show k = 0 ∨ k = 1 ∨ k = 2 ∨ k = 3 ∨ k = 4 ∨ k = 5 ∨ k = 6 ∨ k = 7 ∨ k = 8 ∨ k = 9 ∨ k = 10 ∨ k = 11 ∨ k = 12 ∨ k = 13 ∨ k = 14 by omega) with rfl | rfl | rfl | rfl | rfl | rfl | rfl | rfl | rfl | rfl | rfl | rfl | rfl | rfl | rfl <;> rfl
theorem tab_rows : ∀ k, k < 15 → rowsV[k]? = some (.string (row k).2.2) := by
  intro k hk
  rcases (show k = 0 ∨ k = 1 ∨ k = 2 ∨ k = 3 ∨ k = 4 ∨ k = 5 ∨ k = 6 ∨ k = 7 ∨ k = 8 ∨ k = 9 ∨ k = 10 ∨ k = 11 ∨ k = 12 ∨ k = 13 ∨ k = 14 by omega) with rfl | rfl | rfl | rfl | rfl | rfl | rfl | rfl | rfl | rfl | rfl | rfl | rfl | rfl | rfl <;> rfl

theorem wp_world {P : Program} {c : Code} {Q : Exit → Act → World → Prop} {a : Act} {W : World} (W' : World) (h : W' = W) (k : c.wp P Q a W') : c.wp P Q a W := h ▸ k
theorem names_some : ∀ k, k < 15 → 0 < (nms (row k).2.2).length ∧ (nms (row k).2.2).length ≤ 100 ∧ (firstL k).length ≤ 54 := by decide +kernel
theorem four_new (w : World) (o1 o2 o3 o4 : Obj) : let W := (((w.alloc o1).alloc o2).alloc o3).alloc o4
    W.heap[w.heap.size]? = some o1 ∧ W.heap[w.heap.size + 1]? = some o2 ∧ W.heap[w.heap.size + 1 + 1]? = some o3 ∧ W.heap[w.heap.size + 1 + 1 + 1]? = some o4 ∧ W.heap.size = w.heap.size + 1 + 1 + 1 + 1 := by
  have e2 := heap_alloc_new (w.alloc o1) o2
  have e3 := heap_alloc_new ((w.alloc o1).alloc o2) o3
  have e4 := heap_alloc_new (((w.alloc o1).alloc o2).alloc o3) o4
  simp only [World.size_alloc] at e2 e3 e4
  exact ⟨(heap_alloc_old _ _ (by simp; omega)).trans ((heap_alloc_old _ _ (by simp; omega)).trans ((heap_alloc_old _ _ (by simp)).trans (heap_alloc_new w o1))), (heap_alloc_old _ _ (by simp)).trans ((heap_alloc_old _ _ (by simp)).trans e2), (heap_alloc_old _ _ (by simp)).trans e3, e4, by simp⟩
/-- The table while it is filled. -/
structure Filled (wr : World) (b : Nat) (L : List Opn) : Prop where
  ex : ∃ v, Boxed wr b 71 v ∧ wr.ownsRow (b + 1) 39 3 v L.length (rowOf L)
theorem rowL_length (k : Nat) : (rowL k).length = (nms (row k).2.2).length := List.length_map _
set_option maxRecDepth 100000 in
set_option maxHeartbeats 8000000 in
theorem refNew (w : World) : Calls Tryd.prog 12 #[] w fun e w' => ∃ b, e = .returned (.pointer (some ⟨b, 0, none⟩)) ∧ w.heap.size ≤ b ∧ RefAt w' b newL ∧ Below w.heap.size w w' := by
  obtain ⟨W, hW⟩ : ∃ W, W = (((w.alloc (.cells pris 3)).alloc (.cells kins 3)).alloc (.cells rowsV 9)).alloc (.cells #[.slice none 0 0] 71) := ⟨_, rfl⟩
  go_enter Tryd.func12, Tryd.ntmps12
  go_wp2
  refine wp_world W (hW.trans (by kernel_rfl)) ?_
  obtain ⟨b, hb⟩ : ∃ b, b = w.heap.size + 1 + 1 + 1 := ⟨_, rfl⟩
  rw [← hb]
  obtain ⟨h0, h1, h2, h3, hs⟩ := four_new w (.cells pris 3) (.cells kins 3) (.cells rowsV 9) (.cells #[.slice none 0 0] 71)
  rw [← hW] at h0 h1 h2 h3 hs
  rw [← hb] at h3 hs
  have HW := hid (show Below w.heap.size w W by rw [hW]; exact ((((Below.refl _ _).alloc (Nat.le_refl _) _).alloc (by simp) _).alloc (by simp; omega) _).alloc (by simp; omega) _)
  have F0 := hid (Filled.mk (L := firstL 0) ⟨_, h3, World.ownsRow_nil W (b + 1) 39 3⟩)
  have P0 := hid h0
  have P1 := hid h1
  have P2 := hid h2
  have hwb : w.heap.size + 2 < b := by omega
  clear hW h0 h1 h2 h3 hb
  go_loopw [5] (fun i wr => ∃ k : Nat, k ≤ 15 ∧ i = .int .i64 (k : Int) ∧ Hid (Filled wr b (firstL k)) ∧ Hid (Below b W wr)) (fun i _ => 15 - (intOf i).toNat)
  case atStart => exact ⟨0, by omega, rfl, F0, hid (Below.refl _ _)⟩
  case round =>
    clear F0
    obtain ⟨k, hk, rfl, hF, hBk⟩ := hrel
    have hsz := hBk.out.size
    by_cases hlt : k < 15
    · have a2 := (cells_fifteen ((hBk.out.block _ (by omega)).trans P2.out) k).trans (tab_rows k hlt)
      obtain ⟨n1, n2, n3⟩ := names_some k hlt
      obtain ⟨r1, r2, r3, r4⟩ := row_names k hlt
      have RW := hid (refWords (row k).2.2 (by omega) wr)
      rw [row_words k hlt] at RW
      have RL := rowL_length k
      have HL : Hid (∀ m (h : m < (rowL k).length) (h2 : m < (nms (row k).2.2).length), (rowL k)[m] = ⟨(nms (row k).2.2)[m], (row k).2.1, (row k).1⟩) := hid (fun m h h2 => by simp [rowL])
      have Q0 := hid (fun (W' : World) (hW' : Below b W W') => (cells_fifteen ((hW'.block _ (by omega)).trans P0.out) k).trans (tab_pris k hlt))
      have Q1 := hid (fun (W' : World) (hW' : Below b W W') => (cells_fifteen ((hW'.block _ (by omega)).trans P1.out) k).trans (tab_kins k hlt))
      have HN : Hid (firstL (k + 1) = firstL k ++ rowL k) := hid rfl
      generalize nms (row k).2.2 = ns at *
      generalize rowL k = M at *
      generalize firstL k = L at *
      generalize (row k).1 = pr at *
      generalize (row k).2.1 = kd at *
      generalize (row k).2.2 = txt at *
      clear r1 r2 r3 r4
      go_wp2_with (go_at_call 35; (with_reducible refine RW.out.mono ?_); rintro e w1 ⟨v, rfl, hown, hb1⟩; obtain ⟨g, cap, rfl, hgb, hgl⟩ := World.ownsRow.form hown n1; have HO := hid hown; have B1 := hid hb1; clear hown hb1 RW)
      have hb1s := B1.out.size
      obtain ⟨cs, hg1, hcs⟩ : ∃ cs, w1.heap[g]? = some (.cells cs 9 (0, 0)) ∧ ∀ m (h : m < ns.length), cs[m]? = some (.string ns[m]) := by
        rcases HO.out.2 with ⟨h, _⟩ | ⟨g', cap', cur, h, q1, q2, q3, q4, q5, q6⟩
        · cases h
        · cases h
          refine ⟨cur, q2, fun m hm => ?_⟩
          have h := congrArg (fun l => l[m]?) q6
          simp only [strs, List.getElem?_map, List.getElem?_eq_getElem hm, Option.map_some] at h
          rw [List.getElem?_take, if_pos (by omega), Array.getElem?_toList] at h
          exact h
      have HG := hid (And.intro hg1 hcs)
      have HF1 := hid (show Filled w1 b (L ++ M.take 0) by
        obtain ⟨v, q1, q2⟩ := hF.out.ex
        rw [List.take_zero, List.append_nil]
        exact ⟨v, heap_keep3 q1 B1.out, row_keep q2 B1.out⟩)
      have HB1 := hid (hBk.out.trans (B1.out.mono (by omega)))
      clear hg1 hcs HO hF a2
      go_loopw [7] (fun j wi => ∃ m : Nat, m ≤ ns.length ∧ j = .int .i64 (m : Int) ∧ Hid (Filled wi b (L ++ M.take m)) ∧ Hid (Below b W wi) ∧ Hid (wi.heap[g]? = some (.cells cs 9 (0, 0)))) (fun j _ => ns.length - (intOf j).toNat)
      case atStart => exact ⟨0, by omega, rfl, HF1, HB1, hid HG.out.1⟩
      case round =>
        clear HF1 HB1 hBk hsz B1 hb1s hgl
        obtain ⟨m, hm, rfl, hF, hBi, hG⟩ := hrel
        by_cases hmt : m < ns.length
        · obtain ⟨v, hvb, hvo⟩ := hF.out.ex
          have BX := hid hvb
          have HO := hid hvo
          have c0 := hvb.cell
          have f0 := hvb.frozen
          have c1 := (cells_fifteen hG.out m).trans (HG.out.2 m hmt)
          have c2 := Q1.out wr hBi.out
          have c3 := Q0.out wr hBi.out
          have hsi := hBi.out.size
          have hlM : (L ++ M.take m).length + 1 ≤ 200 := by simp only [List.length_append, List.length_take]; omega
          have HT := hid (show L ++ M.take (m + 1) = (L ++ M.take m) ++ [⟨ns[m], kd, pr⟩] by
            rw [List.take_succ_eq_append_getElem (by omega), HL.out m (by omega) hmt, List.append_assoc])
          generalize ns[m] = nm1 at *
          generalize hT0 : L ++ M.take m = T0 at *
          generalize hT1 : L ++ M.take (m + 1) = T1 at *
          have HT0 := hid hT1
          have hown_ne : ∀ q, v.ownBlock = some q → q ≠ g := by
            rintro q hq rfl
            rcases HO.out.2 with ⟨h, _⟩ | ⟨g', cap', cur, h, q1, q2, _⟩
            · rw [h] at hq; cases hq
            · rw [h] at hq
              cases hq
              rw [hG.out] at q2
              cases q2
          have hnb : ∀ q, v.ownBlock = some q → b + 1 ≤ q := fun q hq => (HO.out.lt q hq).1
          clear hT0 hT1 hvb hvo hF
          have hgb2 : g ≠ b := by rintro rfl; have h := BX.out; rw [Boxed, hG.out] at h; cases h
          have nb : some b ≠ v.ownBlock := fun h => by have := hnb b h.symm; omega
          have ng : some g ≠ v.ownBlock := fun h => hown_ne g h.symm rfl
          have n1 : some (w.heap.size + 1) ≠ v.ownBlock := fun h => by have := hnb _ h.symm; omega
          have n0 : some w.heap.size ≠ v.ownBlock := fun h => by have := hnb _ h.symm; omega
          have hal := ((Below.refl wr.heap.size wr).alloc (Nat.le_refl _) (.cells #[.string nm1, .int .i64 kd, .int .i64 pr] 39)).drew
          have x0 := show (wr.alloc (.cells #[.string nm1, .int .i64 kd, .int .i64 pr] 39)).drew.cell? ⟨b, 0, none⟩ = _ from heap_cell_keep hal c0
          have x1 := show (wr.alloc (.cells #[.string nm1, .int .i64 kd, .int .i64 pr] 39)).drew.cell? ⟨g, m, none⟩ = _ from heap_cell_keep hal c1
          have x2 := show (wr.alloc (.cells #[.string nm1, .int .i64 kd, .int .i64 pr] 39)).drew.cell? ⟨w.heap.size + 1, k, none⟩ = _ from heap_cell_keep hal c2
          have x3 := show (wr.alloc (.cells #[.string nm1, .int .i64 kd, .int .i64 pr] 39)).drew.cell? ⟨w.heap.size, k, none⟩ = _ from heap_cell_keep hal c3
          have HAL := hid (show Boxed (wr.alloc (.cells #[.string nm1, .int .i64 kd, .int .i64 pr] 39)).drew b 71 v from heap_keep3 BX.out hal)
          have HGA := hid (show (wr.alloc (.cells #[.string nm1, .int .i64 kd, .int .i64 pr] 39)).drew.heap[g]? = _ from (hal.block g (lt_of_block hG.out)).trans hG.out)
          have HBA := hid (show Below b W (wr.alloc (.cells #[.string nm1, .int .i64 kd, .int .i64 pr] 39)).drew from (hBi.out.alloc (by omega) _).drew)
          clear hal
          have d0 := show wr.drew.cell? ⟨b, 0, none⟩ = _ from c0
          have d1 := show wr.drew.cell? ⟨g, m, none⟩ = _ from c1
          have d2 := show wr.drew.cell? ⟨w.heap.size + 1, k, none⟩ = _ from c2
          have d3 := show wr.drew.cell? ⟨w.heap.size, k, none⟩ = _ from c3
          go_wp2_with fail
          refine wp_region_held_drew (S := fun w' => w'.cell? ⟨g, m, none⟩ = some (.string nm1) ∧ w'.cell? ⟨w.heap.size + 1, k, none⟩ = some (.int .i64 kd) ∧ w'.cell? ⟨w.heap.size, k, none⟩ = some (.int .i64 pr)) (by kernel_rfl) ⟨d1, d2, d3⟩ (fun hHeld => ?_)
          refine' wpAnyH_take (i := 0) (v := (.pointer (some ⟨b, 0, none⟩))) rfl (by decide +kernel) (by decide +kernel) (by decide +kernel) (fun _ _ _ h => h) (Or.inl ⟨by rfl, ?hy0⟩) (by assumption) ?rest0
          case hy0 => (intro w hSw; (try dsimp only at hSw); go_simp; try with_reducible rfl)
          case' rest0 => (try simp only [Act.put, List.setIfInBounds_toArray, List.set_cons_zero, List.set_cons_succ])
          refine' wpAnyH_take (i := 1) (v := (.pointer (some ⟨b, 0, none⟩))) rfl (by decide +kernel) (by decide +kernel) (by decide +kernel) (fun _ _ _ h => h) (Or.inl ⟨by rfl, ?hy1⟩) (by assumption) ?rest1
          case hy1 => (intro w hSw; (try dsimp only at hSw); go_simp; try with_reducible rfl)
          case' rest1 => (try simp only [Act.put, List.setIfInBounds_toArray, List.set_cons_zero, List.set_cons_succ])
          refine' wpAnyH_take (i := 2) (v := (.pointer (some ⟨b, 0, none⟩))) rfl (by decide +kernel) (by decide +kernel) (by decide +kernel) (fun _ _ _ h => h) (Or.inl ⟨by rfl, ?hy2⟩) (by assumption) ?rest2
          case hy2 => (intro w hSw; (try dsimp only at hSw); go_simp; try with_reducible rfl)
          case' rest2 => (try simp only [Act.put, List.setIfInBounds_toArray, List.set_cons_zero, List.set_cons_succ])
          refine' wpAnyH_take (i := 3) (v := (.pointer (some ⟨b, 0, none⟩))) rfl (by decide +kernel) (by decide +kernel) (by decide +kernel) (fun _ _ _ h => h) (Or.inl ⟨by rfl, ?hy3⟩) (by assumption) ?rest3
          case hy3 => (intro w hSw; (try dsimp only at hSw); go_simp; try with_reducible rfl)
          case' rest3 => (try simp only [Act.put, List.setIfInBounds_toArray, List.set_cons_zero, List.set_cons_succ])
          refine' wpAnyH_take (i := 5) (v := (.slice (some ⟨g, 0, none⟩) ns.length cap)) rfl (by decide +kernel) (by decide +kernel) (by decide +kernel) (fun _ _ _ h => h) (Or.inl ⟨by rfl, ?hy5⟩) (by assumption) ?rest5
          case hy5 => (intro w hSw; (try dsimp only at hSw); go_simp; try with_reducible rfl)
          case' rest5 => (try simp only [Act.put, List.setIfInBounds_toArray, List.set_cons_zero, List.set_cons_succ])
          refine' wpAnyH_take (i := 6) (v := (.int .i64 (m : Int))) rfl (by decide +kernel) (by decide +kernel) (by decide +kernel) (fun _ _ _ h => h) (Or.inl ⟨by rfl, ?hy6⟩) (by assumption) ?rest6
          case hy6 => (intro w hSw; (try dsimp only at hSw); go_simp; try with_reducible rfl)
          case' rest6 => (try simp only [Act.put, List.setIfInBounds_toArray, List.set_cons_zero, List.set_cons_succ])
          refine' wpAnyH_take (i := 7) (v := (.pointer (some ⟨g, m, none⟩))) rfl (by decide +kernel) (by decide +kernel) (by decide +kernel) (fun _ _ _ h => h) (Or.inl ⟨by rfl, ?hy7⟩) (by assumption) ?rest7
          case hy7 => (intro w hSw; (try dsimp only at hSw); go_simp; try with_reducible rfl)
          case' rest7 => (try simp only [Act.put, List.setIfInBounds_toArray, List.set_cons_zero, List.set_cons_succ])
          refine' wpAnyH_take (i := 8) (v := (.string nm1)) rfl (by decide +kernel) (by decide +kernel) (by decide +kernel) (fun _ _ _ h => h) (Or.inl ⟨by rfl, ?hy8⟩) (by assumption) ?rest8
          case hy8 => (intro w hSw; (try dsimp only at hSw); go_simp; try with_reducible rfl)
          case' rest8 => (try simp only [Act.put, List.setIfInBounds_toArray, List.set_cons_zero, List.set_cons_succ])
          refine' wpAnyH_take (i := 9) (v := (.slice (some ⟨w.heap.size + 1, 0, none⟩) 15 15)) rfl (by decide +kernel) (by decide +kernel) (by decide +kernel) (fun _ _ _ h => h) (Or.inl ⟨by rfl, ?hy9⟩) (by assumption) ?rest9
          case hy9 => (intro w hSw; (try dsimp only at hSw); go_simp; try with_reducible rfl)
          case' rest9 => (try simp only [Act.put, List.setIfInBounds_toArray, List.set_cons_zero, List.set_cons_succ])
          refine' wpAnyH_take (i := 10) (v := (.int .i64 (k : Int))) rfl (by decide +kernel) (by decide +kernel) (by decide +kernel) (fun _ _ _ h => h) (Or.inl ⟨by rfl, ?hy10⟩) (by assumption) ?rest10
          case hy10 => (intro w hSw; (try dsimp only at hSw); go_simp; try with_reducible rfl)
          case' rest10 => (try simp only [Act.put, List.setIfInBounds_toArray, List.set_cons_zero, List.set_cons_succ])
          refine' wpAnyH_take (i := 11) (v := (.pointer (some ⟨w.heap.size + 1, k, none⟩))) rfl (by decide +kernel) (by decide +kernel) (by decide +kernel) (fun _ _ _ h => h) (Or.inl ⟨by rfl, ?hy11⟩) (by assumption) ?rest11
          case hy11 => (intro w hSw; (try dsimp only at hSw); go_simp; try with_reducible rfl)
          case' rest11 => (try simp only [Act.put, List.setIfInBounds_toArray, List.set_cons_zero, List.set_cons_succ])
          refine' wpAnyH_take (i := 12) (v := (.int .i64 kd)) rfl (by decide +kernel) (by decide +kernel) (by decide +kernel) (fun _ _ _ h => h) (Or.inl ⟨by rfl, ?hy12⟩) (by assumption) ?rest12
          case hy12 => (intro w hSw; (try dsimp only at hSw); go_simp; try with_reducible rfl)
          case' rest12 => (try simp only [Act.put, List.setIfInBounds_toArray, List.set_cons_zero, List.set_cons_succ])
          refine' wpAnyH_take (i := 13) (v := (.slice (some ⟨w.heap.size, 0, none⟩) 15 15)) rfl (by decide +kernel) (by decide +kernel) (by decide +kernel) (fun _ _ _ h => h) (Or.inl ⟨by rfl, ?hy13⟩) (by assumption) ?rest13
          case hy13 => (intro w hSw; (try dsimp only at hSw); go_simp; try with_reducible rfl)
          case' rest13 => (try simp only [Act.put, List.setIfInBounds_toArray, List.set_cons_zero, List.set_cons_succ])
          refine' wpAnyH_take (i := 14) (v := (.int .i64 (k : Int))) rfl (by decide +kernel) (by decide +kernel) (by decide +kernel) (fun _ _ _ h => h) (Or.inl ⟨by rfl, ?hy14⟩) (by assumption) ?rest14
          case hy14 => (intro w hSw; (try dsimp only at hSw); go_simp; try with_reducible rfl)
          case' rest14 => (try simp only [Act.put, List.setIfInBounds_toArray, List.set_cons_zero, List.set_cons_succ])
          refine' wpAnyH_take (i := 15) (v := (.pointer (some ⟨w.heap.size, k, none⟩))) rfl (by decide +kernel) (by decide +kernel) (by decide +kernel) (fun _ _ _ h => h) (Or.inl ⟨by rfl, ?hy15⟩) (by assumption) ?rest15
          case hy15 => (intro w hSw; (try dsimp only at hSw); go_simp; try with_reducible rfl)
          case' rest15 => (try simp only [Act.put, List.setIfInBounds_toArray, List.set_cons_zero, List.set_cons_succ])
          refine' wpAnyH_take (i := 16) (v := (.int .i64 pr)) rfl (by decide +kernel) (by decide +kernel) (by decide +kernel) (fun _ _ _ h => h) (Or.inl ⟨by rfl, ?hy16⟩) (by assumption) ?rest16
          case hy16 => (intro w hSw; (try dsimp only at hSw); go_simp; try with_reducible rfl)
          case' rest16 => (try simp only [Act.put, List.setIfInBounds_toArray, List.set_cons_zero, List.set_cons_succ])
          refine' wpAnyH_take (i := 17) (v := (.agg #[.string nm1, .int .i64 kd, .int .i64 pr])) rfl (by decide +kernel) (by decide +kernel) (by decide +kernel) (fun _ _ _ h => h) (Or.inl ⟨by rfl, ?hy17⟩) (by assumption) ?rest17
          case hy17 => (intro w hSw; (try dsimp only at hSw); go_simp; try with_reducible rfl)
          case' rest17 => (try simp only [Act.put, List.setIfInBounds_toArray, List.set_cons_zero, List.set_cons_succ])
          refine wpAnyH_ready (rs := [4, 18]) (by decide +kernel) (by simp) ?_
          refine AllReadyH.cons rfl (fun K hK => ?_) ?_
          · go_simp
            refine hK.out _ _ ⟨d1, d2, d3⟩ (fun hHeld => ?_)
            clear hK K
            (try simp only [Act.put, List.setIfInBounds_toArray, List.set_cons_zero, List.set_cons_succ])
            refine wpAnyH_ready (rs := [18]) (by decide +kernel) (by simp) ?_
            refine AllReadyH.cons rfl (fun K hK => ?_) AllReadyH.nil
            go_simp
            refine hK.out _ _ ⟨x1, x2, x3⟩ (fun hHeld => ?_)
            clear hK K
            (try simp only [Act.put, List.setIfInBounds_toArray, List.set_cons_zero, List.set_cons_succ])
            refine wpAnyH_ready (rs := [19]) (by decide +kernel) (by simp) ?_
            refine AllReadyH.cons rfl (fun K hK => ?_) AllReadyH.nil
            refine step_app3 rfl _ _ rfl ?_; refine ⟨b + 1, _, _, ⟨nm1, kd, pr⟩, 1, v, by simp [Act.eval, Act.put], show World.ownsRow (wr.alloc (.cells #[.string nm1, .int .i64 kd, .int .i64 pr] 39)).drew _ _ _ _ _ _ from World.ownsRow.alloc HO.out _, ⟨wr.heap.size, by simp [Act.eval, Act.put], show (wr.alloc _).drew.heap[wr.heap.size]? = _ from heap_alloc_new wr _⟩, by unfold maxLen; omega, by omega, by simp; omega, ?_⟩; intro g' cap' w5 hown' hgrow; have HO5 := hid hown'; have e0 := hgrow.cell x0 nb; have e1 := hgrow.cell x1 ng; have e2 := hgrow.cell x2 n1; have e3 := hgrow.cell x3 n0; have BX5 := hid (show Boxed w5 b 71 v from (hgrow.block b HAL.out.lt nb).trans HAL.out); have f5 := BX5.out.frozen; have Z1 := fun u => (World.cell?_of_block (Below.heap_setCell w5 ⟨b, 0, none⟩ u g (fun q => hgb2 q))).trans e1; have Z2 := fun u => (World.cell?_of_block (Below.heap_setCell w5 ⟨b, 0, none⟩ u (w.heap.size + 1) (fun q => by simp at q; omega))).trans e2; have Z3 := fun u => (World.cell?_of_block (Below.heap_setCell w5 ⟨b, 0, none⟩ u w.heap.size (fun q => by simp at q; omega))).trans e3; have HG5 := hid ((hgrow.block g (lt_of_block HGA.out) ng).trans HGA.out); have HB5 := hid (show Below b W w5 from HBA.out.grown hgrow (by simp; omega) (fun q e => by have := hnb q e; omega)); clear hown' hgrow
            refine hK.out _ _ ⟨e1, e2, e3⟩ (fun hHeld => ?_)
            clear hK K
            (try simp only [Act.put, List.setIfInBounds_toArray, List.set_cons_zero, List.set_cons_succ])
            refine' wpAnyH_take (i := 20) (v := (.pointer (some ⟨b, 0, none⟩))) rfl (by decide +kernel) (by decide +kernel) (by decide +kernel) (fun _ _ _ h => h) (Or.inl ⟨by rfl, ?hya1⟩) (by assumption) ?resta1
            case hya1 => (intro w hSw; (try dsimp only at hSw); go_simp; try with_reducible rfl)
            case' resta1 => (try simp only [Act.put, List.setIfInBounds_toArray, List.set_cons_zero, List.set_cons_succ])
            refine' wpAnyH_take (i := 21) (v := (.pointer (some ⟨b, 0, none⟩))) rfl (by decide +kernel) (by decide +kernel) (by decide +kernel) (fun _ _ _ h => h) (Or.inl ⟨by rfl, ?hyb1⟩) (by assumption) ?restb1
            case hyb1 => (intro w hSw; (try dsimp only at hSw); go_simp; try with_reducible rfl)
            case' restb1 => (try simp only [Act.put, List.setIfInBounds_toArray, List.set_cons_zero, List.set_cons_succ])
            refine wpAnyH_ready (rs := [22]) (by decide +kernel) (by simp) ?_
            refine AllReadyH.cons rfl (fun K hK => ?_) AllReadyH.nil
            go_simp
            refine hK.out _ _ ⟨Z1 _, Z2 _, Z3 _⟩ (fun hHeld => ?_)
            clear hK K
            (try simp only [Act.put, List.setIfInBounds_toArray, List.set_cons_zero, List.set_cons_succ])
            refine wpAnyH_done (by kernel_rfl) ?_ _
            go_wp2
            go_roundw
            case rel => exact ⟨m + 1, by omega, by go_num, hid (Filled.mk ⟨_, BX5.out.set _, by rw [HT0.out, HT.out, rowOf_snoc, List.length_append]; exact HO5.out.kept (grownBy_setCell' w5 b _) (.inr (fun h => by have := (HO5.out.lt _ h).1; omega))⟩), hid (HB5.out.setCell (Nat.le_refl _) _), hid ((heap_setCell_other w5 ⟨b, 0, none⟩ g _ hgb2).trans HG5.out)⟩
            case measure => simp [intOf]; omega
          refine AllReadyH.cons rfl (fun K hK => ?_) AllReadyH.nil
          go_simp
          refine hK.out _ _ ⟨x1, x2, x3⟩ (fun hHeld => ?_)
          clear hK K
          (try simp only [Act.put, List.setIfInBounds_toArray, List.set_cons_zero, List.set_cons_succ])
          refine wpAnyH_ready (rs := [4]) (by decide +kernel) (by simp) ?_
          refine AllReadyH.cons rfl (fun K hK => ?_) AllReadyH.nil
          go_simp
          refine hK.out _ _ ⟨x1, x2, x3⟩ (fun hHeld => ?_)
          clear hK K
          (try simp only [Act.put, List.setIfInBounds_toArray, List.set_cons_zero, List.set_cons_succ])
          refine wpAnyH_ready (rs := [19]) (by decide +kernel) (by simp) ?_
          refine AllReadyH.cons rfl (fun K hK => ?_) AllReadyH.nil
          refine step_app3 rfl _ _ rfl ?_; refine ⟨b + 1, _, _, ⟨nm1, kd, pr⟩, 1, v, by simp [Act.eval, Act.put], show World.ownsRow (wr.alloc (.cells #[.string nm1, .int .i64 kd, .int .i64 pr] 39)).drew _ _ _ _ _ _ from World.ownsRow.alloc HO.out _, ⟨wr.heap.size, by simp [Act.eval, Act.put], show (wr.alloc _).drew.heap[wr.heap.size]? = _ from heap_alloc_new wr _⟩, by unfold maxLen; omega, by omega, by simp; omega, ?_⟩; intro g' cap' w5 hown' hgrow; have HO5 := hid hown'; have e0 := hgrow.cell x0 nb; have e1 := hgrow.cell x1 ng; have e2 := hgrow.cell x2 n1; have e3 := hgrow.cell x3 n0; have BX5 := hid (show Boxed w5 b 71 v from (hgrow.block b HAL.out.lt nb).trans HAL.out); have f5 := BX5.out.frozen; have Z1 := fun u => (World.cell?_of_block (Below.heap_setCell w5 ⟨b, 0, none⟩ u g (fun q => hgb2 q))).trans e1; have Z2 := fun u => (World.cell?_of_block (Below.heap_setCell w5 ⟨b, 0, none⟩ u (w.heap.size + 1) (fun q => by simp at q; omega))).trans e2; have Z3 := fun u => (World.cell?_of_block (Below.heap_setCell w5 ⟨b, 0, none⟩ u w.heap.size (fun q => by simp at q; omega))).trans e3; have HG5 := hid ((hgrow.block g (lt_of_block HGA.out) ng).trans HGA.out); have HB5 := hid (show Below b W w5 from HBA.out.grown hgrow (by simp; omega) (fun q e => by have := hnb q e; omega)); clear hown' hgrow
          refine hK.out _ _ ⟨e1, e2, e3⟩ (fun hHeld => ?_)
          clear hK K
          (try simp only [Act.put, List.setIfInBounds_toArray, List.set_cons_zero, List.set_cons_succ])
          refine' wpAnyH_take (i := 20) (v := (.pointer (some ⟨b, 0, none⟩))) rfl (by decide +kernel) (by decide +kernel) (by decide +kernel) (fun _ _ _ h => h) (Or.inl ⟨by rfl, ?hya2⟩) (by assumption) ?resta2
          case hya2 => (intro w hSw; (try dsimp only at hSw); go_simp; try with_reducible rfl)
          case' resta2 => (try simp only [Act.put, List.setIfInBounds_toArray, List.set_cons_zero, List.set_cons_succ])
          refine' wpAnyH_take (i := 21) (v := (.pointer (some ⟨b, 0, none⟩))) rfl (by decide +kernel) (by decide +kernel) (by decide +kernel) (fun _ _ _ h => h) (Or.inl ⟨by rfl, ?hyb2⟩) (by assumption) ?restb2
          case hyb2 => (intro w hSw; (try dsimp only at hSw); go_simp; try with_reducible rfl)
          case' restb2 => (try simp only [Act.put, List.setIfInBounds_toArray, List.set_cons_zero, List.set_cons_succ])
          refine wpAnyH_ready (rs := [22]) (by decide +kernel) (by simp) ?_
          refine AllReadyH.cons rfl (fun K hK => ?_) AllReadyH.nil
          go_simp
          refine hK.out _ _ ⟨Z1 _, Z2 _, Z3 _⟩ (fun hHeld => ?_)
          clear hK K
          (try simp only [Act.put, List.setIfInBounds_toArray, List.set_cons_zero, List.set_cons_succ])
          refine wpAnyH_done (by kernel_rfl) ?_ _
          go_wp2
          go_roundw
          case rel => exact ⟨m + 1, by omega, by go_num, hid (Filled.mk ⟨_, BX5.out.set _, by rw [HT0.out, HT.out, rowOf_snoc, List.length_append]; exact HO5.out.kept (grownBy_setCell' w5 b _) (.inr (fun h => by have := (HO5.out.lt _ h).1; omega))⟩), hid (HB5.out.setCell (Nat.le_refl _) _), hid ((heap_setCell_other w5 ⟨b, 0, none⟩ g _ hgb2).trans HG5.out)⟩
          case measure => simp [intOf]; omega
        · obtain rfl : m = ns.length := by omega
          have HF2 := hid (show Filled wr b (firstL (k + 1)) by rw [HN.out]; have h := hF.out; rwa [List.take_of_length_le (by omega)] at h)
          go_wp2
          go_roundw
          case rel => exact ⟨k + 1, by omega, by go_num, HF2, hBi⟩
          case measure => simp [intOf]; omega
    · obtain rfl : k = 15 := by omega
      go_wp2
      go_ret
      obtain ⟨v, hv1, hv2⟩ := hF.out.ex
      exact ⟨b, rfl, by omega, ⟨v, hv1, ownsRow_base hv2 (Nat.zero_le _)⟩, HW.out.trans (hBk.out.mono (by omega))⟩
end Go.Proofs.YtnbhmgonijlplaaDoor
