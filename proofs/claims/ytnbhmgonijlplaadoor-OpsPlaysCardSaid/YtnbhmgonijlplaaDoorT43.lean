/- The document's answer on tables of operators: words, of any text. No condition but those that the theorem names. -/
import Derived.Test.YtnbhmgonijlplaaDoorT9
import Derived.Test.YtnbhmgonijlplaaDoorT37
namespace Go.Proofs.YtnbhmgonijlplaaDoor
open Go.RowKit Go.Joins

/-- What words has after some rounds: the words, and where the next one begins. -/
def wst (s : ByteArray) : Nat → List ByteArray × Nat
  | 0 => ([], 0)
  | k + 1 => if k = s.size ∨ s.data[k]? = some 32 then (if (wst s k).2 < k then (wst s k).1 ++ [s.extract (wst s k).2 k] else (wst s k).1, k + 1) else wst s k
theorem wst_le (s : ByteArray) : ∀ k, (wst s k).2 ≤ k ∧ (wst s k).1.length ≤ k
  | 0 => ⟨Nat.le_refl _, Nat.le_refl _⟩
  | k + 1 => by
    obtain ⟨h1, h2⟩ := wst_le s k
    unfold wst
    split
    · split
      · simp only [List.length_append, List.length_cons, List.length_nil]; omega
      · simp only; omega
    · omega
def wordsL (s : ByteArray) : List ByteArray := (wst s (s.size + 1)).1
def strs (l : List ByteArray) : List Value := l.map Value.string
theorem row_words : ∀ k, k < 15 → wordsL (row k).2.2 = nms (row k).2.2 := by decide +kernel
theorem wpList_app1 {w : World} {ops : Array Oper} {rest : List Oper} {o : Oper} {a : Act} {Q : Exit → Act → World → Prop} (hgd : o.guard = none) (s x : Operand)
    (ho : o.op = .call { callee := .builtin .append, args := #[s, x], argTypes := #[63, 63] })
    (h : ∃ (base k : Nat) (xs : List Value) (y : ByteArray) (c : Nat) (v : Value), a.eval s = v ∧ w.ownsRow base 9 1 v k xs ∧ (∃ g, a.eval x = .slice (some ⟨g, 0, none⟩) 1 c ∧ w.heap[g]? = some (.cells #[.string y] 9 (0, 0))) ∧ k + 1 ≤ maxLen ∧ (k + 1) * 16 ≤ 140737488355328 ∧ base ≤ w.heap.size ∧
      ∀ v' w', w'.ownsRow base 9 1 v' (k + 1) (xs ++ [.string y]) → w.grownBy w' v.ownBlock → wpList Tryd.prog ops Q rest (a.put o.dst v') w') : wpList Tryd.prog ops Q (o :: rest) a w := by
  obtain ⟨base, k, xs, y, c, v, hs, hown, ⟨g, hx, hg⟩, hm, hb, hbase, hK⟩ := h
  obtain ⟨i0, hi, hz0, hz1, hz2⟩ := info_parts info9
  refine wpList_append_own w hgd s x 63 ho base 9 i0 (.string ByteArray.empty) 1 16 Tryd.underlying63 hi hz0 hz1 hz2 rfl (by decide) v k xs hs hown ⟨g, 0, none⟩ 1 c [.string y] hx rfl ?_ (by intro u hu; simp at hu; subst hu; rfl) hm hb hbase ?_
  · intro j u hj
    match j, hj with
    | 0, hj => simp at hj; subst hj; simp [Addr.add, World.cell?, hg]
  · intro v' w' h1 h2 _
    exact hK v' w' h1 h2

set_option maxRecDepth 100000 in
set_option maxHeartbeats 4000000 in
theorem refWords (s : ByteArray) (hs : s.size ≤ 100000) (w : World) : Calls Tryd.prog 35 #[.string s] w fun e w' => ∃ v, e = .returned v ∧ w'.ownsRow w.heap.size 9 1 v (wordsL s).length (strs (wordsL s)) ∧ Below w.heap.size w w' := by
  go_enter Tryd.func35, Tryd.ntmps35
  go_wp2
  go_loopw [3, 4, 5] (fun o f i wr => ∃ k : Nat, k ≤ s.size + 1 ∧ i = .int .i64 (k : Int) ∧ f = .int .i64 ((wst s k).2 : Int) ∧ Hid (wr.ownsRow w.heap.size 9 1 o (wst s k).1.length (strs (wst s k).1)) ∧ Hid (Below w.heap.size w wr)) (fun _ _ i _ => s.size + 1 - (intOf i).toNat)
  case atStart => exact ⟨0, by omega, rfl, rfl, hid (World.ownsRow_nil _ _ _ _), hid (Below.refl _ _)⟩
  case round =>
    obtain ⟨k, hk, rfl, rfl, hO, hB⟩ := hrel
    have hle := wst_le s k
    by_cases hlt : k < s.size + 1
    · have HST := hid (show wst s (k + 1) = if k = s.size ∨ s.data[k]? = some 32 then (if (wst s k).2 < k then (wst s k).1 ++ [s.extract (wst s k).2 k] else (wst s k).1, k + 1) else wst s k from rfl)
      obtain ⟨l, f, hlf⟩ : ∃ l f, wst s k = (l, f) := ⟨_, _, rfl⟩
      rw [hlf] at HST hle hO
      rw [hlf]
      clear hlf
      simp only at HST hle hO ⊢
      by_cases hke : k = s.size
      · subst hke
        have hc : s.size = s.size ∨ s.data[s.size]? = some 32 := .inl rfl
        by_cases hf : f < s.size
        · have HW := hid (HST.out.trans (by rw [if_pos hc, if_pos hf]))
          clear hc HST
          have hsl : ∀ w, (Instr.slice 9 (.string s) (some (.int .i64 (f : Int))) (some (.int .i64 ((s.size : Nat) : Int))) none).run Tryd.prog w = .ok (.string (s.extract f s.size)) w := fun w => run_slice_string w 9 s .i64 .i64 f s.size Tryd.underlying9 (by omega) (by omega) (by omega)
          generalize s.extract f s.size = y at *
          go_wp2_with (at_builtin; refine wpList_app1 rfl _ _ rfl ?_; refine ⟨w.heap.size, _, _, y, 1, _, rfl, World.ownsRow.alloc hO.out _, ⟨wr.heap.size, rfl, heap_alloc_new wr _⟩, by unfold maxLen; omega, by omega, by have := hB.out.size; simp; omega, ?_⟩; intro v' w5 hown' hgrow; have HO5 := hid hown'; have HB5 := hid ((hB.out.alloc hB.out.size _).grown hgrow (by have := hB.out.size; simp; omega) (fun q e => (hO.out.lt q e).1)); clear hown' hgrow)
          go_roundw
          case rel => exact ⟨s.size + 1, by omega, by go_num, by rw [HW.out]; simp, by rw [HW.out]; simpa [strs] using HO5, HB5⟩
          case measure => simp [intOf] <;> omega
        · have HW := hid (HST.out.trans (by rw [if_pos hc, if_neg hf]))
          clear hc HST
          go_wp2
          go_roundw
          case rel => exact ⟨s.size + 1, by omega, by go_num, by rw [HW.out]; simp, by rw [HW.out]; exact hO, hB⟩
          case measure => simp [intOf] <;> omega
      · have hks : k < s.size := by omega
        have ix : ∀ w, (Instr.index 9 (.string s) (.int .i64 (k : Int))).run Tryd.prog w = .ok (.int .u8 ((s.data[k]'hks).toNat : Int)) w := fun w => by
          rw [run_index_string w 9 s .i64 k Tryd.underlying9, dif_pos ⟨by omega, by omega⟩]
          rfl
        have hg : s.data[k]? = some (s.data[k]'hks) := Array.getElem?_eq_getElem hks
        rw [hg] at HST
        clear hg
        generalize (s.data[k]'hks) = bv at *
        by_cases hb : bv.toNat = 32
        · have hc : k = s.size ∨ some bv = some 32 := .inr (congrArg some (UInt8.toNat_inj.1 hb))
          by_cases hf : f < k
          · have HW := hid (HST.out.trans (by rw [if_pos hc, if_pos hf]))
            clear hc HST
            have hsl : ∀ w, (Instr.slice 9 (.string s) (some (.int .i64 (f : Int))) (some (.int .i64 (k : Int))) none).run Tryd.prog w = .ok (.string (s.extract f k)) w := fun w => run_slice_string w 9 s .i64 .i64 f k Tryd.underlying9 (by omega) (by omega) (by omega)
            generalize s.extract f k = y at *
            go_wp2_with (at_builtin; refine wpList_app1 rfl _ _ rfl ?_; refine ⟨w.heap.size, _, _, y, 1, _, rfl, World.ownsRow.alloc hO.out _, ⟨wr.heap.size, rfl, heap_alloc_new wr _⟩, by unfold maxLen; omega, by omega, by have := hB.out.size; simp; omega, ?_⟩; intro v' w5 hown' hgrow; have HO5 := hid hown'; have HB5 := hid ((hB.out.alloc hB.out.size _).grown hgrow (by have := hB.out.size; simp; omega) (fun q e => (hO.out.lt q e).1)); clear hown' hgrow)
            go_roundw
            case rel => exact ⟨k + 1, by omega, by go_num, by rw [HW.out]; simp, by rw [HW.out]; simpa [strs] using HO5, HB5⟩
            case measure => simp [intOf]; omega
          · have HW := hid (HST.out.trans (by rw [if_pos hc, if_neg hf]))
            clear hc HST
            go_wp2
            go_roundw
            case rel => exact ⟨k + 1, by omega, by go_num, by rw [HW.out]; simp, by rw [HW.out]; exact hO, hB⟩
            case measure => simp [intOf]; omega
        · have hc : ¬ (k = s.size ∨ some bv = some 32) := by
            rintro (h | h)
            · exact hke h
            · exact hb (by rw [Option.some.inj h]; rfl)
          have HW := hid (HST.out.trans (by rw [if_neg hc]))
          clear hc HST
          generalize bv.toNat = nb at *
          have hk3 : ((k : Int) == (s.size : Int)) = false := beq_eq_false_iff_ne.2 (by omega)
          have hb3 : ((nb : Int) == 32) = false := beq_eq_false_iff_ne.2 (by omega)
          go_wp2
          go_roundw
          case rel => exact ⟨k + 1, by omega, by go_num, by rw [HW.out], by rw [HW.out]; exact hO, hB⟩
          case measure => simp [intOf]; omega
    · obtain rfl : k = s.size + 1 := by omega
      go_wp2
      go_ret
      exact ⟨_, rfl, hO.out, hB.out⟩
end Go.Proofs.YtnbhmgonijlplaaDoor
