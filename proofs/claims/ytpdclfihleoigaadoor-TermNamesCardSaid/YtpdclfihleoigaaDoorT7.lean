/- Walks: numbering and the function that it answers. No condition but those that each theorem names. -/
import Derived.Test.YtpdclfihleoigaaDoorT6
import Derived.Maps.OwnOps
import Derived.Maps.OwnSet
namespace Go.Proofs.YtpdclfihleoigaaDoor
open Go.RowKit Go.Maps

theorem intKey : Keyed Tryd.prog 3 := int_keyed Tryd.underlying3
theorem zeroInt (w : World) : (zeroValue 3).run Tryd.prog w = .ok (.int .i64 0) w := by kernel_rfl
/-- The numbers that were given, in a map: each one's place. -/
def Nums (w : World) (b : Nat) (S : List Int) : Prop :=
  ∃ D : DataW Unit, w.ownsMap Tryd.prog 3 (plainElem Tryd.prog 3) b S.length D ∧ Tidy D ∧ Maps.size D = S.length ∧ ∀ n : Int, Maps.has D (.int .i64 n) = decide (n ∈ S) ∧ ∀ z, D.atKey (.int .i64 n) z = if n ∈ S then .lit (.int .i64 (S.idxOf n : Nat)) else z
/-- A number is met. -/
def addN (S : List Int) (n : Int) : List Int := if n ∈ S then S else S ++ [n]
theorem addN_length (S : List Int) (n : Int) : (addN S n).length ≤ S.length + 1 := by unfold addN; split <;> simp
theorem Nums.lt {w : World} {b : Nat} {S : List Int} (h : Nums w b S) : b < w.heap.size := by obtain ⟨D, h1, _⟩ := h; exact h1.lt
theorem Nums.made (w : World) : Nums (w.alloc (.map #[] 0)) w.heap.size [] :=
  ⟨.map [], World.ownsMap_made _ _ _ _, tidy_empty, rfl, fun n => ⟨by simp [Maps.has], fun z => by rw [if_neg (by simp)]; rfl⟩⟩
theorem Nums.kept {w w' : World} {b : Nat} {S : List Int} {row : Option Nat} (h : Nums w b S) (hg : w.grownBy w' row) (hne : some b ≠ row) : Nums w' b S := by
  obtain ⟨D, h1, h2⟩ := h; exact ⟨D, h1.kept hg hne, h2⟩
theorem Nums.keep {w w' : World} {b : Nat} {S : List Int} (h : Nums w b S) (hb : Below w.heap.size w w') : Nums w' b S :=
  h.kept (row := .none) ⟨hb.os, hb.tape, hb.output, hb.size, fun k hk _ => hb.block k hk⟩ (by simp)
theorem key_ne {n m : Int} (h : m ≠ n) : (Lit.int .i64 m) ≠ .int .i64 n := fun e => h (by cases e; rfl)
theorem nums_put {D : DataW Unit} {S : List Int} {n : Int} (hn : n ∉ S) (hT : Tidy D) (hs : Maps.size D = S.length) (h : ∀ n : Int, Maps.has D (.int .i64 n) = decide (n ∈ S) ∧ ∀ z, D.atKey (.int .i64 n) z = if n ∈ S then .lit (.int .i64 (S.idxOf n : Nat)) else z)
    (hk : WideAt.IsKeyLit (.int .i64 n)) : Tidy (D.put (.int .i64 n) (.lit (.int .i64 (S.length : Nat)))) ∧ Maps.size (D.put (.int .i64 n) (.lit (.int .i64 (S.length : Nat)))) = (S ++ [n]).length ∧
      ∀ m : Int, Maps.has (D.put (.int .i64 n) (.lit (.int .i64 (S.length : Nat)))) (.int .i64 m) = decide (m ∈ S ++ [n]) ∧ ∀ z, (D.put (.int .i64 n) (.lit (.int .i64 (S.length : Nat)))).atKey (.int .i64 m) z = if m ∈ S ++ [n] then .lit (.int .i64 ((S ++ [n]).idxOf m : Nat)) else z := by
  refine ⟨hT.put hk _, ?_, fun m => ?_⟩
  · rw [size_put hT, (h n).1, hs]
    simp [hn]
  · by_cases e : m = n
    · subst e
      refine ⟨?_, fun z => ?_⟩
      · rw [has_put_same hT.isMap hk]; simp
      · rw [atKey_put_same hT.isMap hk, if_pos (by simp), List.idxOf_append, if_neg hn]
        simp
    · refine ⟨?_, fun z => ?_⟩
      · rw [has_put_other (key_ne e), (h m).1]; simp [e]
      · rw [atKey_put_other (key_ne e), (h m).2]
        by_cases hm : m ∈ S
        · rw [if_pos hm, if_pos (by simp [hm]), List.idxOf_append, if_pos hm]
        · rw [if_neg hm, if_neg (by simp [hm, e])]
set_option maxRecDepth 100000 in
set_option maxHeartbeats 2000000 in
theorem number_any (g b : Nat) (S : List Int) (n : Int) (w : World) (hw : (Lit.int .i64 n).wf = true) (hg : w.cell? ⟨g, 0, none⟩ = some (.map (some b))) (hN : Nums w b S) (hl : S.length < 140737488355328) :
    Calls Tryd.prog 37 #[.int .i64 n, .pointer (some ⟨g, 0, none⟩)] w fun e w' => e = .returned (.int .i64 (S.idxOf n : Nat)) ∧ Nums w' b (addN S n) ∧ w.grownBy w' (some b) := by
  obtain ⟨D, hown, hT, hs, hD⟩ := hN
  have hkey : keyOf Tryd.prog 3 (.int .i64 n) = some (.int .i64 n) := keyOf_int_mk Tryd.underlying3 hw
  have hik := intKey.key hkey
  have HD := hid hD
  have HT := hid hT
  have HS := hid hs
  have HIK := hid hik
  have HW := hid hw
  have hgb : g ≠ b := by
    rintro rfl
    obtain ⟨es, clock, h1, _⟩ := hown
    simp [World.cell?, h1] at hg
  by_cases hm : n ∈ S
  · have hh : Maps.has D (.int .i64 n) = true := by rw [(hD n).1]; exact decide_eq_true hm
    have hat := (hD n).2 (.lit (.int .i64 0))
    rw [if_pos hm] at hat
    have HM := hid hm
    have HAT := hid hat
    clear hm hat hD hT hs
    go_enter Tryd.func37, Tryd.ntmps37
    go_wp2_with (at_lookup; refine wpList_lookup_own_ok_int _ rfl _ _ 58 rfl 3 3 .i64 intKey Tryd.underlying58 Tryd.underlying3 (zeroInt _) b S.length D rfl hown _ _ rfl hkey ?_; intro c hat hwc; rw [hh]; have HA := hid hat; clear hat hwc)
    go_ret
    have h := HA.out
    rw [HAT.out] at h
    simp at h
    refine ⟨ret_int (by rw [← h]), ?_, ?_⟩
    · unfold addN; rw [if_pos HM.out]; exact ⟨D, hown, HT.out, HS.out, HD.out⟩
    · exact ⟨rfl, rfl, rfl, Nat.le_refl _, fun _ _ _ => rfl⟩
  · have hh : Maps.has D (.int .i64 n) = false := by rw [(hD n).1]; exact decide_eq_false hm
    have HM := hid hm
    have HP := hid (nums_put hm hT hs hD hik)
    have hwl : (Lit.int .i64 (S.length : Nat)).wf = true := by
      have h1 : IntKind.i64.min = -9223372036854775808 := by decide +kernel
      have h2 : IntKind.i64.max = 9223372036854775807 := by decide +kernel
      simp [Lit.wf, h1, h2]
      omega
    clear hm hD hT hs
    go_enter Tryd.func37, Tryd.ntmps37
    go_wp2_with (first
      | (at_lookup; refine wpList_lookup_own_ok_int _ rfl _ _ 58 rfl 3 3 .i64 intKey Tryd.underlying58 Tryd.underlying3 (zeroInt _) b S.length D rfl hown _ _ rfl hkey ?_; intro c hat hwc; rw [hh]; clear hat hwc)
      | (at_len; refine wpList_len_own _ rfl _ 58 rfl 3 3 Tryd.underlying58 _ b S.length D rfl hown ?_; rw [HS.out])
      | (at_mapUpdate; refine wpList_mapUpdate_own _ rfl _ _ _ 58 rfl 3 3 intKey Tryd.underlying58 _ b S.length _ rfl hown (by unfold maxLen; omega) _ _ _ rfl rfl hkey _ [] (plainElem_int Tryd.underlying3 hwl) ?_; intro w1 hown1 hgrow1; have HO := hid hown1; have HG := hid hgrow1; clear hown1 hgrow1))
    go_ret
    refine ⟨ret_int (by rw [List.idxOf_eq_length HM.out]), ?_, HG.out⟩
    unfold addN
    rw [if_neg HM.out]
    exact ⟨_, by simpa using HO.out, HP.out⟩
theorem numbering_any (w : World) : Calls Tryd.prog 28 #[] w fun e w' => e = .returned (.func (.func 37) #[] #[.pointer (some ⟨w.heap.size + 1, 0, none⟩)]) ∧ w' = (w.alloc (.map #[] 0)).alloc (.cells #[.map (some w.heap.size)] 58) := by
  have hmm := @run_makeMap Tryd.prog
  go_enter Tryd.func28, Tryd.ntmps28
  go_wp2
  go_ret
  exact ⟨rfl, rfl⟩
end Go.Proofs.YtpdclfihleoigaaDoor
