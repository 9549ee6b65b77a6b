/- Texts of integers that are as they are written: plain. No condition but those that each theorem names. Walks: isNum and the document's canonical, of any text. No condition but those that each theorem names. -/
import Derived.Test.YtkapejcbmonfkaaGreatDoorBigX3m
import Derived.Test.YtkapejcbmonfkaaGreatDoorBigX6m
import Derived.Test.YtkapejcbmonfkaaGreatDoorT14
import Derived.Test.YtkapejcbmonfkaaGreatDoorT13m
namespace Go.Proofs.YtkapejcbmonfkaaGreatDoor
open Go.RowKit Lm

theorem dch_dv {c : Nat} (h : dv c < 10) : dch (dv c) = c ∧ c < 58 := by
  unfold dch
  rw [if_pos h]
  unfold dv at h ⊢
  split at h <;> (try split at h) <;> (try split at h) <;> simp_all <;> omega
theorem lowD_of : ∀ (n : Nat) (L : List UInt8), L.length = n → (∀ c ∈ L, dv c.toNat < 10) → (∀ c m, L = c :: m → c ≠ 48) → ∀ f, n ≤ f → (lowD 10 f (dval 10 L)).map dch = (L.map fun c => c.toNat).reverse
  | 0, L, hn, _, _, f, _ => by
    have : L = [] := List.length_eq_zero_iff.1 hn
    subst this
    rw [show dval 10 [] = 0 from rfl, lowD_zero]
    rfl
  | n + 1, L, hn, hd, h0, f, hf => by
    have hne : L ≠ [] := by intro e; subst e; simp at hn
    obtain ⟨M, c, rfl⟩ : ∃ M c, L = M ++ [c] := ⟨L.dropLast, L.getLast hne, (List.dropLast_concat_getLast hne).symm⟩
    obtain ⟨f', rfl⟩ : ∃ f', f = f' + 1 := ⟨f - 1, by omega⟩
    have hM : M.length = n := by simpa using hn
    have hc : dv c.toNat < 10 := hd c (by simp)
    have hd' : ∀ x ∈ M, dv x.toNat < 10 := fun x hx => hd x (by simp [hx])
    have ih := lowD_of n M hM hd' (fun x m e => h0 x (m ++ [c]) (by rw [e]; rfl)) f' (by omega)
    rw [dval_snoc]
    have hz : dval 10 M * 10 + dv c.toNat ≠ 0 := by
      intro e
      have e1 : dval 10 M = 0 := by omega
      have e2 : dv c.toNat = 0 := by omega
      rw [e1, lowD_zero] at ih
      have e3 : M = [] := by
        have := congrArg List.length ih
        simp at this
        exact List.length_eq_zero_iff.1 this.symm
      subst e3
      exact h0 c [] rfl (dv_zero e2)
    rw [lowD_step _ _ _ hz, show (dval 10 M * 10 + dv c.toNat) % 10 = dv c.toNat by omega, show (dval 10 M * 10 + dv c.toNat) / 10 = dval 10 M by omega, List.map_cons, ih, (dch_dv hc).1]
    simp
theorem names_eq (a b : ByteArray) : (a.toList == b.toList) = decide (a = b) := by
  rw [ByteArray.toList_eq, ByteArray.toList_eq, Bool.eq_iff_iff, beq_iff_eq, decide_eq_true_iff]
  exact ⟨fun h => ByteArray.ext (Array.toList_inj.1 h), fun h => by rw [h]⟩
theorem str_zero (s : ByteArray) : (s.toList == [48]) = decide (s = ⟨#[48]⟩) := by
  rw [ByteArray.toList_eq, Bool.eq_iff_iff, beq_iff_eq, decide_eq_true_iff]
  exact ⟨fun h => ByteArray.ext (Array.toList_inj.1 h), fun h => by rw [h]⟩
theorem uns_list (s : ByteArray) : (unsigned s).data.toList = Lib.trimPrefix s.data.toList [45] := by unfold unsigned; rfl
theorem nought_first (s : ByteArray) : nought s = Lib.hasPrefix (unsigned s).data.toList [48] := rfl
theorem has_one (l : List UInt8) (x : UInt8) : Lib.hasPrefix l [x] = true ↔ ∃ m, l = x :: m := by
  unfold Lib.hasPrefix
  cases l with
  | nil => simp
  | cons y m =>
    simp
    exact ⟨fun h => h.symm, fun h => h.symm⟩
theorem sl_parts (s : ByteArray) : s.data.toList = (if signed s then [45] else []) ++ (unsigned s).data.toList := by
  rw [uns_list]
  unfold signed Lib.trimPrefix
  cases h : Lib.hasPrefix s.data.toList [45] with
  | true =>
    obtain ⟨m, e⟩ := (has_one _ _).1 h
    rw [e]; rfl
  | false => simp
theorem tx_list (v : Int) : (tx 10 v).data.toList = (txt (decide (v < 0)) 10 v.natAbs).map UInt8.ofNat := by unfold tx strOf; rfl
theorem allD_digits {t : ByteArray} {r : Nat} (h : allD t r = true) : (∀ c ∈ t.data.toList, dv c.toNat < r) ∧ t.data.toList ≠ [] := by
  refine ⟨fun c hc => allD_mem h hc, ?_⟩
  unfold allD at h
  have := (of_decide_eq_true h).1
  intro e
  rw [Lib.size_eq, e] at this
  simp at this
/-- Digits, none of them too many, no nought ahead: what is written of their number is what stood there. -/
theorem digits_back {L : List UInt8} (hd : ∀ c ∈ L, dv c.toNat < 10) (hl : L.length ≤ 4096) (h0 : ∀ c m, L = c :: m → c ≠ 48) : ((lowD 10 4096 (dval 10 L)).map dch).reverse.map UInt8.ofNat = L := by
  rw [lowD_of L.length L rfl hd h0 4096 hl, List.reverse_reverse, List.map_map]
  simp [Function.comp_def]
theorem trim_len {L : List UInt8} : ∀ c m, Lib.trimLeftB L 48 = c :: m → c ≠ 48 := fun _c _m e => trim_first e
theorem short_of {L : List UInt8} (h : ¬ 4096 < bl (dval 10 L)) : (Lib.trimLeftB L 48).length ≤ 4096 := by
  by_cases h1 : 4096 < (Lib.trimLeftB L 48).length
  · exact absurd (dval_far (by decide) h1) h
  · omega
theorem trim_same {L : List UInt8} (h0 : ∀ c m, L = c :: m → c ≠ 48) : Lib.trimLeftB L 48 = L := by
  cases L with
  | nil => rfl
  | cons c m =>
    have := h0 c m rfl
    unfold Lib.trimLeftB
    rw [List.dropWhile_cons, if_neg (by simpa using this)]
theorem trim_nought (m : List UInt8) : (Lib.trimLeftB (48 :: m) 48).length ≤ m.length := by
  have e : Lib.trimLeftB (48 :: m) 48 = Lib.trimLeftB m 48 := by
    unfold Lib.trimLeftB
    rw [List.dropWhile_cons, if_pos (by simp)]
  rw [e]
  unfold Lib.trimLeftB
  exact (List.dropWhile_sublist _).length_le
/-- A text of digits, not too long: is it as its number is written? -/
theorem canon (s : ByteArray) (hall : allD (unsigned s) 10 = true) (hl : ¬ 4096 < bl (dval 10 (unsigned s).data.toList)) : (tx 10 (pval s 10) = s) ↔ ((s.toList == [48]) || !nought s) = true := by
  obtain ⟨hd, hne⟩ := allD_digits hall
  have hpv : pval s 10 = sval (signed s) (dval 10 (unsigned s).data.toList) := rfl
  have hs := sl_parts s
  have hext : ∀ a b : ByteArray, a.data.toList = b.data.toList → a = b := fun a b h => ByteArray.ext (Array.toList_inj.1 h)
  by_cases hV : dval 10 (unsigned s).data.toList = 0
  · have hz : pval s 10 = 0 := by rw [hpv, hV]; unfold sval; split <;> rfl
    rw [hz, tx_nought, str_zero]
    have hn : nought s = true := by
      rw [nought_first, has_one]
      generalize (unsigned s).data.toList = L at *
      cases L with
      | nil => exact absurd rfl hne
      | cons c m =>
        rw [dval_cons] at hV
        have h1 : dv c.toNat * 10 ^ m.length = 0 := by omega
        have h2 : dv c.toNat = 0 := by
          rcases Nat.mul_eq_zero.1 h1 with h | h
          · exact h
          · exact absurd h (Nat.ne_of_gt (Nat.pow_pos (by decide)))
        exact ⟨m, by rw [dv_zero h2]⟩
    rw [hn]
    simp
    exact eq_comm
  · have hz : (pval s 10).natAbs = dval 10 (unsigned s).data.toList := by rw [hpv]; unfold sval; split <;> simp
    have hsg : decide (pval s 10 < 0) = signed s := by
      rw [hpv]; unfold sval
      cases signed s <;> simp <;> omega
    have ht : (tx 10 (pval s 10)).data.toList = (if signed s then [45] else []) ++ (((lowD 10 4096 (dval 10 (unsigned s).data.toList)).map dch).reverse.map UInt8.ofNat) := by
      rw [tx_list, hsg, hz]
      unfold txt
      rw [if_neg hV, List.map_append]
      cases signed s <;> rfl
    have hs0 : (s.toList == [48]) = false ∨ nought s = false ∨ nought s = true := by cases nought s <;> simp
    cases hn : nought s with
    | false =>
      simp
      refine hext _ _ ?_
      have h0 : ∀ c m, (unsigned s).data.toList = c :: m → c ≠ 48 := by
        intro c m e hc
        rw [nought_first] at hn
        have := (has_one (unsigned s).data.toList 48).2 ⟨m, by rw [e, hc]⟩
        rw [this] at hn
        cases hn
      have hlen := short_of hl
      rw [trim_same h0] at hlen
      rw [ht, digits_back hd hlen h0, ← hs]
    | true =>
      rw [nought_first, has_one] at hn
      obtain ⟨m, hm⟩ := hn
      have hlen := short_of hl
      have h1 : (tx 10 (pval s 10)).data.toList ≠ s.data.toList := by
        intro e
        rw [ht, hs] at e
        have e2 := List.append_cancel_left e
        have e3 : (dval 10 (unsigned s).data.toList) = dval 10 (Lib.trimLeftB (unsigned s).data.toList 48) := (dval_trim 10 _).symm
        rw [e3] at e2
        rw [digits_back (fun c hc => hd c (trim_mem hc)) hlen trim_len] at e2
        rw [hm] at e2
        have := trim_nought m
        rw [e2, List.length_cons] at this
        omega
      have h2 : (s.toList == [48]) = false := by
        rw [str_zero]
        refine decide_eq_false ?_
        rintro rfl
        exact hV (by decide)
      rw [h2]
      simp
      exact fun e => h1 (by rw [e])
/-- Is a text one of an integer that may be? -/
def numOk (s : ByteArray) : Bool := ((s.toList == [48]) || !nought s) && decide (pbad s 10 = 0)
theorem pbad_none (s : ByteArray) (h : pbad s 10 = 0) : allD (unsigned s) 10 = true ∧ ¬ 4096 < bl (dval 10 (unsigned s).data.toList) := by
  unfold pbad at h
  rw [if_neg (by decide), show (10 : Int).toNat = 10 from rfl] at h
  cases ha : allD (unsigned s) 10 with
  | false => rw [ha] at h; simp at h
  | true =>
    rw [ha, if_pos rfl] at h
    refine ⟨rfl, fun hh => ?_⟩
    rw [if_pos hh] at h
    cases h
theorem numOk_tx (s : ByteArray) : numOk s = (decide (pbad s 10 = 0) && ((tx 10 (pval s 10)).toList == s.toList)) := by
  unfold numOk
  by_cases h : pbad s 10 = 0
  · obtain ⟨h1, h2⟩ := pbad_none s h
    rw [decide_eq_true h, Bool.and_true, Bool.true_and, names_eq, Bool.eq_iff_iff, decide_eq_true_iff]
    exact (canon s h1 h2).symm
  · rw [decide_eq_false h]; simp
theorem unsigned_le (s : ByteArray) : (unsigned s).size ≤ s.size := by
  rw [Lib.size_eq, Lib.size_eq]
  show (Lib.trimPrefix s.data.toList [45]).length ≤ _
  unfold Lib.trimPrefix
  split
  · rw [List.length_drop]; omega
  · exact Nat.le_refl _
end Go.Proofs.YtkapejcbmonfkaaGreatDoor

namespace Go.Proofs.YtkapejcbmonfkaaGreatDoor
open Go.RowKit Lm

theorem parse_tells (s : ByteArray) (w : World) (hs : s.size ≤ maxLen) :
    Calls Tryz.prog 143 #[.string s, .int .i64 10] w fun r w' => ∃ n ao len, r = .returned (.tuple #[.agg #[.bool n, .slice ao len len], .int .i64 (pbad s 10)]) ∧ Below w.heap.size w w' := by
  have hus : (unsigned s).size ≤ maxLen := Nat.le_trans (unsigned_le s) hs
  cases hall : allD (unsigned s) 10 with
  | false =>
    refine (parse_text s 10 w (by decide) (by decide) hus hall).mono ?_
    rintro r w' ⟨rfl, hb⟩
    have e := pbad_text (s := s) (r := 10) (by decide) (by decide) hall
    rw [show ((10 : Nat) : Int) = 10 from rfl] at e
    exact ⟨_, _, _, by rw [e], hb⟩
  | true =>
    by_cases hf : 4096 < (bare s).size
    · refine (parse_far s 10 w (by decide) (by decide) hus hall hf).mono ?_
      rintro r w' ⟨rfl, hb⟩
      have hl : 4096 < bl (dval 10 (unsigned s).data.toList) := dval_far (by decide) (by rw [Lib.size_eq] at hf; exact hf)
      have e := pbad_far (s := s) (r := 10) (by decide) (by decide) hall hl
      rw [show ((10 : Nat) : Int) = 10 from rfl] at e
      exact ⟨_, _, _, by rw [e], hb⟩
    · refine (parse_good s 10 w (by decide) (by decide) hus hall (by omega) (fun c hc => allD_mem hall (bare_mem hc))).mono ?_
      rintro r w' ⟨n', ao', len', c, rfl, hfit, hb⟩
      rw [bare_val] at hfit
      have ha : (sval (signed s) (dval 10 (unsigned s).data.toList)).natAbs = dval 10 (unsigned s).data.toList := by unfold sval; split <;> simp
      rcases hfit with ⟨h1, h2, _⟩ | ⟨h1, h2, _⟩
      · rw [ha] at h1
        have e := pbad_good (s := s) (r := 10) (by decide) (by decide) hall (by omega)
        rw [show ((10 : Nat) : Int) = 10 from rfl] at e
        exact ⟨_, _, _, by rw [e, h2], hb⟩
      · rw [ha] at h1
        have e := pbad_far (s := s) (r := 10) (by decide) (by decide) hall (by omega)
        rw [show ((10 : Nat) : Int) = 10 from rfl] at e
        exact ⟨_, _, _, by rw [e, h2], hb⟩
set_option maxRecDepth 100000 in
set_option maxHeartbeats 2000000 in
theorem isNum_any (s : ByteArray) (w : World) (hs : s.size ≤ maxLen) : Calls Tryz.prog 122 #[.string s] w fun e w' => e = .returned (.bool (numOk s)) ∧ Below w.heap.size w w' := by
  have C1 := hid (fun W => (Tryz.strings_TrimPrefix s ⟨#[45]⟩ W).mono fun e w' h => (⟨h.1, h.2.symm⟩ : e = _ ∧ W = w'))
  have C2 := hid (fun W => (Tryz.strings_HasPrefix ⟨(Lib.trimPrefix s.data.toList [45]).toArray⟩ ⟨#[48]⟩ W).mono fun e w' h => (⟨h.1, h.2.symm⟩ : e = _ ∧ W = w'))
  have hh : Lib.hasPrefix (⟨(Lib.trimPrefix s.data.toList [45]).toArray⟩ : ByteArray).data.toList [48] = nought s := rfl
  simp only [hh] at C2
  have H3 := hid (fun W => parse_tells s W hs)
  have hr : numOk s = (((s.toList == [48]) || !nought s) && decide (pbad s 10 = 0)) := rfl
  rw [hr]
  clear hh hr hs
  generalize nought s = no at *
  generalize pbad s 10 = pb at *
  have hpb : pb = 0 ∨ pb ≠ 0 := by omega
  have h0 : (s.toList == [48]) = true ∨ (s.toList == [48]) = false := by cases (s.toList == [48]) <;> simp
  rcases h0 with h0 | h0
  · rw [h0]
    rcases hpb with rfl | hpb
    · go_enter Tryz.func122, Tryz.ntmps122
      go_wp2_with (first
        | (go_at_call 143; (with_reducible refine (H3.out _).mono ?_); rintro e w2 ⟨n', ao', len', rfl, hb2⟩; have B2 := hid hb2; clear hb2))
      go_ret
      exact ⟨by simp, B2.out.alloc B2.out.size _⟩
    · have hq : (pb == 0) = false := beq_eq_false_iff_ne.2 hpb
      have HP := hid hpb
      clear hpb
      go_enter Tryz.func122, Tryz.ntmps122
      go_wp2_with (first
        | (go_at_call 143; (with_reducible refine (H3.out _).mono ?_); rintro e w2 ⟨n', ao', len', rfl, hb2⟩; have B2 := hid hb2; clear hb2))
      go_ret
      exact ⟨ret_b (by simp [HP.out]), B2.out.alloc B2.out.size _⟩
  · rw [h0]
    cases no
    · rcases hpb with rfl | hpb
      · go_enter Tryz.func122, Tryz.ntmps122
        go_wp2_with (first
          | (go_at_call 142; (with_reducible refine (C1.out _).mono ?_); rintro e w' ⟨rfl, rfl⟩)
          | (go_at_call 141; (with_reducible refine (C2.out _).mono ?_); rintro e w' ⟨rfl, rfl⟩)
          | (go_at_call 143; (with_reducible refine (H3.out _).mono ?_); rintro e w2 ⟨n', ao', len', rfl, hb2⟩; have B2 := hid hb2; clear hb2))
        go_ret
        exact ⟨by simp, B2.out.alloc B2.out.size _⟩
      · have hq : (pb == 0) = false := beq_eq_false_iff_ne.2 hpb
        have HP := hid hpb
        clear hpb
        go_enter Tryz.func122, Tryz.ntmps122
        go_wp2_with (first
          | (go_at_call 142; (with_reducible refine (C1.out _).mono ?_); rintro e w' ⟨rfl, rfl⟩)
          | (go_at_call 141; (with_reducible refine (C2.out _).mono ?_); rintro e w' ⟨rfl, rfl⟩)
          | (go_at_call 143; (with_reducible refine (H3.out _).mono ?_); rintro e w2 ⟨n', ao', len', rfl, hb2⟩; have B2 := hid hb2; clear hb2))
        go_ret
        exact ⟨ret_b (by simp [HP.out]), B2.out.alloc B2.out.size _⟩
    · clear hpb
      go_enter Tryz.func122, Tryz.ntmps122
      go_wp2_with (first
        | (go_at_call 142; (with_reducible refine (C1.out _).mono ?_); rintro e w' ⟨rfl, rfl⟩)
        | (go_at_call 141; (with_reducible refine (C2.out _).mono ?_); rintro e w' ⟨rfl, rfl⟩))
      go_ret
      exact ⟨by simp, Below.refl _ _⟩
set_option maxRecDepth 100000 in
set_option maxHeartbeats 2000000 in
theorem canonical_any (s : ByteArray) (w : World) (hs : s.size ≤ maxLen) : Calls Tryz.prog 114 #[.string s] w fun e w' => e = .returned (.bool (numOk s)) ∧ Below w.heap.size w w' := by
  have HP := hid (fun W => parseR_in s 10 W (by decide) (by decide) (by unfold maxLen at hs; exact hs))
  have HE := hid (numOk_tx s)
  rw [show ((10 : Nat) : Int) = 10 from rfl] at HP
  by_cases hpb : pbad s 10 = 0
  · have HZ := hid hpb
    have C1 := hid (show ∀ W, Calls Tryz.prog 125 #[.string s, .int .i64 10] W fun e w' => ∃ n o l c, e = .returned (.tuple #[.agg #[.bool n, .slice o l c], .int .i64 0]) ∧ Hid (Big w' n o l c (pval s 10)) ∧ Hid (l ≤ 4096) ∧ Below W.heap.size W w' from fun W => (HP.out W).mono fun e w' ⟨n, o, l, c, v, h1, h2, h3, h4⟩ => by
      have hv := h3 HZ.out
      rw [HZ.out] at h1
      have hl : l ≤ 4096 := by
        rw [h2.len, hv, pval_abs, show (10 : Int).toNat = 10 from rfl]
        have := (pbad_none s HZ.out).2
        omega
      rw [hv] at h2
      exact ⟨n, o, l, c, h1, hid h2, hid hl, h4⟩)
    have C2 := hid (fun (n : Bool) (o : Option Addr) (l c : Nat) W (h : Big W n o l c (pval s 10)) (hl : l ≤ 4096) => textR n o l c (pval s 10) 10 W h hl (by decide) (by decide))
    rw [show ((10 : Nat) : Int) = 10 from rfl] at C2
    have hr : numOk s = ((tx 10 (pval s 10)).toList == s.toList) := by rw [HE.out, HZ.out]; simp
    rw [hr]
    clear HP HE hpb HZ hr
    go_enter Tryz.func114, Tryz.ntmps114
    go_wp2_with (first
      | (go_at_call 125; (with_reducible refine (C1.out _).mono ?_); rintro e w2 ⟨n', o', l', c', rfl, hB, hL, hb2⟩; have B2 := hid (hb2.alloc hb2.size (.cells #[.bool n', .slice o' l' c'] 138)); have HBG := hid (hB.out.alloc (.cells #[.bool n', .slice o' l' c'] 138)); clear hb2 hB)
      | (go_at_call 126; (with_reducible refine (C2.out _ _ _ _ _ HBG.out hL.out).mono ?_); rintro e w3 ⟨rfl, hb3⟩; have B3 := hid (B2.out.trans (hb3.mono B2.out.size)); clear hb3))
    go_ret
    exact ⟨rfl, B3.out⟩
  · have hr : numOk s = false := by rw [HE.out, decide_eq_false hpb]; rfl
    rw [hr]
    have C1 := hid (show ∀ W, Calls Tryz.prog 125 #[.string s, .int .i64 10] W fun e w' => ∃ n o l c, e = .returned (.tuple #[.agg #[.bool n, .slice o l c], .int .i64 (pbad s 10)]) ∧ Below W.heap.size W w' from fun W => (HP.out W).mono fun e w' ⟨n, o, l, c, v, h1, h2, h3, h4⟩ => ⟨n, o, l, c, h1, h4⟩)
    clear HP HE hr
    generalize pbad s 10 = pb at *
    have hq : (pb == 0) = false := beq_eq_false_iff_ne.2 hpb
    clear hpb
    go_enter Tryz.func114, Tryz.ntmps114
    go_wp2_with (first
      | (go_at_call 125; (with_reducible refine (C1.out _).mono ?_); rintro e w2 ⟨n', o', l', c', rfl, hb2⟩; have B2 := hid (hb2.alloc hb2.size (.cells #[.bool n', .slice o' l' c'] 138)); clear hb2))
    go_ret
    exact ⟨rfl, B2.out⟩
end Go.Proofs.YtkapejcbmonfkaaGreatDoor
