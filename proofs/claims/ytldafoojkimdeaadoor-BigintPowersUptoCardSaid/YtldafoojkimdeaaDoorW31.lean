/- Walks: Text where nothing is wrong. -/
import Derived.Test.YtldafoojkimdeaaDoorW24
import Derived.Test.YtldafoojkimdeaaDoorW28m
import Derived.Test.YtldafoojkimdeaaDoorW30m
import Derived.Laws.BytesArg
import Derived.Deep.AppendLies
namespace Go.Proofs.YtldafoojkimdeaaDoor
open Go.RowKit Lm

theorem lowD_len (r : Nat) : ∀ f v, (lowD r f v).length ≤ f
  | 0, _ => Nat.le_refl _
  | f + 1, v => by
    unfold lowD
    by_cases h : v = 0
    · rw [if_pos h]; simp
    · rw [if_neg h]; have := lowD_len r f (v / r); simp; exact this

/-- What is written, byte by byte. -/
def txt (n : Bool) (r v : Nat) : List Nat := if v = 0 then [48] else (if n then [45] else []) ++ ((lowD r 4096 v).map dch).reverse
def strOf (L : List Nat) : ByteArray := ⟨(L.map UInt8.ofNat).toArray⟩
theorem strOf_nums (L : List Nat) : strOfNums (L.map fun x : Nat => (x : Int)) = strOf L := by
  unfold strOfNums strOf
  simp [List.map_map, Function.comp_def]

theorem GrowC.str {B : Nat} {w : World} {v : Value} {L : List Nat} (h : GrowC B w v L) (h0 : L ≠ []) : ∃ g cap, v = .slice (some ⟨g, 0, none⟩) L.length cap ∧ (convert 117 9 v).run Tryd.prog w = .ok (.string (strOf L)) w := by
  obtain ⟨g, cap, rfl, _, _⟩ := World.ownsRow.form h (List.length_pos_iff.2 h0)
  refine ⟨g, cap, rfl, ?_⟩
  rw [← strOf_nums]
  refine run_convert_bytes_arg w 117 5 Tryd.underlying117 Tryd.underlying5 g 0 L.length cap _ (by simp) (fun i hi => ?_) 9 Tryd.underlying9
  rw [Nat.zero_add, World.ownsRow.cellAt h i (by omega), bys_get _ _ hi]
  unfold dg
  rw [getD_in _ _ hi]; simp [List.getD, hi]

theorem sign_zero {n : Bool} {A : List Nat} (h : val A = 0) : (num n A).sign = 0 := by unfold num; rw [h]; cases n <;> rfl
theorem sign_not {n : Bool} {A : List Nat} (h : val A ≠ 0) : ((num n A).sign == 0) = false := by
  rw [beq_eq_false_iff_ne]
  intro e
  have := Int.sign_eq_zero_iff_zero.1 e
  unfold num at this
  cases n <;> simp at this <;> omega

theorem hp2 (w : World) (o1 o2 : Obj) {w1 : World} (hb : Below ((w.alloc o1).alloc o2).heap.size ((w.alloc o1).alloc o2) w1) :
    w1.heap[w.heap.size]? = some o1 ∧ Below w.heap.size w w1 ∧ w.heap.size + 2 ≤ w1.heap.size := by
  refine ⟨?_, balloc2 hb, by have := hb.size; simp at this; omega⟩
  rw [hb.block _ (by simp; omega)]
  exact hpS _ (heap_alloc_new w o1)

theorem txt_pos {n : Bool} {r v : Nat} (h : v ≠ 0) (_h2 : 2 ≤ r) : txt n r v = ((lowD r 4096 v).map dch ++ (if n then [45] else [])).reverse := by
  unfold txt
  rw [if_neg h, List.reverse_append]
  cases n <;> rfl
theorem txt_nil {n : Bool} {r v : Nat} : txt n r v ≠ [] ∨ lowD r 4096 v = [] := by
  unfold txt
  by_cases h : v = 0
  · rw [if_pos h]; simp
  · rw [if_neg h]
    by_cases h1 : lowD r 4096 v = []
    · exact .inr h1
    · left; simp [h1]

set_option maxRecDepth 100000 in
set_option maxHeartbeats 2000000 in
theorem text_good (na : Bool) (aa : Option Addr) (la ca : Nat) (A : List Nat) (r : Nat) (w : World) (hA : Rd w aa la ca A) (h2 : 2 ≤ r) (h36 : r ≤ 36) (hbad : tooLong A = false) :
    Calls Tryd.prog 59 #[.agg #[.bool na, .slice aa la ca], .int .i64 (r : Int)] w fun e w' => e = .returned (.tuple #[.string (strOf (txt na r (val A))), .int .i64 0]) ∧ Below w.heap.size w w' := by
  by_cases h0 : val A = 0
  · have hs := sign_zero (n := na) h0
    have HS := hid hs
    have HT := hid (show txt na r (val A) = [48] by unfold txt; rw [if_pos h0])
    clear hs h0
    go_enter Tryd.func59, Tryd.ntmps59
    go_wp2_with (first
      | (go_at_call 77; refine (long1_any _ na aa la ca A _ ((hA.alloc _).alloc _) (by simp [go_sem]) (by simp [go_sem])).mono ?_; rintro e w1 ⟨rfl, hb1⟩; rw [hbad]; obtain ⟨p1, hbw, hsw⟩ := hp2 _ _ _ hb1; obtain ⟨c0, c1, f0, f1⟩ := two_cells p1; have hA1 := hA.keep hbw; clear p1 hb1)
      | (go_at_call 99; refine (isRadix_yes r _ h2 h36).mono ?_; rintro e w2 ⟨rfl, rfl⟩)
      | (go_at_call 28; refine (sign_any na aa la ca A _ hA1).mono ?_; rintro e w3 ⟨rfl, rfl⟩; rw [HS.out]))
    refine bodyPost_ret (v := .tuple #[.string (strOf (txt na r (val A))), .int .i64 0]) (by simp [results, Tryd.results59, go_sem]; rw [HT.out]; rfl) rfl ⟨rfl, ?_⟩
    exact hbw.trans (((Below.refl _ _).alloc (Nat.le_refl _) _).mono hbw.size)
  · have hs := sign_not (n := na) h0
    have hlen := len_of_bl A 128 (by unfold tooLong at hbad; simpa using hbad)
    have HL := hid hlen
    have HN := hid h0
    have HV := hid (tl_val A)
    have HT := hid (txt_pos (n := na) (v := val A) h0 h2)
    clear h0
    obtain ⟨i0, hi, hz0, hz1, hz2⟩ := info_parts Tryd.info5
    cases na with
    | false =>
      have HT' : Hid (txt false r (val A) = ((lowD r 4096 (val A)).map dch).reverse) := hid (by rw [HT.out]; simp)
      have HE : Hid (((lowD r 4096 (val A)).map dch).reverse ≠ []) := hid (by rw [lowD_step _ _ _ HN.out]; simp)
      go_enter Tryd.func59, Tryd.ntmps59
      go_wp2_with (first
        | (go_at_call 77; refine (long1_any _ false aa la ca A _ ((hA.alloc _).alloc _) (by simp [go_sem]) (by simp [go_sem])).mono ?_; rintro e w1 ⟨rfl, hb1⟩; rw [hbad]; obtain ⟨p1, hbw, hsw⟩ := hp2 _ _ _ hb1; obtain ⟨c0, c1, f0, f1⟩ := two_cells p1; have P1 := hid p1; have hA1 := hA.keep hbw; clear p1 hb1)
        | (go_at_call 99; refine (isRadix_yes r _ h2 h36).mono ?_; rintro e w2 ⟨rfl, rfl⟩)
        | (go_at_call 28; refine (sign_any false aa la ca A _ hA1).mono ?_; rintro e w3 ⟨rfl, rfl⟩; have hbx : Below w.heap.size w (w1.alloc (.cells #[.bool false, .slice aa la ca] 24)) := hbw.trans (((Below.refl _ _).alloc (Nat.le_refl _) _).mono hbw.size); have hA2 := hA1.alloc (.cells #[.bool false, .slice aa la ca] 24); have P2 := hid (hpS (.cells #[.bool false, .slice aa la ca] 24) P1.out); generalize w1.alloc (.cells #[.bool false, .slice aa la ca] 24) = wx at *; obtain ⟨d0, d1, _, _⟩ := two_cells P2.out; clear c0 c1 f0 f1 P1 hA1)
        | (go_at_call 71; refine (trim_any aa la ca A _ hA2).mono ?_; rintro e w3 ⟨rfl, rfl⟩)
        | (go_at_call 106; refine (lowDigits_any aa _ ca _ r _ hA2.tl (tl_top A) HL.out h2 h36).mono ?_; rintro e w4 ⟨v, rfl, hG, hb4⟩; rw [HV.out] at hG; have hGC := hG.bytes; have P3 := hid (heap_keep P2.out hb4); obtain ⟨e0, _, _, _⟩ := two_cells P3.out; have hby := hbx.trans (hb4.mono hbx.size); have hsx := hbx.size; have hsy := hb4.size; clear hG d0 d1 P2 hb4)
        | (go_at_call 107; refine (reverse_any _ _ _ _ hGC (by rw [List.length_map]; exact Nat.le_trans (lowD_len _ _ _) (by omega))).mono ?_; rintro e w6 ⟨rfl, hG6, hb6⟩; obtain ⟨g, cap, rfl, hconv⟩ := hG6.str (HE.out); simp only [List.length_reverse, List.length_map] at hconv; have hbz := hby.trans (hb6.mono hsx)))
      refine bodyPost_ret (v := .tuple #[.string (strOf (txt false r (val A))), .int .i64 0]) (by simp [results, Tryd.results59, go_sem]; rw [HT'.out]) rfl ⟨rfl, hbz⟩
    | true =>
      go_enter Tryd.func59, Tryd.ntmps59
      go_wp2_with (first
        | (go_at_call 77; refine (long1_any _ true aa la ca A _ ((hA.alloc _).alloc _) (by simp [go_sem]) (by simp [go_sem])).mono ?_; rintro e w1 ⟨rfl, hb1⟩; rw [hbad]; obtain ⟨p1, hbw, hsw⟩ := hp2 _ _ _ hb1; obtain ⟨c0, c1, f0, f1⟩ := two_cells p1; have P1 := hid p1; have hA1 := hA.keep hbw; clear p1 hb1)
        | (go_at_call 99; refine (isRadix_yes r _ h2 h36).mono ?_; rintro e w2 ⟨rfl, rfl⟩)
        | (go_at_call 28; refine (sign_any true aa la ca A _ hA1).mono ?_; rintro e w3 ⟨rfl, rfl⟩; have hbx : Below w.heap.size w (w1.alloc (.cells #[.bool true, .slice aa la ca] 24)) := hbw.trans (((Below.refl _ _).alloc (Nat.le_refl _) _).mono hbw.size); have hA2 := hA1.alloc (.cells #[.bool true, .slice aa la ca] 24); have P2 := hid (hpS (.cells #[.bool true, .slice aa la ca] 24) P1.out); generalize w1.alloc (.cells #[.bool true, .slice aa la ca] 24) = wx at *; obtain ⟨d0, d1, _, _⟩ := two_cells P2.out; clear c0 c1 f0 f1 P1 hA1)
        | (go_at_call 71; refine (trim_any aa la ca A _ hA2).mono ?_; rintro e w3 ⟨rfl, rfl⟩)
        | (go_at_call 106; refine (lowDigits_any aa _ ca _ r _ hA2.tl (tl_top A) HL.out h2 h36).mono ?_; rintro e w4 ⟨v, rfl, hG, hb4⟩; rw [HV.out] at hG; have hGC := hG.bytes; have P3 := hid (heap_keep P2.out hb4); obtain ⟨e0, _, _, _⟩ := two_cells P3.out; have hby := hbx.trans (hb4.mono hbx.size); have hsx := hbx.size; have hsy := hb4.size; clear hG d0 d1 P2 hb4)
        | (at_builtin; refine wpList_append_own _ rfl _ _ 117 rfl wx.heap.size 5 i0 (.int .u8 0) 1 1 Tryd.underlying117 hi hz0 hz1 hz2 rfl (by decide) _ _ _ rfl (World.ownsRow.alloc hGC _) ⟨w4.heap.size, 0, none⟩ 1 1 [.int .u8 45] rfl rfl ?c1 ?c2 ?c3 ?c4 ?c5 ?_))
      case c1 =>
        intro j u hj
        match j, hj with
        | 0, hj => simp at hj; subst hj; simp [Addr.add]
      case c2 => intro u hu; simp at hu; subst hu; rfl
      case c3 => have := lowD_len r 4096 (val A); unfold maxLen; simp; omega
      case c4 => have := lowD_len r 4096 (val A); simp; omega
      case c5 => simp; omega
      intro v' w5 hown' hgrow _
      have hG5 : GrowC wx.heap.size w5 v' ((lowD r 4096 (val A)).map dch ++ [45]) := by
        unfold GrowC
        have e : bys ((lowD r 4096 (val A)).map dch ++ [45]) = bys ((lowD r 4096 (val A)).map dch) ++ [.int .u8 45] := by simp [bys]
        rw [e, List.length_append, List.length_map]; exact hown'
      have hb5 : Below w.heap.size w w5 := (hby.alloc (by omega) _).grown hgrow (by simp; omega) (fun k hk => by have := (World.ownsRow.lt hGC k hk).1; omega)
      clear hgrow hown'
      go_wp2_with (go_at_call 107; refine (reverse_any _ _ _ _ hG5 (by rw [List.length_append, List.length_map]; have := lowD_len r 4096 (val A); simp; omega)).mono ?_; rintro e w6 ⟨rfl, hG6, hb6⟩; obtain ⟨g, cap, rfl, hconv⟩ := hG6.str (by simp); simp only [List.length_reverse, List.length_append, List.length_map, List.length_singleton] at hconv; have hbz := hb5.trans (hb6.mono hsx))
      refine bodyPost_ret (v := .tuple #[.string (strOf (txt true r (val A))), .int .i64 0]) (by simp [results, Tryd.results59, go_sem]; rw [HT.out]; simp) rfl ⟨rfl, hbz⟩
end Go.Proofs.YtldafoojkimdeaaDoor
