/- Walks: reduceRow. -/
import Derived.Test.YtldafoojkimdeaaDoorW16
import Derived.Test.YtldafoojkimdeaaDoorW18
namespace Go.Proofs.YtldafoojkimdeaaDoor
open Go.RowKit Lm

theorem Rw.drewN {w : World} {g : Nat} {L : List Nat} (h : Rw w g L) (q : Nat) : Rw (w.drewN q) g L := ⟨h.block⟩
theorem ungrow {w w' : World} {q : Nat} {row : Option Nat} (h : (w.drewN q).grownBy w' row) : w.grownBy w' row := ⟨h.os, h.tape, h.output, h.size, h.block⟩
theorem grown_trans {w a b : World} {g : Nat} (h : w.grownBy a (some g)) (k : a.grownBy b (some g)) : w.grownBy b (some g) :=
  ⟨k.os.trans h.os, k.tape.trans h.tape, k.output.trans h.output, Nat.le_trans h.size k.size, fun i hi hne => (k.block i (Nat.lt_of_lt_of_le hi h.size) hne).trans (h.block i hi hne)⟩

/-- No borrow was left: the guess is the quotient. -/
theorem red_no {X Y t M : Nat} (hY : 0 < Y) (h1 : X / Y ≤ t) (h : M + t * Y = X) : t = X / Y ∧ M = X % Y := by
  have h2 : t ≤ X / Y := (Nat.le_div_iff_mul_le hY).2 (by omega)
  have h3 : t = X / Y := by omega
  refine ⟨h3, ?_⟩
  have := Nat.div_add_mod' X Y
  rw [← h3] at this; omega
/-- A borrow was left: the guess is once too great. -/
theorem red_yes {X Y t M M2 p ov : Nat} (hY : 0 < Y) (hYp : Y < p) (h1 : X / Y ≤ t) (h2 : t ≤ X / Y + 1) (hM : M < p) (hM2 : M2 < p) (h : M + t * Y = X + p) (h3 : M2 + p * ov = M + Y) : t - 1 = X / Y ∧ 1 ≤ t ∧ M2 = X % Y := by
  have e := Nat.div_add_mod' X Y
  have hr := Nat.mod_lt X hY
  have ht : t = X / Y + 1 := by
    rcases Nat.lt_or_ge (X / Y) t with k | k
    · omega
    · have : t = X / Y := by omega
      rw [this] at h; omega
  rw [ht, Nat.add_mul, Nat.one_mul] at h
  have h4 : M2 + p * ov = X % Y + p := by omega
  have ht1 : t - 1 = X / Y := by rw [ht]; rfl
  have ht2 : 1 ≤ t := by rw [ht]; exact Nat.le_add_left _ _
  refine ⟨ht1, ht2, ?_⟩
  clear ht ht1 ht2 h h1 h2 e h3
  generalize X % Y = r at *
  match ov, h4 with
  | 0, h4 => omega
  | 1, h4 => omega
  | k + 2, h4 => rw [Nat.mul_add] at h4; omega

theorem mid_cut (R0 M : List Nat) (off k : Nat) (hM : M.length = k) (hl : off + k ≤ R0.length) : ((R0.take off ++ M ++ R0.drop (off + k)).drop off).take k = M := by
  rw [List.append_assoc, List.drop_append_of_le_length (by rw [List.length_take]; omega), List.drop_eq_nil_of_le (by rw [List.length_take]; omega), List.nil_append, List.take_append_of_le_length (by omega), List.take_of_length_le (by omega)]
theorem mid_take (R0 M : List Nat) (off k : Nat) (hl : off ≤ R0.length) : (R0.take off ++ M ++ R0.drop (off + k)).take off = R0.take off := by
  rw [List.append_assoc, List.take_append_of_le_length (by rw [List.length_take]; omega), List.take_of_length_le (by rw [List.length_take]; omega)]
theorem mid_drop (R0 M : List Nat) (off k : Nat) (hM : M.length = k) (hl : off + k ≤ R0.length) : (R0.take off ++ M ++ R0.drop (off + k)).drop (off + k) = R0.drop (off + k) := by
  rw [List.drop_append_of_le_length (by rw [List.length_append, List.length_take]; omega), List.drop_eq_nil_of_le (by rw [List.length_append, List.length_take]; omega), List.nil_append]
theorem mid_len (R0 M : List Nat) (off k : Nat) (hM : M.length = k) (hl : off + k ≤ R0.length) : (R0.take off ++ M ++ R0.drop (off + k)).length = R0.length := by
  rw [List.length_append, List.length_append, List.length_take, List.length_drop]; omega

set_option maxRecDepth 100000 in
set_option maxHeartbeats 2000000 in
theorem reduce_any (g off m cr gd cd : Nat) (R0 DD : List Nat) (w : World) (hR : Rw w g R0) (oR : Ok R0) (hD : Rw w gd DD) (oD : Ok DD) (hne : gd ≠ g) (hl : off + (m + 2) + 1 ≤ R0.length) (hdl : m + 2 ≤ DD.length) (hn : m ≤ 4000) (hoff : off ≤ 10000)
    (hcr : m + 3 ≤ cr) (hcr2 : cr ≤ 70368744177664) (hcd : m + 2 ≤ cd) (hcd2 : cd ≤ 70368744177664)
    (hh : 2147483648 ≤ dg DD (m + 1)) (hlt : val ((R0.drop off).take (m + 3)) < val (DD.take (m + 2)) * 4294967296) :
    Calls Tryd.prog 116 #[.slice (some ⟨g, off, none⟩) (m + 3) cr, .slice (some ⟨gd, 0, none⟩) (m + 2) cd] w fun e w' => ∃ (M : List Nat), e = .returned (.int .u32 ((val ((R0.drop off).take (m + 3)) / val (DD.take (m + 2)) : Nat) : Int)) ∧ M.length = m + 3 ∧ Ok M ∧ Rw w' g (R0.take off ++ M ++ R0.drop (off + (m + 3))) ∧
      val M = val ((R0.drop off).take (m + 3)) % val (DD.take (m + 2)) ∧ w.grownBy w' (some g) := by
  have hRr := hR.rd oR off (m + 3) cr (by omega) hcr hcr2
  have hDr := hD.rd oD 0 (m + 2) cd (by omega) hcd hcd2
  rw [List.drop_zero] at hDr
  have hh' : 2147483648 ≤ dg (DD.take (m + 2)) (m + 1) := by rw [dg_take _ _ _ (by omega)]; exact hh
  have hDlt := val_lt (oD.take (m + 2))
  rw [List.length_take, Nat.min_eq_left hdl] at hDlt
  have hPlt : P (m + 2) < P (m + 3) := by rw [P_succ (m + 2)]; have := P_pos (m + 2); omega
  have hD0 : 0 < val (DD.take (m + 2)) := by
    have := val_take_dg (DD.take (m + 2)) (m + 1) (by rw [List.length_take]; omega)
    rw [List.take_of_length_le (by rw [List.length_take]; omega)] at this
    have h2 : 0 < P (m + 1) * dg (DD.take (m + 2)) (m + 1) := Nat.mul_pos (P_pos _) (by omega)
    omega
  have hqs : val ((R0.drop off).take (m + 3)) / val (DD.take (m + 2)) < 4294967296 := by
    rw [Nat.div_lt_iff_lt_mul hD0, Nat.mul_comm]; exact hlt
  have HDP := hid (show val (DD.take (m + 2)) < P (m + 2 + 1) by exact Nat.lt_trans hDlt hPlt)
  have HQS := hid hqs
  have HD0 := hid hD0
  have HLT := hid hlt
  have HH := hid hh'
  clear hDlt hPlt hD0 hqs hlt hh hh'
  go_enter Tryd.func116, Tryd.ntmps116
  go_wp2_with (first
    | (go_at_call 126; refine (guess_any _ _ _ _ _ (DD.take (m + 2)) m _ hRr hDr (by omega) HH.out HLT.out).mono ?_; rintro e w1 ⟨t, rfl, ht, hq1, hq2, q, rfl⟩)
    | (go_at_call 127; refine (take_any g off (m + 2) _ gd _ t R0 DD _ (hR.drewN q) oR (hD.drewN q) oD hne (by omega) (by omega) (by omega) hoff ht).mono ?_; rintro e w2 ⟨M, f, rfl, hM, hok, hR2, hval, hg2⟩; have HM := hid hM; have HV := hid hval; clear hM hval)
    | (go_at_call 128; refine (putBack_any g off (m + 2) _ gd _ _ DD _ hR2 ?_ (hD.grown (ungrow hg2) hne) oD hne ?_ (by omega) (by omega) hoff).mono ?_))
  · exact ((oR.take _).append hok).append (oR.drop _)
  · rw [show off + (m + 2) + 1 = off + (m + 3) from rfl, mid_len R0 M off (m + 3) HM.out (by omega)]; exact hl
  · rintro e w3 ⟨M2, ov, rfl, hM2, hok2, hR3, hval2, hg3⟩
    have e1 : off + (m + 2) + 1 = off + (m + 3) := rfl
    have e2 : m + 2 + 1 = m + 3 := rfl
    rw [e1, e2] at hval2
    rw [e1] at hR3
    rw [mid_cut R0 M off (m + 3) HM.out (by omega)] at hval2
    rw [mid_take R0 M off (m + 3) (by omega), mid_drop R0 M off (m + 3) HM.out (by omega)] at hR3
    have hv := HV.out
    have hf : f = true := by assumption
    rw [hf, if_pos rfl, Nat.mul_one] at hv
    have hMl := val_lt hok
    rw [HM.out] at hMl
    have hM2l := val_lt hok2
    rw [hM2] at hM2l
    have hr := red_yes HD0.out HDP.out hq1 hq2 hMl hM2l hv hval2
    have HRed := hid hr
    have HM2 := hid hM2
    clear hr hv hval2 hMl hM2l hM2 hq1 hq2
    have ht1 := HRed.out.2.1
    go_wp2
    go_ret
    refine ⟨M2, ?_, HM2.out, hok2, hR3, HRed.out.2.2, grown_trans (ungrow hg2) hg3⟩
    rw [← HRed.out.1]
    exact congrArg (fun z => Ending.returned (.int .u32 z)) (by omega)
  · have hv := HV.out
    have hf : f = false := by assumption
    rw [hf, if_neg (by decide), Nat.mul_zero, Nat.add_zero] at hv
    have hr := red_no HD0.out hq1 hv
    go_ret
    refine ⟨M, ?_, HM.out, hok, hR2, hr.2, ungrow hg2⟩
    rw [← hr.1]
    rfl
end Go.Proofs.YtldafoojkimdeaaDoor
