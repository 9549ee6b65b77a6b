/- The document's UTF and utf8.ValidString's answer: plain. No condition but those that each theorem names. Walk of the document's UTF. No condition but those that the theorem names. -/
import Derived.Lib.ValidLaws
import Derived.Test.YtkapejcbmonfkaaGreatDoorT21m
namespace Go.Proofs.YtkapejcbmonfkaaGreatDoor
open Go.RowKit

/-- How far the document goes at a byte; none: it is no character. -/
def ustep (n b0 b1 b2 b3 : Nat) : Option Nat :=
  if b0 < 128 then some 1
  else if 192 ≤ b0 ∧ b0 < 224 then (if n ≤ 1 ∨ b1 < 128 ∨ 192 ≤ b1 then none else if (b0 - 192) * 64 + b1 - 128 < 128 then none else some 2)
  else if 224 ≤ b0 ∧ b0 < 240 then (if n ≤ 1 ∨ b1 < 128 ∨ 192 ≤ b1 then none else if n ≤ 2 ∨ b2 < 128 ∨ 192 ≤ b2 then none else
    if ((b0 - 224) * 64 + b1 - 128) * 64 + b2 - 128 < 2048 ∨ (55296 ≤ ((b0 - 224) * 64 + b1 - 128) * 64 + b2 - 128 ∧ ((b0 - 224) * 64 + b1 - 128) * 64 + b2 - 128 < 57344) then none else some 3)
  else if 240 ≤ b0 ∧ b0 < 248 then (if n ≤ 1 ∨ b1 < 128 ∨ 192 ≤ b1 then none else if n ≤ 2 ∨ b2 < 128 ∨ 192 ≤ b2 then none else if n ≤ 3 ∨ b3 < 128 ∨ 192 ≤ b3 then none else
    if (((b0 - 240) * 64 + b1 - 128) * 64 + b2 - 128) * 64 + b3 - 128 < 65536 ∨ 1114111 < (((b0 - 240) * 64 + b1 - 128) * 64 + b2 - 128) * 64 + b3 - 128 then none else some 4)
  else none
set_option maxRecDepth 100000 in
set_option maxHeartbeats 4000000 in
theorem ustep_decode (n b0 b1 b2 b3 : Nat) (h0 : b0 < 256) (h1 : b1 < 256) (h2 : b2 < 256) (h3 : b3 < 256) :
    (ustep n b0 b1 b2 b3 = none ∧ Lib.decodeN n b0 b1 b2 b3 = (65533, 1)) ∨ ∃ k, ustep n b0 b1 b2 b3 = some k ∧ (Lib.decodeN n b0 b1 b2 b3).2 = k ∧ 1 ≤ k ∧ ¬ ((Lib.decodeN n b0 b1 b2 b3).1 = 65533 ∧ (Lib.decodeN n b0 b1 b2 b3).2 = 1) := by
  unfold ustep Lib.decodeN
  by_cases c0 : b0 < 128
  · right
    rw [if_pos c0, if_pos c0]
    exact ⟨1, rfl, rfl, by omega, fun h => by have := h.1; simp at this; omega⟩
  rw [if_neg c0, if_neg c0]
  by_cases c1 : b0 / 32 = 6
  · rw [if_pos (show 192 ≤ b0 ∧ b0 < 224 by omega)]
    by_cases d1 : n ≤ 1 ∨ b1 < 128 ∨ 192 ≤ b1
    · left
      rw [if_pos d1, if_neg (by omega), if_neg (by omega), if_neg (by omega)]
      exact ⟨rfl, rfl⟩
    · rw [if_neg d1, if_pos (show b0 / 32 = 6 ∧ 1 < n ∧ b1 / 64 = 2 by omega)]
      by_cases d2 : (b0 - 192) * 64 + b1 - 128 < 128
      · left; rw [if_pos d2, if_neg (show ¬ b0 % 32 * 64 + b1 % 64 ≥ 128 by omega)]; exact ⟨rfl, rfl⟩
      · right; rw [if_neg d2, if_pos (show b0 % 32 * 64 + b1 % 64 ≥ 128 by omega)]; exact ⟨2, rfl, rfl, by omega, fun h => by have := h.2; simp at this⟩
  rw [if_neg (show ¬ (192 ≤ b0 ∧ b0 < 224) by omega), if_neg (show ¬ (b0 / 32 = 6 ∧ _) by omega)]
  by_cases c2 : b0 / 16 = 14
  · rw [if_pos (show 224 ≤ b0 ∧ b0 < 240 by omega)]
    by_cases d1 : n ≤ 1 ∨ b1 < 128 ∨ 192 ≤ b1
    · left
      rw [if_pos d1, if_neg (by omega), if_neg (by omega)]
      exact ⟨rfl, rfl⟩
    by_cases d2 : n ≤ 2 ∨ b2 < 128 ∨ 192 ≤ b2
    · left
      rw [if_neg d1, if_pos d2, if_neg (by omega), if_neg (by omega)]
      exact ⟨rfl, rfl⟩
    · rw [if_neg d1, if_neg d2, if_pos (show b0 / 16 = 14 ∧ (1 < n ∧ b1 / 64 = 2) ∧ 2 < n ∧ b2 / 64 = 2 by omega)]
      by_cases d3 : ((b0 - 224) * 64 + b1 - 128) * 64 + b2 - 128 < 2048 ∨ (55296 ≤ ((b0 - 224) * 64 + b1 - 128) * 64 + b2 - 128 ∧ ((b0 - 224) * 64 + b1 - 128) * 64 + b2 - 128 < 57344)
      · left; rw [if_pos d3, if_neg (show ¬ (b0 % 16 * 4096 + b1 % 64 * 64 + b2 % 64 ≥ 2048 ∧ (b0 % 16 * 4096 + b1 % 64 * 64 + b2 % 64 < 55296 ∨ 57344 ≤ b0 % 16 * 4096 + b1 % 64 * 64 + b2 % 64 ∧ b0 % 16 * 4096 + b1 % 64 * 64 + b2 % 64 ≤ 1114111)) by omega)]; exact ⟨rfl, rfl⟩
      · right; rw [if_neg d3, if_pos (show b0 % 16 * 4096 + b1 % 64 * 64 + b2 % 64 ≥ 2048 ∧ (b0 % 16 * 4096 + b1 % 64 * 64 + b2 % 64 < 55296 ∨ 57344 ≤ b0 % 16 * 4096 + b1 % 64 * 64 + b2 % 64 ∧ b0 % 16 * 4096 + b1 % 64 * 64 + b2 % 64 ≤ 1114111) by omega)]; exact ⟨3, rfl, rfl, by omega, fun h => by have := h.2; simp at this⟩
  rw [if_neg (show ¬ (224 ≤ b0 ∧ b0 < 240) by omega), if_neg (show ¬ (b0 / 16 = 14 ∧ _) by omega)]
  by_cases c3 : b0 / 8 = 30
  · rw [if_pos (show 240 ≤ b0 ∧ b0 < 248 by omega)]
    by_cases d1 : n ≤ 1 ∨ b1 < 128 ∨ 192 ≤ b1
    · left
      rw [if_pos d1, if_neg (by omega)]
      exact ⟨rfl, rfl⟩
    by_cases d2 : n ≤ 2 ∨ b2 < 128 ∨ 192 ≤ b2
    · left
      rw [if_neg d1, if_pos d2, if_neg (by omega)]
      exact ⟨rfl, rfl⟩
    by_cases d3 : n ≤ 3 ∨ b3 < 128 ∨ 192 ≤ b3
    · left
      rw [if_neg d1, if_neg d2, if_pos d3, if_neg (by omega)]
      exact ⟨rfl, rfl⟩
    · rw [if_neg d1, if_neg d2, if_neg d3, if_pos (show b0 / 8 = 30 ∧ (1 < n ∧ b1 / 64 = 2) ∧ (2 < n ∧ b2 / 64 = 2) ∧ 3 < n ∧ b3 / 64 = 2 by omega)]
      by_cases d4 : (((b0 - 240) * 64 + b1 - 128) * 64 + b2 - 128) * 64 + b3 - 128 < 65536 ∨ 1114111 < (((b0 - 240) * 64 + b1 - 128) * 64 + b2 - 128) * 64 + b3 - 128
      · left; rw [if_pos d4, if_neg (show ¬ (b0 % 8 * 262144 + b1 % 64 * 4096 + b2 % 64 * 64 + b3 % 64 ≥ 65536 ∧ (b0 % 8 * 262144 + b1 % 64 * 4096 + b2 % 64 * 64 + b3 % 64 < 55296 ∨ 57344 ≤ b0 % 8 * 262144 + b1 % 64 * 4096 + b2 % 64 * 64 + b3 % 64 ∧ b0 % 8 * 262144 + b1 % 64 * 4096 + b2 % 64 * 64 + b3 % 64 ≤ 1114111)) by omega)]; exact ⟨rfl, rfl⟩
      · right; rw [if_neg d4, if_pos (show b0 % 8 * 262144 + b1 % 64 * 4096 + b2 % 64 * 64 + b3 % 64 ≥ 65536 ∧ (b0 % 8 * 262144 + b1 % 64 * 4096 + b2 % 64 * 64 + b3 % 64 < 55296 ∨ 57344 ≤ b0 % 8 * 262144 + b1 % 64 * 4096 + b2 % 64 * 64 + b3 % 64 ∧ b0 % 8 * 262144 + b1 % 64 * 4096 + b2 % 64 * 64 + b3 % 64 ≤ 1114111) by omega)]; exact ⟨4, rfl, rfl, by omega, fun h => by have := h.2; simp at this⟩
  rw [if_neg (show ¬ (240 ≤ b0 ∧ b0 < 248) by omega), if_neg (show ¬ (b0 / 8 = 30 ∧ _) by omega)]
  left; exact ⟨rfl, rfl⟩
/-- A byte of a text; nought beyond it. -/
def byt (s : ByteArray) (i : Nat) : Nat := (s.data.toList.getD i 0).toNat
theorem byt_at (s : ByteArray) (i : Nat) (h : i < s.size) : s[i].toNat = byt s i := by
  unfold byt
  rw [List.getD_eq_getElem?_getD, List.getElem?_eq_getElem (by rw [← Lib.size_eq]; exact h)]
  rfl
theorem byt_lt (s : ByteArray) (i : Nat) : byt s i < 256 := by unfold byt; exact UInt8.toNat_lt _
/-- The rest of a text is valid. -/
def vrest (s : ByteArray) (i : Nat) : Bool := Lib.validD (s.data.toList.drop i)
theorem vrest_step (s : ByteArray) (i : Nat) (h : i < s.size) : vrest s i = match ustep (s.size - i) (byt s i) (byt s (i + 1)) (byt s (i + 2)) (byt s (i + 3)) with | none => false | some k => vrest s (i + k) := by
  have hne : s.data.toList.drop i ≠ [] := by
    intro e
    have := congrArg List.length e
    rw [List.length_drop, ← Lib.size_eq] at this
    simp at this
    omega
  have hg : ∀ j, (s.data.toList.drop i).getD j 0 = s.data.toList.getD (i + j) 0 := fun j => by simp [List.getD_eq_getElem?_getD, List.getElem?_drop]
  unfold vrest
  rw [Lib.validD_step _ hne, Lib.decodeL_N, hg, hg, hg, hg, List.length_drop, ← Lib.size_eq, Nat.add_zero]
  rcases ustep_decode (s.size - i) (byt s i) (byt s (i + 1)) (byt s (i + 2)) (byt s (i + 3)) (byt_lt _ _) (byt_lt _ _) (byt_lt _ _) (byt_lt _ _) with ⟨h1, h2⟩ | ⟨k, h1, h2, h3, h4⟩
  · rw [h1]
    unfold byt at h2
    rw [h2]
    simp
  · rw [h1]
    unfold byt at h2 h4
    rw [if_neg h4, h2, List.drop_drop]
theorem vrest_all (s : ByteArray) (i : Nat) (h : s.size ≤ i) : vrest s i = true := by
  unfold vrest
  rw [List.drop_eq_nil_of_le (by rw [← Lib.size_eq]; exact h)]
  rfl
end Go.Proofs.YtkapejcbmonfkaaGreatDoor

namespace Go.Proofs.YtkapejcbmonfkaaGreatDoor
open Go.RowKit

set_option maxRecDepth 100000 in
set_option maxHeartbeats 16000000 in
theorem utf_any (s : ByteArray) (w : World) (hs : s.size ≤ maxLen) : Calls Tryz.prog 113 #[.string s] w fun e w' => e = .returned (.bool (vrest s 0)) ∧ w = w' := by
  unfold maxLen at hs
  obtain ⟨r, hr⟩ : ∃ r, r = vrest s 0 := ⟨_, rfl⟩
  rw [← hr]
  have HR := hid hr
  clear hr
  go_enter Tryz.func113, Tryz.ntmps113
  go_wp2
  go_loop [3] (fun i => ∃ k : Nat, k ≤ s.size ∧ i = .int .i64 (k : Int) ∧ Hid (r = vrest s k)) (fun i => s.size - (intOf i).toNat)
  case atStart => exact ⟨0, by omega, rfl, HR⟩
  case round =>
    clear HR
    obtain ⟨k, hk, rfl, hr⟩ := hrel
    by_cases hlt : k < s.size
    · have hstep := hid (vrest_step s k hlt)
      have e0 := hid (byt_at s k hlt)
      have c0 : s[k].toNat < 256 := s[k].toNat_lt
      rcases (show s[k].toNat < 128 ∨ (128 ≤ s[k].toNat ∧ s[k].toNat < 192) ∨ (192 ≤ s[k].toNat ∧ s[k].toNat < 224) ∨ (224 ≤ s[k].toNat ∧ s[k].toNat < 240) ∨ (240 ≤ s[k].toNat ∧ s[k].toNat < 248) ∨ 248 ≤ s[k].toNat by omega) with h | ⟨h, h'⟩ | ⟨h, h'⟩ | ⟨h, h'⟩ | ⟨h, h'⟩ | h
      · have HF := hid (show r = vrest s (k + 1) by rw [hr.out, hstep.out]; unfold ustep; rw [← e0.out, if_pos h])
        clear hstep e0 hr
        go_wp2
        go_round
        case rel => exact ⟨k + 1, by omega, by go_num, HF⟩
        case measure => simp [intOf]; omega
      · have HF := hid (show r = false by rw [hr.out, hstep.out]; unfold ustep; rw [← e0.out, if_neg (by omega), if_neg (by omega), if_neg (by omega), if_neg (by omega)])
        clear hstep e0 hr
        go_wp2
        go_ret
        exact ⟨by rw [HF.out]; rfl, rfl⟩
      · go_wp2
        refine wp_loop_rounds 2 ?_
        rw [rounds_succ]
        by_cases a1 : s.size ≤ k + 1
        · have d1 : s.size - k ≤ 1 ∨ byt s (k + 1) < 128 ∨ 192 ≤ byt s (k + 1) := .inl (by omega)
          have HF := hid (show r = false by rw [hr.out, hstep.out]; unfold ustep; rw [← e0.out, if_neg (by omega), if_pos (by omega), if_pos d1])
          clear hstep e0 hr d1 
          go_wp2
          go_ret
          exact ⟨by rw [HF.out]; rfl, rfl⟩
        have e1 := hid (byt_at s (k + 1) (by omega))
        have a1' : k + 1 < s.size := by omega
        have c1 : s[k + 1].toNat < 256 := s[k + 1].toNat_lt
        by_cases b1 : s[k + 1].toNat < 128
        · have d1 : s.size - k ≤ 1 ∨ byt s (k + 1) < 128 ∨ 192 ≤ byt s (k + 1) := .inr (.inl (by rw [← e1.out]; exact b1))
          have HF := hid (show r = false by rw [hr.out, hstep.out]; unfold ustep; rw [← e0.out, if_neg (by omega), if_pos (by omega), if_pos d1])
          clear e1 hstep e0 hr d1 
          go_wp2
          go_ret
          exact ⟨by rw [HF.out]; rfl, rfl⟩
        by_cases b1' : 192 ≤ s[k + 1].toNat
        · have d1 : s.size - k ≤ 1 ∨ byt s (k + 1) < 128 ∨ 192 ≤ byt s (k + 1) := .inr (.inr (by rw [← e1.out]; exact b1'))
          have HF := hid (show r = false by rw [hr.out, hstep.out]; unfold ustep; rw [← e0.out, if_neg (by omega), if_pos (by omega), if_pos d1])
          clear e1 hstep e0 hr d1 
          go_wp2
          go_ret
          exact ⟨by rw [HF.out]; rfl, rfl⟩
        have d1 := hid (show ¬ (s.size - k ≤ 1 ∨ byt s (k + 1) < 128 ∨ 192 ≤ byt s (k + 1)) by rw [← e1.out]; omega)
        go_wp2
        rw [rounds_succ]
        by_cases g0 : ((s[k].toNat - 192) * 64 + s[k + 1].toNat - 128) < 128
        · have HF := hid (show r = false by rw [hr.out, hstep.out]; unfold ustep; rw [← e0.out, if_neg (by omega), if_pos (by omega), if_neg d1.out, ← e1.out, if_pos (show ((s[k].toNat - 192) * 64 + s[k + 1].toNat - 128) < 128 from g0)])
          clear hstep e0 hr d1 e1
          go_wp2
          go_ret
          exact ⟨by rw [HF.out]; rfl, rfl⟩
        have HF := hid (show r = vrest s (k + 2) by rw [hr.out, hstep.out]; unfold ustep; rw [← e0.out, if_neg (by omega), if_pos (by omega), if_neg d1.out, ← e1.out, if_neg (show ¬ (((s[k].toNat - 192) * 64 + s[k + 1].toNat - 128) < 128) from g0)])
        clear hstep e0 hr d1 e1
        go_wp2
        go_round
        case rel => exact ⟨k + 2, by omega, by go_num, HF⟩
        case measure => simp [intOf]; omega
      · go_wp2
        refine wp_loop_rounds 3 ?_
        rw [rounds_succ]
        by_cases a1 : s.size ≤ k + 1
        · have d1 : s.size - k ≤ 1 ∨ byt s (k + 1) < 128 ∨ 192 ≤ byt s (k + 1) := .inl (by omega)
          have HF := hid (show r = false by rw [hr.out, hstep.out]; unfold ustep; rw [← e0.out, if_neg (by omega), if_neg (by omega), if_pos (by omega), if_pos d1])
          clear hstep e0 hr d1 
          go_wp2
          go_ret
          exact ⟨by rw [HF.out]; rfl, rfl⟩
        have e1 := hid (byt_at s (k + 1) (by omega))
        have a1' : k + 1 < s.size := by omega
        have c1 : s[k + 1].toNat < 256 := s[k + 1].toNat_lt
        by_cases b1 : s[k + 1].toNat < 128
        · have d1 : s.size - k ≤ 1 ∨ byt s (k + 1) < 128 ∨ 192 ≤ byt s (k + 1) := .inr (.inl (by rw [← e1.out]; exact b1))
          have HF := hid (show r = false by rw [hr.out, hstep.out]; unfold ustep; rw [← e0.out, if_neg (by omega), if_neg (by omega), if_pos (by omega), if_pos d1])
          clear e1 hstep e0 hr d1 
          go_wp2
          go_ret
          exact ⟨by rw [HF.out]; rfl, rfl⟩
        by_cases b1' : 192 ≤ s[k + 1].toNat
        · have d1 : s.size - k ≤ 1 ∨ byt s (k + 1) < 128 ∨ 192 ≤ byt s (k + 1) := .inr (.inr (by rw [← e1.out]; exact b1'))
          have HF := hid (show r = false by rw [hr.out, hstep.out]; unfold ustep; rw [← e0.out, if_neg (by omega), if_neg (by omega), if_pos (by omega), if_pos d1])
          clear e1 hstep e0 hr d1 
          go_wp2
          go_ret
          exact ⟨by rw [HF.out]; rfl, rfl⟩
        have d1 := hid (show ¬ (s.size - k ≤ 1 ∨ byt s (k + 1) < 128 ∨ 192 ≤ byt s (k + 1)) by rw [← e1.out]; omega)
        go_wp2
        rw [rounds_succ]
        by_cases a2 : s.size ≤ k + 2
        · have d2 : s.size - k ≤ 2 ∨ byt s (k + 2) < 128 ∨ 192 ≤ byt s (k + 2) := .inl (by omega)
          have HF := hid (show r = false by rw [hr.out, hstep.out]; unfold ustep; rw [← e0.out, if_neg (by omega), if_neg (by omega), if_pos (by omega), if_neg d1.out, if_pos d2])
          clear hstep e0 hr d2 d1 e1
          go_wp2
          go_ret
          exact ⟨by rw [HF.out]; rfl, rfl⟩
        have e2 := hid (byt_at s (k + 2) (by omega))
        have a2' : k + 2 < s.size := by omega
        have c2 : s[k + 2].toNat < 256 := s[k + 2].toNat_lt
        by_cases b2 : s[k + 2].toNat < 128
        · have d2 : s.size - k ≤ 2 ∨ byt s (k + 2) < 128 ∨ 192 ≤ byt s (k + 2) := .inr (.inl (by rw [← e2.out]; exact b2))
          have HF := hid (show r = false by rw [hr.out, hstep.out]; unfold ustep; rw [← e0.out, if_neg (by omega), if_neg (by omega), if_pos (by omega), if_neg d1.out, if_pos d2])
          clear e2 hstep e0 hr d2 d1 e1
          go_wp2
          go_ret
          exact ⟨by rw [HF.out]; rfl, rfl⟩
        by_cases b2' : 192 ≤ s[k + 2].toNat
        · have d2 : s.size - k ≤ 2 ∨ byt s (k + 2) < 128 ∨ 192 ≤ byt s (k + 2) := .inr (.inr (by rw [← e2.out]; exact b2'))
          have HF := hid (show r = false by rw [hr.out, hstep.out]; unfold ustep; rw [← e0.out, if_neg (by omega), if_neg (by omega), if_pos (by omega), if_neg d1.out, if_pos d2])
          clear e2 hstep e0 hr d2 d1 e1
          go_wp2
          go_ret
          exact ⟨by rw [HF.out]; rfl, rfl⟩
        have d2 := hid (show ¬ (s.size - k ≤ 2 ∨ byt s (k + 2) < 128 ∨ 192 ≤ byt s (k + 2)) by rw [← e2.out]; omega)
        go_wp2
        rw [rounds_succ]
        by_cases g0 : (((s[k].toNat - 224) * 64 + s[k + 1].toNat - 128) * 64 + s[k + 2].toNat - 128) < 2048
        · have HF := hid (show r = false by rw [hr.out, hstep.out]; unfold ustep; rw [← e0.out, if_neg (by omega), if_neg (by omega), if_pos (by omega), if_neg d1.out, if_neg d2.out, ← e1.out, ← e2.out, if_pos (show ((((s[k].toNat - 224) * 64 + s[k + 1].toNat - 128) * 64 + s[k + 2].toNat - 128) < 2048) ∨ (55296 ≤ (((s[k].toNat - 224) * 64 + s[k + 1].toNat - 128) * 64 + s[k + 2].toNat - 128) ∧ (((s[k].toNat - 224) * 64 + s[k + 1].toNat - 128) * 64 + s[k + 2].toNat - 128) < 57344) from .inl g0)])
          clear hstep e0 hr d1 e1 d2 e2
          go_wp2
          go_ret
          exact ⟨by rw [HF.out]; rfl, rfl⟩
        by_cases g1 : 55296 ≤ (((s[k].toNat - 224) * 64 + s[k + 1].toNat - 128) * 64 + s[k + 2].toNat - 128) ∧ (((s[k].toNat - 224) * 64 + s[k + 1].toNat - 128) * 64 + s[k + 2].toNat - 128) < 57344
        · have HF := hid (show r = false by rw [hr.out, hstep.out]; unfold ustep; rw [← e0.out, if_neg (by omega), if_neg (by omega), if_pos (by omega), if_neg d1.out, if_neg d2.out, ← e1.out, ← e2.out, if_pos (show ((((s[k].toNat - 224) * 64 + s[k + 1].toNat - 128) * 64 + s[k + 2].toNat - 128) < 2048) ∨ (55296 ≤ (((s[k].toNat - 224) * 64 + s[k + 1].toNat - 128) * 64 + s[k + 2].toNat - 128) ∧ (((s[k].toNat - 224) * 64 + s[k + 1].toNat - 128) * 64 + s[k + 2].toNat - 128) < 57344) from .inr g1)])
          clear hstep e0 hr d1 e1 d2 e2
          go_wp2
          go_ret
          exact ⟨by rw [HF.out]; rfl, rfl⟩
        have HF := hid (show r = vrest s (k + 3) by rw [hr.out, hstep.out]; unfold ustep; rw [← e0.out, if_neg (by omega), if_neg (by omega), if_pos (by omega), if_neg d1.out, if_neg d2.out, ← e1.out, ← e2.out, if_neg (show ¬ (((((s[k].toNat - 224) * 64 + s[k + 1].toNat - 128) * 64 + s[k + 2].toNat - 128) < 2048) ∨ (55296 ≤ (((s[k].toNat - 224) * 64 + s[k + 1].toNat - 128) * 64 + s[k + 2].toNat - 128) ∧ (((s[k].toNat - 224) * 64 + s[k + 1].toNat - 128) * 64 + s[k + 2].toNat - 128) < 57344)) from fun h => h.elim g0 g1)])
        clear hstep e0 hr d1 e1 d2 e2
        rcases (show (((s[k].toNat - 224) * 64 + s[k + 1].toNat - 128) * 64 + s[k + 2].toNat - 128) < 55296 ∨ 57344 ≤ (((s[k].toNat - 224) * 64 + s[k + 1].toNat - 128) * 64 + s[k + 2].toNat - 128) by omega) with g2 | g2
        · go_wp2
          go_round
          case rel => exact ⟨k + 3, by omega, by go_num, HF⟩
          case measure => simp [intOf]; omega
        · go_wp2
          go_round
          case rel => exact ⟨k + 3, by omega, by go_num, HF⟩
          case measure => simp [intOf]; omega
      · go_wp2
        refine wp_loop_rounds 4 ?_
        rw [rounds_succ]
        by_cases a1 : s.size ≤ k + 1
        · have d1 : s.size - k ≤ 1 ∨ byt s (k + 1) < 128 ∨ 192 ≤ byt s (k + 1) := .inl (by omega)
          have HF := hid (show r = false by rw [hr.out, hstep.out]; unfold ustep; rw [← e0.out, if_neg (by omega), if_neg (by omega), if_neg (by omega), if_pos (by omega), if_pos d1])
          clear hstep e0 hr d1 
          go_wp2
          go_ret
          exact ⟨by rw [HF.out]; rfl, rfl⟩
        have e1 := hid (byt_at s (k + 1) (by omega))
        have a1' : k + 1 < s.size := by omega
        have c1 : s[k + 1].toNat < 256 := s[k + 1].toNat_lt
        by_cases b1 : s[k + 1].toNat < 128
        · have d1 : s.size - k ≤ 1 ∨ byt s (k + 1) < 128 ∨ 192 ≤ byt s (k + 1) := .inr (.inl (by rw [← e1.out]; exact b1))
          have HF := hid (show r = false by rw [hr.out, hstep.out]; unfold ustep; rw [← e0.out, if_neg (by omega), if_neg (by omega), if_neg (by omega), if_pos (by omega), if_pos d1])
          clear e1 hstep e0 hr d1 
          go_wp2
          go_ret
          exact ⟨by rw [HF.out]; rfl, rfl⟩
        by_cases b1' : 192 ≤ s[k + 1].toNat
        · have d1 : s.size - k ≤ 1 ∨ byt s (k + 1) < 128 ∨ 192 ≤ byt s (k + 1) := .inr (.inr (by rw [← e1.out]; exact b1'))
          have HF := hid (show r = false by rw [hr.out, hstep.out]; unfold ustep; rw [← e0.out, if_neg (by omega), if_neg (by omega), if_neg (by omega), if_pos (by omega), if_pos d1])
          clear e1 hstep e0 hr d1 
          go_wp2
          go_ret
          exact ⟨by rw [HF.out]; rfl, rfl⟩
        have d1 := hid (show ¬ (s.size - k ≤ 1 ∨ byt s (k + 1) < 128 ∨ 192 ≤ byt s (k + 1)) by rw [← e1.out]; omega)
        go_wp2
        rw [rounds_succ]
        by_cases a2 : s.size ≤ k + 2
        · have d2 : s.size - k ≤ 2 ∨ byt s (k + 2) < 128 ∨ 192 ≤ byt s (k + 2) := .inl (by omega)
          have HF := hid (show r = false by rw [hr.out, hstep.out]; unfold ustep; rw [← e0.out, if_neg (by omega), if_neg (by omega), if_neg (by omega), if_pos (by omega), if_neg d1.out, if_pos d2])
          clear hstep e0 hr d2 d1 e1
          go_wp2
          go_ret
          exact ⟨by rw [HF.out]; rfl, rfl⟩
        have e2 := hid (byt_at s (k + 2) (by omega))
        have a2' : k + 2 < s.size := by omega
        have c2 : s[k + 2].toNat < 256 := s[k + 2].toNat_lt
        by_cases b2 : s[k + 2].toNat < 128
        · have d2 : s.size - k ≤ 2 ∨ byt s (k + 2) < 128 ∨ 192 ≤ byt s (k + 2) := .inr (.inl (by rw [← e2.out]; exact b2))
          have HF := hid (show r = false by rw [hr.out, hstep.out]; unfold ustep; rw [← e0.out, if_neg (by omega), if_neg (by omega), if_neg (by omega), if_pos (by omega), if_neg d1.out, if_pos d2])
          clear e2 hstep e0 hr d2 d1 e1
          go_wp2
          go_ret
          exact ⟨by rw [HF.out]; rfl, rfl⟩
        by_cases b2' : 192 ≤ s[k + 2].toNat
        · have d2 : s.size - k ≤ 2 ∨ byt s (k + 2) < 128 ∨ 192 ≤ byt s (k + 2) := .inr (.inr (by rw [← e2.out]; exact b2'))
          have HF := hid (show r = false by rw [hr.out, hstep.out]; unfold ustep; rw [← e0.out, if_neg (by omega), if_neg (by omega), if_neg (by omega), if_pos (by omega), if_neg d1.out, if_pos d2])
          clear e2 hstep e0 hr d2 d1 e1
          go_wp2
          go_ret
          exact ⟨by rw [HF.out]; rfl, rfl⟩
        have d2 := hid (show ¬ (s.size - k ≤ 2 ∨ byt s (k + 2) < 128 ∨ 192 ≤ byt s (k + 2)) by rw [← e2.out]; omega)
        go_wp2
        rw [rounds_succ]
        by_cases a3 : s.size ≤ k + 3
        · have d3 : s.size - k ≤ 3 ∨ byt s (k + 3) < 128 ∨ 192 ≤ byt s (k + 3) := .inl (by omega)
          have HF := hid (show r = false by rw [hr.out, hstep.out]; unfold ustep; rw [← e0.out, if_neg (by omega), if_neg (by omega), if_neg (by omega), if_pos (by omega), if_neg d1.out, if_neg d2.out, if_pos d3])
          clear hstep e0 hr d3 d1 e1 d2 e2
          go_wp2
          go_ret
          exact ⟨by rw [HF.out]; rfl, rfl⟩
        have e3 := hid (byt_at s (k + 3) (by omega))
        have a3' : k + 3 < s.size := by omega
        have c3 : s[k + 3].toNat < 256 := s[k + 3].toNat_lt
        by_cases b3 : s[k + 3].toNat < 128
        · have d3 : s.size - k ≤ 3 ∨ byt s (k + 3) < 128 ∨ 192 ≤ byt s (k + 3) := .inr (.inl (by rw [← e3.out]; exact b3))
          have HF := hid (show r = false by rw [hr.out, hstep.out]; unfold ustep; rw [← e0.out, if_neg (by omega), if_neg (by omega), if_neg (by omega), if_pos (by omega), if_neg d1.out, if_neg d2.out, if_pos d3])
          clear e3 hstep e0 hr d3 d1 e1 d2 e2
          go_wp2
          go_ret
          exact ⟨by rw [HF.out]; rfl, rfl⟩
        by_cases b3' : 192 ≤ s[k + 3].toNat
        · have d3 : s.size - k ≤ 3 ∨ byt s (k + 3) < 128 ∨ 192 ≤ byt s (k + 3) := .inr (.inr (by rw [← e3.out]; exact b3'))
          have HF := hid (show r = false by rw [hr.out, hstep.out]; unfold ustep; rw [← e0.out, if_neg (by omega), if_neg (by omega), if_neg (by omega), if_pos (by omega), if_neg d1.out, if_neg d2.out, if_pos d3])
          clear e3 hstep e0 hr d3 d1 e1 d2 e2
          go_wp2
          go_ret
          exact ⟨by rw [HF.out]; rfl, rfl⟩
        have d3 := hid (show ¬ (s.size - k ≤ 3 ∨ byt s (k + 3) < 128 ∨ 192 ≤ byt s (k + 3)) by rw [← e3.out]; omega)
        go_wp2
        rw [rounds_succ]
        by_cases g0 : ((((s[k].toNat - 240) * 64 + s[k + 1].toNat - 128) * 64 + s[k + 2].toNat - 128) * 64 + s[k + 3].toNat - 128) < 65536
        · have HF := hid (show r = false by rw [hr.out, hstep.out]; unfold ustep; rw [← e0.out, if_neg (by omega), if_neg (by omega), if_neg (by omega), if_pos (by omega), if_neg d1.out, if_neg d2.out, if_neg d3.out, ← e1.out, ← e2.out, ← e3.out, if_pos (show (((((s[k].toNat - 240) * 64 + s[k + 1].toNat - 128) * 64 + s[k + 2].toNat - 128) * 64 + s[k + 3].toNat - 128) < 65536) ∨ (1114111 < ((((s[k].toNat - 240) * 64 + s[k + 1].toNat - 128) * 64 + s[k + 2].toNat - 128) * 64 + s[k + 3].toNat - 128)) from .inl g0)])
          clear hstep e0 hr d1 e1 d2 e2 d3 e3
          go_wp2
          go_ret
          exact ⟨by rw [HF.out]; rfl, rfl⟩
        by_cases g1 : 1114111 < ((((s[k].toNat - 240) * 64 + s[k + 1].toNat - 128) * 64 + s[k + 2].toNat - 128) * 64 + s[k + 3].toNat - 128)
        · have HF := hid (show r = false by rw [hr.out, hstep.out]; unfold ustep; rw [← e0.out, if_neg (by omega), if_neg (by omega), if_neg (by omega), if_pos (by omega), if_neg d1.out, if_neg d2.out, if_neg d3.out, ← e1.out, ← e2.out, ← e3.out, if_pos (show (((((s[k].toNat - 240) * 64 + s[k + 1].toNat - 128) * 64 + s[k + 2].toNat - 128) * 64 + s[k + 3].toNat - 128) < 65536) ∨ (1114111 < ((((s[k].toNat - 240) * 64 + s[k + 1].toNat - 128) * 64 + s[k + 2].toNat - 128) * 64 + s[k + 3].toNat - 128)) from .inr g1)])
          clear hstep e0 hr d1 e1 d2 e2 d3 e3
          go_wp2
          go_ret
          exact ⟨by rw [HF.out]; rfl, rfl⟩
        have HF := hid (show r = vrest s (k + 4) by rw [hr.out, hstep.out]; unfold ustep; rw [← e0.out, if_neg (by omega), if_neg (by omega), if_neg (by omega), if_pos (by omega), if_neg d1.out, if_neg d2.out, if_neg d3.out, ← e1.out, ← e2.out, ← e3.out, if_neg (show ¬ ((((((s[k].toNat - 240) * 64 + s[k + 1].toNat - 128) * 64 + s[k + 2].toNat - 128) * 64 + s[k + 3].toNat - 128) < 65536) ∨ (1114111 < ((((s[k].toNat - 240) * 64 + s[k + 1].toNat - 128) * 64 + s[k + 2].toNat - 128) * 64 + s[k + 3].toNat - 128))) from fun h => h.elim g0 g1)])
        clear hstep e0 hr d1 e1 d2 e2 d3 e3
        go_wp2
        go_round
        case rel => exact ⟨k + 4, by omega, by go_num, HF⟩
        case measure => simp [intOf]; omega
      · have HF := hid (show r = false by rw [hr.out, hstep.out]; unfold ustep; rw [← e0.out, if_neg (by omega), if_neg (by omega), if_neg (by omega), if_neg (by omega)])
        clear hstep e0 hr
        go_wp2
        go_ret
        exact ⟨by rw [HF.out]; rfl, rfl⟩
    · have HF := hid (show r = true by rw [hr.out]; exact vrest_all s k (by omega))
      clear hr
      go_wp2
      go_ret
      exact ⟨by rw [HF.out]; rfl, rfl⟩
end Go.Proofs.YtkapejcbmonfkaaGreatDoor
