/- Walks: divide, by one limb; divideBoth. Walks: groupOf, digitOf, areDigits. Walks: appendGroup. -/
import Derived.Test.YtiaddfedaikaiaaGreatDoorBigW13m
import Derived.Test.YtiaddfedaikaiaaGreatDoorBigW1
namespace Go.Proofs.YtiaddfedaikaiaaGreatDoor
open Go.RowKit Lm

theorem Rd.nil (w : World) : Rd w none 0 0 [] := ⟨rfl, Ok.nil, Nat.le_refl _, by omega, fun h => by omega⟩

end Go.Proofs.YtiaddfedaikaiaaGreatDoor

namespace Go.Proofs.YtiaddfedaikaiaaGreatDoor
open Go.RowKit Lm

theorem pow_width {r k : Nat} (hr : 2 ≤ r) (h : r ^ k ≤ 4294967295) : k ≤ 31 := by
  apply Nat.le_of_lt_succ
  apply Nat.lt_of_not_le
  intro hk
  have h1 : 2 ^ 32 ≤ 2 ^ k := Nat.pow_le_pow_right (by decide) hk
  have h2 : 2 ^ k ≤ r ^ k := Nat.pow_le_pow_left hr k
  omega

set_option maxRecDepth 100000 in
set_option maxHeartbeats 1000000 in
theorem groupOf_any (r : Nat) (w : World) (h2 : 2 ≤ r) (h36 : r ≤ 36) :
    Calls Tryz.prog 198 #[.int .i64 (r : Int)] w fun e w' => ∃ k p : Nat, e = .returned (.tuple #[.int .i64 (k : Int), .int .u32 (p : Int)]) ∧ p = r ^ k ∧ 1 ≤ k ∧ k ≤ 31 ∧ 1 ≤ p ∧ p ≤ 4294967295 ∧ w = w' := by
  go_enter Tryz.func198, Tryz.ntmps198
  go_wp2
  go_loop [2, 5] (fun a b => ∃ k p : Nat, a = .int .i64 (k : Int) ∧ b = .int .u64 (p : Int) ∧ Hid (p = r ^ k) ∧ 1 ≤ k ∧ k ≤ 31 ∧ 1 ≤ p ∧ p ≤ 4294967295) (fun _ b => (4294967296 - intOf b).toNat)
  case atStart => exact ⟨1, r, rfl, rfl, hid (by rw [Nat.pow_one]), by omega, by omega, by omega, by omega⟩
  case round =>
    obtain ⟨k, p, rfl, rfl, hp, hk1, hk, hp1, hpb⟩ := hrel
    have hq : p * r ≤ 4294967295 * 36 := Nat.mul_le_mul hpb h36
    have hq2 : p * 2 ≤ p * r := Nat.mul_le_mul_left _ h2
    have hqi : (p : Int) * (r : Int) ≤ 154618822620 := by have := Int.ofNat_le.2 hq; simpa using this
    have hq0 : 0 ≤ (p : Int) * (r : Int) := Int.mul_nonneg (by omega) (by omega)
    have hcast : (p : Int) * (r : Int) = ((p * r : Nat) : Int) := by simp [Int.natCast_mul]
    have HC := hid hcast
    clear hcast hq
    by_cases hle : p * r ≤ 4294967295
    · have hle' : (p : Int) * (r : Int) ≤ 4294967295 := by rw [HC.out]; omega
      have hpw : p * r = r ^ (k + 1) := by rw [hp.out, Nat.pow_succ]
      have hk2 := pow_width h2 (by rw [← hpw]; exact hle)
      have HPW := hid hpw
      clear hpw
      go_wp2
      go_round
      case rel => exact ⟨k + 1, p * r, by go_num, congrArg (Value.int .u64) HC.out, HPW, by omega, hk2, by omega, hle⟩
      case measure => simp only [intOf]; rw [HC.out]; omega
    · have hle' : ¬ (p : Int) * (r : Int) ≤ 4294967295 := by rw [HC.out]; omega
      go_wp2
      go_ret2
      exact ⟨k, p, rfl, hp.out, hk1, hk, hp1, hpb, rfl⟩

/-- What a digit counts; 36: it is none. -/
def dv (c : Nat) : Nat := if 48 ≤ c ∧ c ≤ 57 then c - 48 else if 97 ≤ c ∧ c ≤ 122 then c - 87 else if 65 ≤ c ∧ c ≤ 90 then c - 55 else 36
theorem dv_le (c : Nat) : dv c ≤ 36 := by unfold dv; split <;> (try split) <;> (try split) <;> omega

set_option maxRecDepth 100000 in
set_option maxHeartbeats 1000000 in
theorem digitOf_any (c : Nat) (w : World) (h : c < 256) :
    Calls Tryz.prog 190 #[.int .u8 (c : Int)] w fun e w' => e = .returned (.int .i64 (dv c : Int)) ∧ w = w' := by
  rcases (show (48 ≤ c ∧ c ≤ 57) ∨ (97 ≤ c ∧ c ≤ 122) ∨ (65 ≤ c ∧ c ≤ 90) ∨ c < 48 ∨ (57 < c ∧ c < 65) ∨ (90 < c ∧ c < 97) ∨ 122 < c by omega) with ⟨h1, h2⟩ | ⟨h1, h2⟩ | ⟨h1, h2⟩ | h1 | ⟨h1, h2⟩ | ⟨h1, h2⟩ | h1
  all_goals
    have e : ∃ z, dv c = z := ⟨_, rfl⟩
    obtain ⟨z, hz⟩ := e
    have HZ := hid hz
    rw [hz]
    clear hz
    go_enter Tryz.func190, Tryz.ntmps190
    go_wp2
    go_ret
    refine ⟨?_, rfl⟩
    have hz := HZ.out
    unfold dv at hz
    repeat' split at hz
    all_goals first | (exfalso; omega) | exact congrArg (fun z => Ending.returned (.int .i64 z)) (by omega)

/-- A text of digits of a radix, one at least. -/
def allD (s : ByteArray) (r : Nat) : Bool := decide (0 < s.size ∧ ∀ j (h : j < s.size), dv s[j].toNat < r)

set_option maxRecDepth 100000 in
set_option maxHeartbeats 1000000 in
theorem areDigits_any (s : ByteArray) (r : Nat) (w : World) (hs : s.size ≤ maxLen) (_hr : r ≤ 36) :
    Calls Tryz.prog 184 #[.string s, .int .i64 (r : Int)] w fun e w' => e = .returned (.bool (allD s r)) ∧ w = w' := by
  unfold maxLen at hs
  go_enter Tryz.func184, Tryz.ntmps184
  go_wp2
  go_loop [8] (fun i => ∃ k : Nat, k ≤ s.size ∧ i = .int .i64 (k : Int) ∧ Hid (∀ j (h : j < s.size), j < k → dv s[j].toNat < r)) (fun i => s.size - (intOf i).toNat)
  case atStart => exact ⟨0, by omega, rfl, hid (fun j _ h => by omega)⟩
  case round =>
    obtain ⟨k, hk, rfl, hall⟩ := hrel
    by_cases hlt : k < s.size
    · have hc : s[k].toNat < 256 := s[k].toNat_lt
      have hdl := dv_le s[k].toNat
      by_cases hd : dv s[k].toNat < r
      · go_wp2_with (go_at_call 190; refine (digitOf_any _ _ hc).mono ?_; rintro e w2 ⟨rfl, rfl⟩)
        go_round
        case rel =>
          refine ⟨k + 1, by omega, by go_num, hid ?_⟩
          intro j hj hjk
          by_cases e : j = k
          · subst e; exact hd
          · exact hall.out j hj (by omega)
        case measure => simp [intOf]; omega
      · have e : allD s r = false := by
          unfold allD; rw [decide_eq_false_iff_not]; intro h; exact hd (h.2 k hlt)
        have HE := hid e
        clear e
        go_wp2_with (go_at_call 190; refine (digitOf_any _ _ hc).mono ?_; rintro e w2 ⟨rfl, rfl⟩)
        go_ret
        exact ⟨by rw [HE.out]; rfl, rfl⟩
    · have e : allD s r = decide (0 < s.size) := by
        unfold allD; rw [Bool.eq_iff_iff, decide_eq_true_iff, decide_eq_true_iff]
        exact ⟨fun h => h.1, fun h => ⟨h, fun j hj => hall.out j hj (by omega)⟩⟩
      have HE := hid e
      clear e
      go_wp2
      go_ret
      exact ⟨by rw [HE.out]; simp, rfl⟩
end Go.Proofs.YtiaddfedaikaiaaGreatDoor

namespace Go.Proofs.YtiaddfedaikaiaaGreatDoor
open Go.RowKit Lm

def lims (L : List Nat) : List Value := L.map fun x : Nat => Value.int .u32 (x : Int)
theorem lims_len (L : List Nat) : (lims L).length = L.length := by simp [lims]
theorem lims_get (L : List Nat) (i : Nat) (h : i < L.length) : (lims L)[i]? = some (.int .u32 (dg L i : Int)) := by
  unfold lims dg; rw [getD_in _ _ h]; simp [h]
theorem lims_set (L : List Nat) (i : Nat) {z : Int} (x : Nat) (hz : z = (x : Int)) : (lims L).set i (.int .u32 z) = lims (L.set i x) := by
  subst hz; unfold lims; rw [List.map_set]
theorem lims_snoc (L : List Nat) {z : Int} (x : Nat) (hz : z = (x : Int)) : lims L ++ [.int .u32 z] = lims (L ++ [x]) := by subst hz; simp [lims]

theorem app_step {p c x q o c' s t g : Nat} (h : s + p * c = t * q + g) (he : c + x * q = o + 4294967296 * c') :
    (s + p * o) + p * 4294967296 * c' = (t + p * x) * q + g := by grind

/-- A slice of limbs of the call's own that may grow. -/
def Grow (B : Nat) (w : World) (v : Value) (L : List Nat) : Prop := w.ownsRow B 220 1 v L.length (lims L)

set_option maxRecDepth 100000 in
set_option maxHeartbeats 2000000 in
theorem appendGroup_any (B : Nat) (v : Value) (L : List Nat) (p x : Nat) (w : World) (hG : Grow B w v L) (hB : B ≤ w.heap.size) (hok : Ok L) (hl : L.length ≤ 5000) (hp : p < 4294967296) (hx : x < 4294967296) :
    Calls Tryz.prog 199 #[v, .int .u32 (p : Int), .int .u32 (x : Int)] w fun e w' => ∃ v' L', e = .returned v' ∧ Grow B w' v' L' ∧ Ok L' ∧ val L' = val L * p + x ∧ L'.length ≤ L.length + 1 ∧ Below B w w' := by
  obtain ⟨i0, hi, hz0, hz1, hz2⟩ := info_parts Tryz.info220
  rcases hG.2 with ⟨rfl, hn0⟩ | ⟨g, cap, cur, rfl, hBg, hgb, hnc, hcm, hcs, htk⟩
  · have hL : L = [] := List.eq_nil_of_length_eq_zero hn0
    subst hL
    clear hn0
    go_enter Tryz.func199, Tryz.ntmps199
    go_wp2
    go_loopw [7, 14] (fun c i wr => ∃ (cv : Nat), i = .int .i64 0 ∧ c = .int .u64 (cv : Int) ∧ cv < 4294967296 ∧ Hid (cv = x) ∧ Hid (wr = w)) (fun _ i _ => 0)
    case atStart => exact ⟨x, rfl, rfl, hx, hid rfl, hid rfl⟩
    case round =>
      obtain ⟨cv, rfl, rfl, hcv, hcx, hwr⟩ := hrel
      obtain rfl := hwr.out
      clear hwr
      by_cases hc0 : 0 < cv
      · go_wp2_with (at_builtin; refine wpList_append_own _ rfl _ _ 194 rfl B 220 i0 (.int .u32 0) 1 4 Tryz.underlying194 hi hz0 hz1 hz2 rfl (by decide) _ 0 [] rfl (World.ownsRow_nil _ _ _ _) ⟨wr.heap.size, 0, none⟩ 1 1 [.int .u32 (cv : Int)] rfl rfl ?c1 ?c2 ?c3 ?c4 ?c5 ?_)
        case c1 =>
          intro j u hj
          match j, hj with
          | 0, hj => simp at hj; subst hj; simp [Addr.add]
        case c2 => intro u hu; simp at hu; subst hu; rfl
        case c3 => unfold maxLen; omega
        case c4 => omega
        case c5 => have := (Below.refl B wr).size; simp; omega
        intro v' w1 hown' hgrow _
        have hb1 : Below B wr w1 := (Below.refl B wr).trans (((Below.refl B _).alloc (by have := (Below.refl B wr).size; omega) _).grown hgrow (by have := (Below.refl B wr).size; simp; omega) (by intro k hk; simp [Value.ownBlock] at hk))
        clear hgrow
        go_wp2
        go_ret
        refine ⟨v', ([] : List Nat) ++ [cv], rfl, ?_, (Ok.nil).snoc hcv, ?_, by simp [List.length_nil], hb1⟩
        · exact hown'
        · rw [val_snoc, List.length_nil]; exact (by simp [val, P]; exact hcx.out)
      · have hc : cv = 0 := by omega
        have HC0 := hid hc
        clear hc
        go_wp2
        go_ret
        exact ⟨_, [], rfl, hG, Ok.nil, by have := hcx.out; have := HC0.out; simp [val]; omega, by simp, Below.refl _ _⟩
  · clear hgb hnc hcm hcs htk
    go_enter Tryz.func199, Tryz.ntmps199
    go_wp2
    go_loopw [7, 14] (fun c i wr => ∃ (k cv : Nat) (M : List Nat), k ≤ L.length ∧ i = .int .i64 (k : Int) ∧ c = .int .u64 (cv : Int) ∧ cv < 4294967296 ∧ Hid (M.length = k) ∧ Ok M ∧ Hid (val M + P k * cv = val (L.take k) * p + x) ∧
        wr.ownsRow B 220 1 (.slice (some ⟨g, 0, none⟩) L.length cap) L.length (lims (M ++ L.drop k)) ∧ Below B w wr) (fun _ i _ => L.length - (intOf i).toNat)
    case atStart => exact ⟨0, x, [], by omega, rfl, rfl, hx, hid rfl, Ok.nil, hid (by simp [val, P]), hG, Below.refl _ _⟩
    case round =>
      obtain ⟨k, cv, M, hk, rfl, rfl, hcv, hM, hokM, hval, hown, hbel⟩ := hrel
      by_cases hlt : k < L.length
      · have hcell := hown.cellAt k (by omega)
        rw [lims_get _ _ (by rw [len_mid M L k hM.out (by omega)]; exact hlt), dg_mid M L k hM.out] at hcell
        have hfr := hown.frozenAt k
        have hy := hok.dg k
        have hpr : dg L k * p ≤ 4294967295 * 4294967295 := Nat.mul_le_mul (by omega) (by omega)
        have hpi : (dg L k : Int) * (p : Int) ≤ 18446744065119617025 := by have := Int.ofNat_le.2 hpr; simpa using this
        have hpn : 0 ≤ (dg L k : Int) * (p : Int) := Int.mul_nonneg (by omega) (by omega)
        obtain ⟨V, hV⟩ : ∃ V, V = cv + dg L k * p := ⟨_, rfl⟩
        have hcast : (cv : Int) + (dg L k : Int) * (p : Int) = (V : Int) := by rw [hV]; simp [Int.natCast_mul]
        have hVs : V ≤ 18446744073709551615 := by omega
        have HC := hid hcast
        have HV := hid hV
        clear hcast hV hpr
        go_wp2
        go_roundw
        case rel =>
          have hst := hown.stored k (Value.int .u32 (((cv : Int) + (dg L k : Int) * (p : Int)) % 4294967296))
          refine ⟨k + 1, V / 4294967296, M ++ [V % 4294967296], by omega, by go_num, congrArg (Value.int .u64) (by rw [HC.out]; omega), by omega, hid (by rw [List.length_append, hM.out]; rfl), hokM.snoc (by omega), hid ?_, ?_, hbel.setCell hBg _⟩
          · rw [val_snoc, hM.out, P_succ, val_take_dg L k hlt]
            exact app_step hval.out (by rw [← HV.out]; omega)
          · have h1 := hst.1
            rw [lims_set _ k (V % 4294967296) (by rw [HC.out]; omega), set_mid M L k _ hM.out hlt] at h1
            exact h1
        case measure => simp [intOf]; omega
      · obtain rfl : k = L.length := by omega
        rw [List.drop_length, List.append_nil] at hown
        have hv := hval.out
        rw [List.take_length] at hv
        have HF := hid hv
        clear hv
        by_cases hc0 : 0 < cv
        · go_wp2_with (at_builtin; refine wpList_append_own _ rfl _ _ 194 rfl B 220 i0 (.int .u32 0) 1 4 Tryz.underlying194 hi hz0 hz1 hz2 rfl (by decide) _ _ _ rfl (hown.alloc _) ⟨wr.heap.size, 0, none⟩ 1 1 [.int .u32 (cv : Int)] rfl rfl ?c1 ?c2 ?c3 ?c4 ?c5 ?_)
          case c1 =>
            intro j u hj
            match j, hj with
            | 0, hj => simp at hj; subst hj; simp [Addr.add]
          case c2 => intro u hu; simp at hu; subst hu; rfl
          case c3 => unfold maxLen; omega
          case c4 => omega
          case c5 => have := (hbel).size; simp; omega
          intro v' w1 hown' hgrow _
          have hb1 : Below B w w1 := (hbel).trans (((Below.refl B _).alloc (by have := (hbel).size; omega) _).grown hgrow (by have := (hbel).size; simp; omega) (by intro k hk; simp [Value.ownBlock] at hk; omega))
          clear hgrow
          go_wp2
          go_ret
          refine ⟨v', M ++ [cv], rfl, ?_, (hokM).snoc hcv, ?_, by simp [hM.out], hb1⟩
          · unfold Grow
            rw [List.length_append, hM.out]
            rw [lims_snoc _ cv rfl] at hown'
            exact hown'
          · rw [val_snoc, hM.out]; exact HF.out
        · have hc : cv = 0 := by omega
          have HC0 := hid hc
          clear hc
          go_wp2
          go_ret
          refine ⟨_, M, rfl, ?_, hokM, ?_, by rw [hM.out]; omega, hbel⟩
          · unfold Grow; rw [hM.out]; exact hown
          · have := HF.out; rw [HC0.out] at this; simpa using this
end Go.Proofs.YtiaddfedaikaiaaGreatDoor
