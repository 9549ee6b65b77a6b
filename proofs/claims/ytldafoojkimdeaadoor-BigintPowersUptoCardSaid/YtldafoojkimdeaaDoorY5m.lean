/- Answers of the program in the form that the laws ask, kept and refused. No condition but those that each theorem names. Gcd, Pow and Shift of the program in the form that the law asks. No condition but those that each theorem names. -/
import Derived.Test.YtldafoojkimdeaaDoorRefdm
import Derived.Test.YtldafoojkimdeaaDoorY3
namespace Go.Proofs.YtldafoojkimdeaaDoor
open Go.RowKit Lm

theorem AnsO.fits {B : Nat} {w w' : World} {n : Bool} {ao : Option Addr} {len : Nat} {c e v : Int} (h : Fits w w' n ao len c v) (he : e = 0) (hB : B ≤ w.heap.size) : AnsO B w w' n ao len c e v := by
  rcases h with ⟨h1, rfl, hN⟩ | ⟨h1, rfl, rfl, rfl, rfl⟩
  · exact ⟨.inr ⟨he, .inl ⟨h1, rfl, hN.mono hB⟩⟩, fun a e => (hN.own a e).symm⟩
  · exact ⟨.inr ⟨he, .inr ⟨h1, rfl, rfl, rfl, rfl⟩⟩, fun a e => by cases e⟩
theorem AnsO.refused {B : Nat} {w w' : World} {e v : Int} (h : e ≠ 0) : AnsO B w w' false none 0 e e v := ⟨.inl ⟨h, rfl, rfl, rfl, rfl⟩, fun a ha => by cases ha⟩
theorem AnsE.long {B : Nat} {w : World} {n : Bool} {ao : Option Addr} {len : Nat} {c v : Int} (h : AnsE B w n ao len c 0 v) (hl : 4096 < bl v.natAbs) : AnsE B w n ao len c 10 v := by
  rcases h with ⟨h0, _⟩ | ⟨_, ⟨h1, _⟩ | ⟨_, rfl, rfl, rfl, rfl⟩⟩
  · exact absurd rfl h0
  · omega
  · exact .inl ⟨by decide, rfl, rfl, rfl, rfl⟩
theorem AnsE.keep {B : Nat} {w w' : World} {n : Bool} {ao : Option Addr} {len : Nat} {c e v : Int} (h : AnsE B w n ao len c e v) (hb : Below w.heap.size w w') : AnsE B w' n ao len c e v := by
  rcases h with h | ⟨h0, ⟨h1, h2, hN⟩ | h⟩
  · exact .inl h
  · exact .inr ⟨h0, .inl ⟨h1, h2, hN.keep hb⟩⟩
  · exact .inr ⟨h0, .inr h⟩
end Go.Proofs.YtldafoojkimdeaaDoor

namespace Go.Proofs.YtldafoojkimdeaaDoor
open Go.RowKit Lm

theorem gcdE {B0 : Nat} {na : Bool} {aa : Option Addr} {la ca : Nat} {A : List Nat} {nb : Bool} {ab : Option Addr} {lb cb : Nat} {B : List Nat} {va vb e : Int} {w : World} (hA : Rd w aa la ca A) (hB : Rd w ab lb cb B) (ea : num na A = va) (eb : num nb B = vb) (he : e = if tooLong A || tooLong B then 10 else 0) (h0 : B0 ≤ w.heap.size) :
    Calls Tryd.prog 51 #[.agg #[.bool na, .slice aa la ca], .agg #[.bool nb, .slice ab lb cb]] w fun r w' => ∃ n ao len c, r = .returned (.tuple #[.agg #[.bool n, .slice ao len len], .int .i64 c]) ∧ AnsO B0 w w' n ao len c e (gcdi va vb) ∧ Below w.heap.size w w' := by
  cases hbad : (tooLong A || tooLong B) with
  | true =>
    rw [hbad] at he
    refine (gcd_bad na aa la ca A nb ab lb cb B w hA hB hbad).mono ?_
    rintro r w' ⟨rfl, hb⟩
    exact ⟨_, _, _, _, rfl, by rw [he]; exact AnsO.refused (by decide), hb⟩
  | false =>
    rw [hbad] at he
    refine (gcd_good na aa la ca A nb ab lb cb B w hA hB hbad).mono ?_
    rintro r w' ⟨n', ao', len', c, rfl, hf, hb⟩
    rw [val_of_num ea, val_of_num eb] at hf
    exact ⟨_, _, _, _, rfl, AnsO.fits hf he h0, hb⟩

/-- What Pow answers. -/
def powv (v n : Int) : Int := v ^ n.toNat
theorem powE {B0 : Nat} {na : Bool} {aa : Option Addr} {la ca : Nat} {A : List Nat} {va e N : Int} {w : World} (hA : Rd w aa la ca A) (ea : num na A = va) (hN : N ≤ 9223372036854775807) (he : e = if tooLong A then 10 else if N < 0 then 15 else 0) (h0 : B0 ≤ w.heap.size) :
    Calls Tryd.prog 52 #[.agg #[.bool na, .slice aa la ca], .int .i64 N] w fun r w' => ∃ n ao len c, r = .returned (.tuple #[.agg #[.bool n, .slice ao len len], .int .i64 c]) ∧ AnsO B0 w w' n ao len c e (powv va N) ∧ Below w.heap.size w w' := by
  cases hbad : tooLong A with
  | true =>
    rw [hbad] at he
    refine (pow_bad na aa la ca A N w hA hbad).mono ?_
    rintro r w' ⟨rfl, hb⟩
    exact ⟨_, _, _, _, rfl, by rw [he]; exact AnsO.refused (by decide), hb⟩
  | false =>
    rw [hbad] at he
    by_cases hn : N < 0
    · refine (pow_neg na aa la ca A N w hA hbad hn).mono ?_
      rintro r w' ⟨rfl, hb⟩
      refine ⟨_, _, _, _, rfl, ?_, hb⟩
      rw [he, if_pos hn]; exact AnsO.refused (by decide)
    · obtain ⟨k, rfl⟩ : ∃ k : Nat, N = (k : Int) := ⟨N.toNat, by omega⟩
      refine (pow_good na aa la ca A k w hA (by omega) hbad).mono ?_
      rintro r w' ⟨n', ao', len', c, rfl, hf, hb⟩
      rw [ea] at hf
      refine ⟨_, _, _, _, rfl, AnsO.fits ?_ (by rw [he, if_neg hn]; rfl) h0, hb⟩
      unfold powv; rw [Int.toNat_natCast]; exact hf

/-- What Shift answers. -/
def shv (v n : Int) : Int := if 0 ≤ n then v * (2 : Int) ^ n.toNat else v / (2 : Int) ^ (-n).toNat
theorem shv_zero (n : Int) : shv 0 n = 0 := by unfold shv; split <;> simp
/-- The error of Shift. -/
def shbad (v n : Int) : Int := if 4096 < bl v.natAbs then 10 else if v = 0 then 0 else if 4096 < n then 10 else 0
theorem tooLong_num {n : Bool} {A : List Nat} {v : Int} (h : num n A = v) : tooLong A = decide (4096 < bl v.natAbs) := by
  subst h; unfold tooLong; rw [num_abs]
theorem shiftE {B0 : Nat} {na : Bool} {aa : Option Addr} {la ca : Nat} {A : List Nat} {va e N : Int} {w : World} (hA : Rd w aa la ca A) (ea : num na A = va) (hN1 : -9223372036854775808 ≤ N) (hN : N ≤ 9223372036854775807) (he : e = shbad va N) (h0 : B0 ≤ w.heap.size) :
    Calls Tryd.prog 53 #[.agg #[.bool na, .slice aa la ca], .int .i64 N] w fun r w' => ∃ n ao len c, r = .returned (.tuple #[.agg #[.bool n, .slice ao len len], .int .i64 c]) ∧ AnsO B0 w w' n ao len c e (shv va N) ∧ Below w.heap.size w w' := by
  have htl := tooLong_num ea
  have hval := val_of_num ea
  by_cases hl : 4096 < bl va.natAbs
  · rw [decide_eq_true hl] at htl
    refine (shift_bad na aa la ca A N w hA htl).mono ?_
    rintro r w' ⟨rfl, hb⟩
    refine ⟨_, _, _, _, rfl, ?_, hb⟩
    rw [he]; unfold shbad; rw [if_pos hl]; exact AnsO.refused (by decide)
  · rw [decide_eq_false hl] at htl
    by_cases hz : va = 0
    · have he0 : e = 0 := by rw [he]; unfold shbad; rw [if_neg hl, if_pos hz]
      refine (shift_zero na aa la ca A N w hA htl (by rw [hval, hz]; rfl)).mono ?_
      rintro r w' ⟨rfl, hb⟩
      refine ⟨_, _, _, _, rfl, AnsO.fits (fits_zero _ _ _ ?_) he0 h0, hb⟩
      rw [hz, shv_zero]
    · have hv0 : val A ≠ 0 := by rw [hval]; omega
      by_cases hN0 : 0 ≤ N
      · obtain ⟨k, rfl⟩ : ∃ k : Nat, N = (k : Int) := ⟨N.toNat, by omega⟩
        have hs : shv va (k : Int) = va * (2 : Int) ^ k := by unfold shv; rw [if_pos hN0, Int.toNat_natCast]
        rw [hs]
        refine (shift_up_any na aa la ca A k w hA htl (by omega)).mono ?_
        rintro r w' ⟨n', ao', len', c, rfl, hf, hb⟩
        rw [ea] at hf
        refine ⟨_, _, _, _, rfl, ?_, hb⟩
        by_cases hk : 4096 < (k : Int)
        · have he10 : e = 10 := by rw [he]; unfold shbad; rw [if_neg hl, if_neg hz, if_pos hk]
          have hbl : 4096 < bl (va * (2 : Int) ^ k).natAbs := by
            have e1 : (va * (2 : Int) ^ k).natAbs = val A * 2 ^ k := by rw [Int.natAbs_mul, ← hval, Int.natAbs_pow]; rfl
            rw [e1, bl_mul_pow _ _ hv0]; omega
          rcases hf with ⟨h1, _⟩ | ⟨_, rfl, rfl, rfl, rfl⟩
          · omega
          · rw [he10]; exact AnsO.refused (by decide)
        · exact AnsO.fits hf (by rw [he]; unfold shbad; rw [if_neg hl, if_neg hz, if_neg hk]) h0
      · obtain ⟨k, hk⟩ : ∃ k : Nat, N = -(k : Int) := ⟨(-N).toNat, by omega⟩
        have he0 : e = 0 := by rw [he]; unfold shbad; rw [if_neg hl, if_neg hz, if_neg (by omega)]
        have hs : shv va N = va / (2 : Int) ^ k := by unfold shv; rw [if_neg hN0, show (-N).toNat = k by omega]
        rw [hs]
        by_cases hd : k ≤ 4096
        · subst hk
          refine (shift_down_any na aa la ca A k w hA htl hd).mono ?_
          rintro r w' ⟨n', ao', len', c, rfl, hf, hb⟩
          rw [ea] at hf
          exact ⟨_, _, _, _, rfl, AnsO.fits hf he0 h0, hb⟩
        · refine (shift_deep na aa la ca A 4096 N w hA htl hv0 (hid rfl) (by omega)).mono ?_
          rintro r w' ⟨n', ao', len', c, rfl, hf, hb⟩
          rw [ea, div_deep (by omega) (show 4096 ≤ k by omega)] at hf
          exact ⟨_, _, _, _, rfl, AnsO.fits hf he0 h0, hb⟩
end Go.Proofs.YtldafoojkimdeaaDoor
