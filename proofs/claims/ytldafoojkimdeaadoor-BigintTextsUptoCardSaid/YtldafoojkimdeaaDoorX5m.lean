/- Answers of the program in the form that the laws ask, kept and refused. No condition but those that each theorem names. Parse in the form that the law asks. No condition but those that each theorem names. -/
import Derived.Test.YtldafoojkimdeaaDoorRefdm
import Derived.Test.YtldafoojkimdeaaDoorX3m
namespace Go.Proofs.YtldafoojkimdeaaDoor
open Go.RowKit Lm

theorem AnsO.fits {B : Nat} {w w' : World} {n : Bool} {ao : Option Addr} {len : Nat} {c e v : Int} (h : Fits w w' n ao len c v) (he : e = 0) (hB : B ≤ w.heap.size) : AnsO B w w' n ao len c e v := by
  rcases h with ⟨h1, rfl, hN⟩ | ⟨h1, rfl, rfl, rfl, rfl⟩
  · exact ⟨.inr ⟨he, .inl ⟨h1, rfl, hN.mono hB⟩⟩, fun a e => (hN.own a e).symm⟩
  · exact ⟨.inr ⟨he, .inr ⟨h1, rfl, rfl, rfl, rfl⟩⟩, fun a e => by cases e⟩
theorem AnsO.refused {B : Nat} {w w' : World} {e v : Int} (h : e ≠ 0) : AnsO B w w' false none 0 e e v := ⟨.inl ⟨h, rfl, rfl, rfl, rfl⟩, fun a ha => by cases ha⟩
theorem AnsE.long {B : Nat} {w : World} {n : Bool} {ao : Option Addr} {len : Nat} {c v : Int} (h : AnsE B w n ao len c 0 v) (hl : 4096 < bl v.natAbs) : AnsE B w n ao len c 10 v := by
  rcases h with ⟨h0, _⟩ | ⟨_, ⟨h1, _⟩ | ⟨_, rfl, rfl, rfl, rfl⟩⟩
  · exact absurd rfl h0
  · omega
  · exact .inl ⟨by decide, rfl, rfl, rfl, rfl⟩
theorem AnsE.keep {B : Nat} {w w' : World} {n : Bool} {ao : Option Addr} {len : Nat} {c e v : Int} (h : AnsE B w n ao len c e v) (hb : Below w.heap.size w w') : AnsE B w' n ao len c e v := by
  rcases h with h | ⟨h0, ⟨h1, h2, hN⟩ | h⟩
  · exact .inl h
  · exact .inr ⟨h0, .inl ⟨h1, h2, hN.keep hb⟩⟩
  · exact .inr ⟨h0, .inr h⟩
end Go.Proofs.YtldafoojkimdeaaDoor

namespace Go.Proofs.YtldafoojkimdeaaDoor
open Go.RowKit Lm

theorem unsigned_le (s : ByteArray) : (unsigned s).size ≤ s.size := by
  rw [Lib.size_eq, Lib.size_eq]
  show (Lib.trimPrefix s.data.toList [45]).length ≤ _
  unfold Lib.trimPrefix
  split
  · rw [List.length_drop]; omega
  · exact Nat.le_refl _

theorem parseE {B0 : Nat} (s : ByteArray) (R : Int) (w : World) (hs : s.size ≤ 1048576) (h0 : B0 ≤ w.heap.size) :
    Calls Tryd.prog 57 #[.string s, .int .i64 R] w fun r w' => ∃ n ao len c, r = .returned (.tuple #[.agg #[.bool n, .slice ao len len], .int .i64 c]) ∧ AnsO B0 w w' n ao len c (pbad s R) (pval s R) ∧ Below w.heap.size w w' := by
  have refused : ∀ e : Int, e ≠ 0 → pbad s R = e → ∀ wz, AnsO B0 w wz false none 0 e (pbad s R) (pval s R) := fun e h1 h2 wz => by rw [h2]; exact AnsO.refused h1
  by_cases hR : R < 2 ∨ 36 < R
  · refine (parse_radix s R w hR).mono ?_
    rintro r w' ⟨rfl, hb⟩
    exact ⟨_, _, _, _, rfl, refused 13 (by decide) (pbad_radix hR) _, hb⟩
  · obtain ⟨k, rfl⟩ : ∃ k : Nat, R = (k : Int) := ⟨R.toNat, by omega⟩
    have h2 : 2 ≤ k := by omega
    have h36 : k ≤ 36 := by omega
    have hus : (unsigned s).size ≤ maxLen := Nat.le_trans (unsigned_le s) (Nat.le_trans hs (by decide))
    cases hall : allD (unsigned s) k with
    | false =>
      refine (parse_text s k w h2 h36 hus hall).mono ?_
      rintro r w' ⟨rfl, hb⟩
      exact ⟨_, _, _, _, rfl, refused 12 (by decide) (pbad_text h2 h36 hall) _, hb⟩
    | true =>
      by_cases hf : 4096 < (bare s).size
      · refine (parse_far s k w h2 h36 hus hall hf).mono ?_
        rintro r w' ⟨rfl, hb⟩
        have hl : 4096 < bl (dval k (unsigned s).data.toList) := dval_far h2 (by rw [Lib.size_eq] at hf; exact hf)
        exact ⟨_, _, _, _, rfl, refused 10 (by decide) (pbad_far h2 h36 hall hl) _, hb⟩
      · refine (parse_good s k w h2 h36 hus hall (by omega) (fun c hc => allD_mem hall (bare_mem hc))).mono ?_
        rintro r w' ⟨n', ao', len', c, rfl, hfit, hb⟩
        rw [bare_val] at hfit
        have hv : sval (signed s) (dval k (unsigned s).data.toList) = pval s (k : Int) := by unfold pval; rw [Int.toNat_natCast]
        rw [hv] at hfit
        refine ⟨_, _, _, _, rfl, ?_, hb⟩
        by_cases hl : 4096 < bl (dval k (unsigned s).data.toList)
        · have ha : (pval s (k : Int)).natAbs = dval k (unsigned s).data.toList := by rw [pval_abs, Int.toNat_natCast]
          rcases hfit with ⟨h1, _⟩ | ⟨_, rfl, rfl, rfl, rfl⟩
          · rw [ha] at h1; omega
          · exact refused 10 (by decide) (pbad_far h2 h36 hall hl) _
        · exact AnsO.fits hfit (pbad_good h2 h36 hall hl) h0

end Go.Proofs.YtldafoojkimdeaaDoor
