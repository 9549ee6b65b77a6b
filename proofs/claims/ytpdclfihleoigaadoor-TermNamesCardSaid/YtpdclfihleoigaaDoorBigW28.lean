/- Walks: isRadix, Parse where nothing is wrong. -/
import Derived.Test.YtpdclfihleoigaaDoorBigW12
import Derived.Test.YtpdclfihleoigaaDoorBigW27
namespace Go.Proofs.YtpdclfihleoigaaDoor
open Go.RowKit Lm

theorem isRadix_yes (r : Nat) (w : World) (h2 : 2 ≤ r) (h36 : r ≤ 36) : Calls Tryd.prog 69 #[.int .i64 (r : Int)] w fun e w' => e = .returned (.bool true) ∧ w = w' := by
  go_enter Tryd.func69, Tryd.ntmps69
  go_wp2
  go_ret
  exact ⟨by simp; omega, rfl⟩

theorem Grow.rd {B : Nat} {w : World} {v : Value} {L : List Nat} (h : Grow B w v L) (ho : Ok L) (hl : L.length ≤ 70368744177664) : ∃ ao cap, v = .slice ao L.length cap ∧ Rd w ao L.length cap L := by
  have hc := h
  rcases h.2 with ⟨rfl, h0⟩ | ⟨g, cap, cur, rfl, hb, hg, hnc, hcm, hcs, htk⟩
  · have : L = [] := List.eq_nil_of_length_eq_zero h0
    subst this
    exact ⟨none, 0, rfl, rfl, Ok.nil, Nat.le_refl _, by simp, fun h => by simp at h⟩
  · refine ⟨_, cap, rfl, rfl, ho, hnc, hl, fun _ => ⟨g, 0, rfl, fun i hi => ?_⟩⟩
    rw [Nat.zero_add, hc.cellAt i (by omega), lims_get L i hi]

/-- The text without a sign ahead; and without noughts ahead. -/
def unsigned (s : ByteArray) : ByteArray := ⟨(Lib.trimPrefix s.data.toList [45]).toArray⟩
def bare (s : ByteArray) : ByteArray := ⟨(Lib.trimLeftB (unsigned s).data.toList 48).toArray⟩
/-- A number by its sign. -/
def sval (sg : Bool) (n : Nat) : Int := if sg then -(n : Int) else (n : Int)
def signed (s : ByteArray) : Bool := Lib.hasPrefix s.data.toList [45]

set_option maxRecDepth 100000 in
set_option maxHeartbeats 2000000 in
theorem parse_good (s : ByteArray) (r : Nat) (w : World) (h2 : 2 ≤ r) (h36 : r ≤ 36) (hus : (unsigned s).size ≤ maxLen) (hall : allD (unsigned s) r = true) (hbs : (bare s).size ≤ 4096) (hbd : ∀ c ∈ (bare s).data.toList, dv c.toNat < r) :
    Calls Tryd.prog 58 #[.string s, .int .i64 (r : Int)] w fun e w' => ∃ n' ao' len' c, e = .returned (.tuple #[.agg #[.bool n', .slice ao' len' len'], .int .i64 c]) ∧ Fits w w' n' ao' len' c (sval (signed s) (dval r (bare s).data.toList)) ∧ Below w.heap.size w w' := by
  have HBD := hid hbd
  have HUS := hid hus
  have hcut : ∀ wx, Calls Tryd.prog 64 #[.string s, .string ⟨#[45]⟩] wx fun e w' => e = .returned (.tuple #[.string (unsigned s), .bool (signed s)]) ∧ wx = w' := fun wx =>
    (Tryd.strings_CutPrefix s ⟨#[45]⟩ wx).mono fun e w' h => ⟨h.1, h.2.symm⟩
  have htrim : ∀ wx, Calls Tryd.prog 71 #[.string (unsigned s), .string ⟨#[48]⟩] wx fun e w' => e = .returned (.string (bare s)) ∧ wx = w' := fun wx =>
    (Tryd.strings_TrimLeft_one (unsigned s) 48 (by decide) wx).mono fun e w' h => ⟨h.1, h.2.symm⟩
  have Hcut := hid hcut
  have Htrim := hid htrim
  clear hbd hus hcut htrim
  generalize signed s = sg at *
  generalize unsigned s = us at *
  generalize bare s = bs at *
  go_enter Tryd.func58, Tryd.ntmps58
  go_wp2_with (first
    | (go_at_call 69; refine (isRadix_yes r _ h2 h36).mono ?_; rintro e w1 ⟨rfl, rfl⟩)
    | (go_at_call 64; refine (Hcut.out _).mono ?_; rintro e w1 ⟨rfl, rfl⟩)
    | (go_at_call 70; refine (areDigits_any us r _ HUS.out h36).mono ?_; rintro e w1 ⟨rfl, rfl⟩; rw [hall])
    | (go_at_call 71; refine (Htrim.out _).mono ?_; rintro e w1 ⟨rfl, rfl⟩)
    | (go_at_call 73; refine (readDigits_any bs r _ hbs h2 h36 HBD.out).mono ?_; rintro e w1 ⟨v, L, rfl, hG, hok, hval, hlen, hb1⟩; obtain ⟨ao, cap, rfl, hRd⟩ := hG.rd hok (by omega); have HV := hid hval; clear hval)
    | (go_at_call 72; refine (fit_any sg _ _ _ L _ hRd).mono ?_; rintro e w2 ⟨n', ao', len', c, rfl, hfit, hb2⟩; obtain ⟨c0, c1, f0, f1⟩ := two_cells (heap_keep (blk_keep hb1) hb2)))
  have hs1 := hb1.size
  refine bodyPost_ret (v := .tuple #[.agg #[.bool n', .slice ao' len' len'], .int .i64 c]) (by simp [results, Tryd.results58, go_sem, c0, c1]) rfl ⟨_, _, _, _, rfl, ?_, ?_⟩
  · have e : num sg L = sval sg (dval r bs.data.toList) := by unfold num sval; rw [HV.out]
    rw [← e]
    exact hfit.set2 (by simp at hs1; omega) (by simp at hs1 ⊢; omega) (by simp at hs1 ⊢; omega) _ _
  · exact (((balloc hb1).trans (hb2.mono (by simp at hs1; omega))).setCell (by simp) _).setCell (by simp) _
end Go.Proofs.YtpdclfihleoigaaDoor
