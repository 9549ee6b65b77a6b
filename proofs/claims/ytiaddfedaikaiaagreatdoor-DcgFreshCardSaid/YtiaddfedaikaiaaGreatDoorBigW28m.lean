/- Walks: readDigits. Walks: isRadix, Parse where nothing is wrong. -/
import Derived.Lib.Strings
import Derived.Lib.IndexBytes
import Derived.Test.YtiaddfedaikaiaaGreatDoorBigW26m
import Derived.Test.YtiaddfedaikaiaaGreatDoorBigW13m
namespace Go.Proofs.YtiaddfedaikaiaaGreatDoor
open Go.RowKit Lm

/-- The number of digits. -/
def dval (r : Nat) (l : List UInt8) : Nat := l.foldl (fun a c => a * r + dv c.toNat) 0
theorem dval_snoc (r : Nat) (l : List UInt8) (c : UInt8) : dval r (l ++ [c]) = dval r l * r + dv c.toNat := by unfold dval; rw [List.foldl_append]; rfl
theorem dval_acc (r : Nat) (l : List UInt8) : ∀ a, l.foldl (fun a c => a * r + dv c.toNat) a = a * r ^ l.length + dval r l := by
  induction l with
  | nil => intro a; simp [dval]
  | cons c l ih =>
    intro a
    have h1 := ih (a * r + dv c.toNat)
    have h2 := ih (0 * r + dv c.toNat)
    unfold dval
    rw [List.foldl_cons, List.foldl_cons, h1, h2, List.length_cons, Nat.pow_succ]
    simp only [Nat.zero_mul, Nat.zero_add]
    grind
theorem dval_append (r : Nat) (a b : List UInt8) : dval r (a ++ b) = dval r a * r ^ b.length + dval r b := by
  conv => lhs; unfold dval
  rw [List.foldl_append, dval_acc]; rfl
theorem dval_lt (r : Nat) (l : List UInt8) (h : ∀ c ∈ l, dv c.toNat < r) : dval r l < r ^ l.length := by
  induction l with
  | nil => simp [dval]
  | cons c l ih =>
    have h1 := ih (fun x hx => h x (List.mem_cons_of_mem _ hx))
    have h2 := h c List.mem_cons_self
    have e := dval_append r [c] l
    rw [List.singleton_append] at e
    have e1 : dval r [c] = dv c.toNat := by simp [dval]
    rw [e, e1, List.length_cons, Nat.pow_succ, Nat.mul_comm (r ^ l.length)]
    have := Nat.mul_le_mul_right (r ^ l.length) (show dv c.toNat + 1 ≤ r by omega)
    rw [Nat.add_mul, Nat.one_mul] at this
    omega

theorem first_take {n wd T0 : Nat} (hw : 1 ≤ wd) (h : T0 = (n + wd - 1) % wd) : n = 0 ∨ (T0 + 1 ≤ n ∧ (n - (T0 + 1)) % wd = 0) := by
  rcases Nat.eq_zero_or_pos n with h0 | h0
  · exact .inl h0
  · right
    have e : (n + wd - 1) % wd = (n - 1) % wd := by
      rw [show n + wd - 1 = (n - 1) + wd by omega, Nat.add_mod_right]
    rw [e] at h
    have h1 := Nat.mod_le (n - 1) wd
    have h2 := Nat.div_add_mod (n - 1) wd
    refine ⟨by omega, ?_⟩
    rw [show n - (T0 + 1) = wd * ((n - 1) / wd) by omega]
    exact Nat.mul_mod_right _ _
theorem next_take {n wd : Nat} (h : n % wd = 0) : n = 0 ∨ (wd ≤ n ∧ (n - wd) % wd = 0) := by
  rcases Nat.eq_zero_or_pos n with h0 | h0
  · exact .inl h0
  · right
    have h1 : wd ≤ n := Nat.le_of_dvd h0 (Nat.dvd_of_mod_eq_zero h)
    exact ⟨h1, by rw [← Nat.mod_eq_sub_mod h1]; exact h⟩

theorem toList_get (t : ByteArray) (k : Nat) (h : k < t.size) : t.data.toList.take (k + 1) = t.data.toList.take k ++ [t[k]] := by
  rw [List.take_succ_eq_append_getElem (by simpa using h)]; rfl
set_option maxRecDepth 100000 in
set_option maxHeartbeats 2000000 in
theorem readDigits_any (s : ByteArray) (r : Nat) (w : World) (hs : s.size ≤ 4096) (h2 : 2 ≤ r) (h36 : r ≤ 36) (hd : ∀ c ∈ s.data.toList, dv c.toNat < r) :
    Calls Tryz.prog 187 #[.string s, .int .i64 (r : Int)] w fun e w' => ∃ v L, e = .returned v ∧ Grow w.heap.size w' v L ∧ Ok L ∧ val L = dval r s.data.toList ∧ L.length ≤ 4097 ∧ Below w.heap.size w w' := by
  have Hd := hid hd
  clear hd
  go_enter Tryz.func187, Tryz.ntmps187
  go_wp2_with (go_at_call 198; refine (groupOf_any r _ h2 h36).mono ?_; rintro e w2 ⟨wd, p, rfl, hp, hw1, hw31, hp1, hpb, rfl⟩; have HP := hid hp; clear hp; obtain ⟨T0, hT0⟩ : ∃ T0 : Nat, T0 = (s.size + wd - 1) % wd := ⟨_, rfl⟩; have hT1 : T0 < wd := (by rw [hT0]; exact Nat.mod_lt _ (by omega)); have hm : ((s.size : Int) + (wd : Int) - 1) % (wd : Int) = (T0 : Int) := (by rw [hT0, show (s.size : Int) + (wd : Int) - 1 = ((s.size + wd - 1 : Nat) : Int) by omega]; simp); have HT := hid hT0; clear hT0)
  have hpl : p < 4294967296 := by omega
  have HM := hid hm
  clear hm
  go_loopw [0, 7, 8] (fun a b c wr => ∃ (t : ByteArray) (pre : List UInt8) (L : List Nat) (tk : Nat), a = .string t ∧ c = .int .i64 (tk : Int) ∧ Hid (s.data.toList = pre ++ t.data.toList) ∧ Grow w.heap.size wr b L ∧ Ok L ∧ Hid (val L = dval r pre) ∧ L.length ≤ pre.length ∧ pre.length + t.size ≤ 4096 ∧
      1 ≤ tk ∧ tk ≤ wd ∧ Hid (tk = wd ∨ pre = []) ∧ Hid (t.size = 0 ∨ (tk ≤ t.size ∧ (t.size - tk) % wd = 0)) ∧ Below w.heap.size w wr) (fun a _ _ _ => match a with | .string t => t.size | _ => 0)
  case atStart =>
    exact ⟨s, [], [], T0 + 1, rfl, by go_num, hid rfl, World.ownsRow_nil _ _ _ _, Ok.nil, hid rfl, by simp, by simpa using hs, by omega, by omega, hid (.inr rfl), hid (first_take hw1 HT.out), Below.refl _ _⟩
  case round =>
    obtain ⟨t, pre, L, tk, rfl, rfl, hsp, hG, hok, hval, hLl, hsz, htk1, htk2, hfirst, hdivs, hbel⟩ := hrel
    by_cases ht0 : 0 < t.size
    · have hdv : tk ≤ t.size ∧ (t.size - tk) % wd = 0 := by
        rcases hdivs.out with h | h
        · omega
        · exact h
      have htk3 := hdv.1
      have HDV := hid hdv.2
      clear hdv
      go_wp2
      go_loop [9, 29] (fun g i => ∃ (k gv : Nat), k ≤ tk ∧ i = .int .i64 (k : Int) ∧ g = .int .u32 (gv : Int) ∧ Hid (gv = dval r (t.data.toList.take k)) ∧ gv ≤ 4294967295) (fun _ i => tk - (intOf i).toNat)
      case atStart => exact ⟨0, 0, by omega, rfl, rfl, hid rfl, by omega⟩
      case round =>
        obtain ⟨k, gv, hk, rfl, rfl, hgv, hgb⟩ := hrel
        by_cases hlt : k < tk
        · have hkt : k < t.size := by omega
          have hc : t[k].toNat < 256 := t[k].toNat_lt
          have hdl := dv_le t[k].toNat
          have hall : ∀ c ∈ t.data.toList.take (k + 1), dv c.toNat < r := by
            intro c hc
            apply Hd.out
            rw [hsp.out]
            exact List.mem_append_right _ (List.mem_of_mem_take hc)
          have hnew : gv * r + dv t[k].toNat = dval r (t.data.toList.take (k + 1)) := by rw [toList_get t k hkt, dval_snoc, ← hgv.out]
          have hbd := dval_lt r _ hall
          have htl : t.data.toList.length = t.size := by simp
          rw [← hnew, List.length_take, Nat.min_eq_left (by omega)] at hbd
          clear htl
          have hpw : r ^ (k + 1) ≤ r ^ wd := Nat.pow_le_pow_right (by omega) (by omega)
          have hle : gv * r + dv t[k].toNat ≤ 4294967295 := by have := HP.out; omega
          have hi : (gv : Int) * (r : Int) + (dv t[k].toNat : Int) ≤ 4294967295 := by have := Int.ofNat_le.2 hle; simpa using this
          have hi0 : 0 ≤ (gv : Int) * (r : Int) := Int.mul_nonneg (by omega) (by omega)
          have hcast : (gv : Int) * (r : Int) + (dv t[k].toNat : Int) = ((gv * r + dv t[k].toNat : Nat) : Int) := by simp [Int.natCast_mul]
          have HC := hid hcast
          have HN := hid hnew
          clear hcast hnew hbd hpw hall
          go_wp2_with (go_at_call 190; refine (digitOf_any _ _ hc).mono ?_; rintro e w2 ⟨rfl, rfl⟩)
          go_round
          case rel => exact ⟨k + 1, gv * r + dv t[k].toNat, by omega, by go_num, congrArg (Value.int .u32) HC.out, HN, hle⟩
          case measure => simp [intOf]; omega
        · obtain rfl : k = tk := by omega
          have hlt : t.data.toList.length = t.size := by simp
          have hvn : val L * p + gv = dval r (pre ++ t.data.toList.take k) := by
            rw [dval_append, List.length_take, hlt, Nat.min_eq_left htk3, ← hgv.out]
            rcases hfirst.out with h | h
            · rw [hval.out, HP.out, h]
            · rw [hval.out, h]; simp [dval]
          have HVN := hid hvn
          have HLT := hid hlt
          clear hvn hlt
          go_wp2_with (go_at_call 199; refine (appendGroup_any w.heap.size _ L p gv _ hG hbel.size hok (by omega) hpl (by omega)).mono ?_; rintro e w3 ⟨v', L', rfl, hG', hok', hval', hL', hb3⟩; have HV' := hid hval'; clear hval')
          have hsz2 : (t.extract k t.size).size = t.size - k := by
            have h1 := Lib.extract_to_end t k
            have h2 : (t.extract k t.size).data.toList.length = (t.extract k t.size).size := by simp
            rw [← h2, h1, List.length_drop, HLT.out]
          go_roundw
          case rel =>
            refine ⟨t.extract k t.size, pre ++ t.data.toList.take k, L', wd, rfl, rfl, hid ?_, hG', hok', hid ?_, ?_, ?_, hw1, Nat.le_refl _, hid (.inl rfl), hid ?_, hbel.trans hb3⟩
            · rw [Lib.extract_to_end, List.append_assoc, List.take_append_drop]; exact hsp.out
            · rw [HV'.out]; exact HVN.out
            · rw [List.length_append, List.length_take, HLT.out]; omega
            · rw [List.length_append, List.length_take, HLT.out, hsz2]; omega
            · rw [hsz2]; exact next_take HDV.out
          case measure => simp only []; rw [hsz2]; omega
    · have h0 : t.data.toList = [] := by
        apply List.eq_nil_of_length_eq_zero
        have : t.data.toList.length = t.size := by simp
        omega
      have hfin : s.data.toList = pre := by rw [hsp.out, h0, List.append_nil]
      have HF := hid hfin
      clear h0 hfin
      go_wp2
      go_ret
      exact ⟨_, L, rfl, hG, hok, by rw [HF.out]; exact hval.out, by omega, hbel⟩
end Go.Proofs.YtiaddfedaikaiaaGreatDoor

namespace Go.Proofs.YtiaddfedaikaiaaGreatDoor
open Go.RowKit Lm

theorem isRadix_yes (r : Nat) (w : World) (h2 : 2 ≤ r) (h36 : r ≤ 36) : Calls Tryz.prog 182 #[.int .i64 (r : Int)] w fun e w' => e = .returned (.bool true) ∧ w = w' := by
  go_enter Tryz.func182, Tryz.ntmps182
  go_wp2
  go_ret
  exact ⟨by simp; omega, rfl⟩

theorem Grow.rd {B : Nat} {w : World} {v : Value} {L : List Nat} (h : Grow B w v L) (ho : Ok L) (hl : L.length ≤ 70368744177664) : ∃ ao cap, v = .slice ao L.length cap ∧ Rd w ao L.length cap L := by
  have hc := h
  rcases h.2 with ⟨rfl, h0⟩ | ⟨g, cap, cur, rfl, hb, hg, hnc, hcm, hcs, htk⟩
  · have : L = [] := List.eq_nil_of_length_eq_zero h0
    subst this
    exact ⟨none, 0, rfl, rfl, Ok.nil, Nat.le_refl _, by simp, fun h => by simp at h⟩
  · refine ⟨_, cap, rfl, rfl, ho, hnc, hl, fun _ => ⟨g, 0, rfl, fun i hi => ?_⟩⟩
    rw [Nat.zero_add, hc.cellAt i (by omega), lims_get L i hi]

/-- The text without a sign ahead; and without noughts ahead. -/
def unsigned (s : ByteArray) : ByteArray := ⟨(Lib.trimPrefix s.data.toList [45]).toArray⟩
def bare (s : ByteArray) : ByteArray := ⟨(Lib.trimLeftB (unsigned s).data.toList 48).toArray⟩
/-- A number by its sign. -/
def sval (sg : Bool) (n : Nat) : Int := if sg then -(n : Int) else (n : Int)
def signed (s : ByteArray) : Bool := Lib.hasPrefix s.data.toList [45]

set_option maxRecDepth 100000 in
set_option maxHeartbeats 2000000 in
theorem parse_good (s : ByteArray) (r : Nat) (w : World) (h2 : 2 ≤ r) (h36 : r ≤ 36) (hus : (unsigned s).size ≤ maxLen) (hall : allD (unsigned s) r = true) (hbs : (bare s).size ≤ 4096) (hbd : ∀ c ∈ (bare s).data.toList, dv c.toNat < r) :
    Calls Tryz.prog 176 #[.string s, .int .i64 (r : Int)] w fun e w' => ∃ n' ao' len' c, e = .returned (.tuple #[.agg #[.bool n', .slice ao' len' len'], .int .i64 c]) ∧ Fits w w' n' ao' len' c (sval (signed s) (dval r (bare s).data.toList)) ∧ Below w.heap.size w w' := by
  have HBD := hid hbd
  have HUS := hid hus
  have hcut : ∀ wx, Calls Tryz.prog 183 #[.string s, .string ⟨#[45]⟩] wx fun e w' => e = .returned (.tuple #[.string (unsigned s), .bool (signed s)]) ∧ wx = w' := fun wx =>
    (Tryz.strings_CutPrefix s ⟨#[45]⟩ wx).mono fun e w' h => ⟨h.1, h.2.symm⟩
  have htrim : ∀ wx, Calls Tryz.prog 185 #[.string (unsigned s), .string ⟨#[48]⟩] wx fun e w' => e = .returned (.string (bare s)) ∧ wx = w' := fun wx =>
    (Tryz.strings_TrimLeft_one (unsigned s) 48 (by decide) wx).mono fun e w' h => ⟨h.1, h.2.symm⟩
  have Hcut := hid hcut
  have Htrim := hid htrim
  clear hbd hus hcut htrim
  generalize signed s = sg at *
  generalize unsigned s = us at *
  generalize bare s = bs at *
  go_enter Tryz.func176, Tryz.ntmps176
  go_wp2_with (first
    | (go_at_call 182; refine (isRadix_yes r _ h2 h36).mono ?_; rintro e w1 ⟨rfl, rfl⟩)
    | (go_at_call 183; refine (Hcut.out _).mono ?_; rintro e w1 ⟨rfl, rfl⟩)
    | (go_at_call 184; refine (areDigits_any us r _ HUS.out h36).mono ?_; rintro e w1 ⟨rfl, rfl⟩; rw [hall])
    | (go_at_call 185; refine (Htrim.out _).mono ?_; rintro e w1 ⟨rfl, rfl⟩)
    | (go_at_call 187; refine (readDigits_any bs r _ hbs h2 h36 HBD.out).mono ?_; rintro e w1 ⟨v, L, rfl, hG, hok, hval, hlen, hb1⟩; obtain ⟨ao, cap, rfl, hRd⟩ := hG.rd hok (by omega); have HV := hid hval; clear hval)
    | (go_at_call 186; refine (fit_any sg _ _ _ L _ hRd).mono ?_; rintro e w2 ⟨n', ao', len', c, rfl, hfit, hb2⟩; obtain ⟨c0, c1, f0, f1⟩ := two_cells (heap_keep (blk_keep hb1) hb2)))
  have hs1 := hb1.size
  refine bodyPost_ret (v := .tuple #[.agg #[.bool n', .slice ao' len' len'], .int .i64 c]) (by simp [results, Tryz.results176, go_sem, c0, c1]) rfl ⟨_, _, _, _, rfl, ?_, ?_⟩
  · have e : num sg L = sval sg (dval r bs.data.toList) := by unfold num sval; rw [HV.out]
    rw [← e]
    exact hfit.set2 (by simp at hs1; omega) (by simp at hs1 ⊢; omega) (by simp at hs1 ⊢; omega) _ _
  · exact (((balloc hb1).trans (hb2.mono (by simp at hs1; omega))).setCell (by simp) _).setCell (by simp) _
end Go.Proofs.YtiaddfedaikaiaaGreatDoor
