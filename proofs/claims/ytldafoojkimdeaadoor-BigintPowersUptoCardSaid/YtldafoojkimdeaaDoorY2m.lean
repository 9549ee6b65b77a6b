/- Plain mathematics: a list of bits divided by a small number, and times one; greatest common divisors by halves and differences. No condition but those that each theorem names. Walk of the document's answer: Gcd, item by item. No condition but those that each theorem names. Walk of the document's answer: Shift far downwards. No condition but those that each theorem names. -/
import Derived.Test.YtldafoojkimdeaaDoorBitmm
import Derived.Test.YtldafoojkimdeaaDoorR23m
import Derived.Test.YtldafoojkimdeaaDoorW60m
namespace Lm

/-! ### One bit of a quotient by a small number -/
theorem bdiv_no {r x t : Nat} {B Q : List Nat} {i : Nat} (h : bv (B.drop (i + 1)) = r * bv (Q.drop (i + 1)) + x) (h0 : dg Q i = 0) (ht : t = 2 * x + dg B i) :
    bv (B.drop i) = r * bv (Q.drop i) + t := by
  rw [bv_drop_dg B i, bv_drop_dg Q i, h0, h, ht]; grind
theorem bdiv_yes {r x t : Nat} {B Q : List Nat} {i : Nat} (hi : i < Q.length) (h : bv (B.drop (i + 1)) = r * bv (Q.drop (i + 1)) + x) (ht : t + r = 2 * x + dg B i) :
    bv (B.drop i) = r * bv ((Q.set i 1).drop i) + t := by
  have e : (Q.set i 1).drop (i + 1) = Q.drop (i + 1) := by rw [List.drop_set, if_pos (by omega)]
  have e1 : dg (Q.set i 1) i = 1 := by unfold dg; simp [List.getD, hi]
  rw [bv_drop_dg B i, bv_drop_dg (Q.set i 1) i, e1, e, h]; grind
theorem bdiv_end {r v q x : Nat} (h : v = r * q + x) (hx : x < r) : q = v / r ∧ x = v % r := by
  subst h
  constructor
  · rw [Nat.mul_add_div (by omega), Nat.div_eq_of_lt hx]; omega
  · rw [Nat.mul_add_mod, Nat.mod_eq_of_lt hx]

/-! ### One bit of a product by a small number -/
theorem bmul_step {p s c t o c' r d x : Nat} (h : s + p * c = t * r + d) (he : o + 2 * c' = x * r + c) : (s + p * o) + p * 2 * c' = (t + p * x) * r + d := by grind

/-! ### Greatest common divisors -/
theorem odd_coprime {d : Nat} (hd : d % 2 = 1) : Nat.Coprime d 2 := by
  have h1 : Nat.gcd d 2 ∣ 2 := Nat.gcd_dvd_right _ _
  have h2 : Nat.gcd d 2 ∣ d := Nat.gcd_dvd_left _ _
  have h3 : Nat.gcd d 2 ≤ 2 := Nat.le_of_dvd (by decide) h1
  have h4 : Nat.gcd d 2 ≠ 0 := fun e => by rw [e] at h1; omega
  have h5 : Nat.gcd d 2 ≠ 2 := fun e => by rw [e] at h2; omega
  show Nat.gcd d 2 = 1
  omega
theorem gcd_half {a b d : Nat} (hd : d % 2 = 1) (h : Nat.gcd (2 * a) b = d) : Nat.gcd a b = d := by
  refine Nat.dvd_antisymm ?_ ?_
  · rw [← h]
    exact Nat.dvd_gcd (Nat.dvd_trans (Nat.gcd_dvd_left a b) (Nat.dvd_mul_left a 2)) (Nat.gcd_dvd_right a b)
  · have h1 : d ∣ 2 * a := by rw [← h]; exact Nat.gcd_dvd_left _ _
    have h2 : d ∣ b := by rw [← h]; exact Nat.gcd_dvd_right _ _
    exact Nat.dvd_gcd ((odd_coprime hd).dvd_of_dvd_mul_left h1) h2
theorem gcd_half2 {a b d : Nat} (hd : d % 2 = 1) (h : Nat.gcd a (2 * b) = d) : Nat.gcd a b = d := by
  rw [Nat.gcd_comm] at h ⊢; exact gcd_half hd h
theorem gcd_less {a b c d : Nat} (hc : c + b = a) (h : Nat.gcd a b = d) : Nat.gcd c b = d := by
  have e : c = a - b := by omega
  rw [e, Nat.gcd_sub_self_left (by omega)]; exact h
theorem gcd_twos (t a b : Nat) : Nat.gcd (2 ^ t * a) (2 ^ t * b) = 2 ^ t * Nat.gcd a b := Nat.gcd_mul_left _ _ _
/-- Where one of both is odd their greatest common divisor is. -/
theorem gcd_odd {a b : Nat} (h : a % 2 = 1 ∨ b % 2 = 1) : Nat.gcd a b % 2 = 1 := by
  have h1 := Nat.gcd_dvd_left a b
  have h2 := Nat.gcd_dvd_right a b
  rcases Nat.mod_two_eq_zero_or_one (Nat.gcd a b) with h0 | h0
  · have h3 : 2 ∣ Nat.gcd a b := Nat.dvd_of_mod_eq_zero h0
    have h4 := Nat.dvd_trans h3 h1
    have h5 := Nat.dvd_trans h3 h2
    omega
  · exact h0

theorem bv_head (A : List Nat) : bv A = dg A 0 + 2 * bv (A.drop 1) := by have := bv_drop_dg A 0; simpa using this
theorem top_drop {A : List Nat} (h : Top A) (k : Nat) (hk : k < A.length) : Top (A.drop k) := by
  intro hn
  have : (A.drop k).getLast hn = A.getLast (by intro e; subst e; simp at hk) := by rw [List.getLast_drop]
  rw [this]; exact h _
theorem top_pos {A : List Nat} (h : Top A) (hl : A ≠ []) : bv A ≠ 0 := fun e => hl (btop_zero h e)
/-- A first bit that is nought is not the last. -/
theorem top_even {A : List Nat} (h : Top A) (h0 : dg A 0 = 0) (hl : 0 < A.length) : 1 < A.length := by
  rcases Nat.lt_or_ge 1 A.length with h1 | h1
  · exact h1
  · match A, h, h0, hl, h1 with
    | [x], h, h0, _, _ =>
      have h2 := h (by simp)
      have h3 : x = 0 := h0
      simp [h3] at h2
    | _ :: _ :: _, _, _, _, h1 => simp at h1
theorem bv_parity {A : List Nat} (h : B1 A) : bv A % 2 = dg A 0 := by
  have h1 := bv_head A
  have h2 := h.dg 0
  omega
end Lm

namespace Go.Proofs.YtldafoojkimdeaaDoor
open Go.RowKit Lm

noncomputable def tail54 (n : Nat) : Code := seqDrop n (Tryd.f54.body.getD .skip)
noncomputable def head54 (n : Nat) : Code := seqHead (tail54 n)
noncomputable def Q54 (w : World) (G : Nat) : Exit → Act → World → Prop := bodyPost Tryd.prog Tryd.f54 fun e w' => ∃ n' o l c, e = .returned (.agg #[.bool n', .slice o l c]) ∧ Big w' n' o l c (G : Int) ∧ Below w.heap.size w w'

theorem Ri.same {w : World} {ao : Option Addr} {len cap : Nat} {Y Z : List Nat} (h : Ri w ao len cap Y) (k : Ri w ao len cap Z) : Y = Z := by
  have hl : Y.length = Z.length := by rw [h.size, k.size]
  have hd : ∀ i, i < len → dg Y i = dg Z i := by
    intro i hi
    obtain ⟨b, off, e, hc⟩ := h.cells (by omega)
    obtain ⟨b', off', e', hc'⟩ := k.cells (by omega)
    rw [e] at e'
    simp only [Option.some.injEq, Addr.mk.injEq, and_true] at e'
    obtain ⟨e1, e2⟩ := e'
    subst e1 e2
    have := (hc i hi).symm.trans (hc' i hi)
    simp only [Option.some.injEq, Value.int.injEq, true_and] at this
    omega
  refine List.ext_getElem hl ?_
  intro i h1 h2
  have := hd i (by rw [← h.size]; exact h1)
  unfold dg at this
  rw [getD_in _ _ h1, getD_in _ _ h2] at this
  exact this
/-- The number that a slice of bits stands for. -/
noncomputable def ival (y : Value) (w : World) : Nat :=
  match y with
  | .slice ao len cap => by
    classical
    exact if h : ∃ Y, Ri w ao len cap Y then bv (Classical.choose h) else 0
  | _ => 0
theorem ival_eq {w : World} {ao : Option Addr} {len cap : Nat} {Y : List Nat} (h : Ri w ao len cap Y) : ival (.slice ao len cap) w = bv Y := by
  have hx : ∃ Y, Ri w ao len cap Y := ⟨Y, h⟩
  unfold ival
  simp only
  rw [dif_pos hx, (Classical.choose_spec hx).same h]
/-- Bits of a slice of the call's: normal, and not too many. -/
structure Gb (w : World) (ao : Option Addr) (len cap : Nat) (A : List Nat) : Prop where
  rd : Ri w ao len cap A
  b1 : B1 A
  top : Top A
  few : len ≤ 1048576
theorem Gb.keep {w w' : World} {ao : Option Addr} {len cap : Nat} {A : List Nat} (h : Gb w ao len cap A) (hb : Below w.heap.size w w') : Gb w' ao len cap A := ⟨h.rd.keep hb, h.b1, h.top, h.few⟩
theorem Gb.cut {w : World} {b off len cap : Nat} {A : List Nat} (h : Gb w (some ⟨b, off, none⟩) len cap A) (hk : 1 < len) : Gb w (some ⟨b, off + 1, none⟩) (len - 1) (cap - 1) (A.drop 1) :=
  ⟨h.rd.cut (by omega), h.b1.drop 1, top_drop h.top 1 (by rw [h.rd.size]; exact hk), by have := h.few; omega⟩
theorem Gb.two {w : World} {ao : Option Addr} {len cap : Nat} {A : List Nat} (h : Gb w ao len cap A) (h0 : 0 < len) (he : dg A 0 = 0) : 1 < len := by
  have := top_even h.top he (by rw [h.rd.size]; exact h0)
  rw [h.rd.size] at this; exact this
theorem Gb.half {w : World} {ao : Option Addr} {len cap : Nat} {A : List Nat} (_ : Gb w ao len cap A) (he : dg A 0 = 0) : bv A = 2 * bv (A.drop 1) := by
  have := bv_head A; omega
theorem Gb.pos {w : World} {ao : Option Addr} {len cap : Nat} {A : List Nat} (h : Gb w ao len cap A) (h0 : 0 < len) : bv A ≠ 0 :=
  top_pos h.top (by intro e; have := h.rd.size; rw [e] at this; simp at this; omega)
theorem Gb.zero {w : World} {ao : Option Addr} {len cap : Nat} {A : List Nat} (h : Gb w ao len cap A) (h0 : ¬ 0 < len) : A = [] := List.eq_nil_of_length_eq_zero (by rw [h.rd.size]; omega)
theorem Gb.odd {w : World} {ao : Option Addr} {len cap : Nat} {A : List Nat} (h : Gb w ao len cap A) (he : dg A 0 ≠ 0) : bv A % 2 = 1 := by
  have := bv_parity h.b1; have := h.b1.dg 0; omega
theorem Gb.cell {w : World} {ao : Option Addr} {len cap : Nat} {A : List Nat} (h : Gb w ao len cap A) (h0 : 0 < len) : ∃ b off, ao = some ⟨b, off, none⟩ ∧ w.cell? ⟨b, off, none⟩ = some (.int .i64 (dg A 0 : Int)) ∧ w.cell? ⟨b, off + 0, none⟩ = some (.int .i64 (dg A 0 : Int)) := by
  obtain ⟨b, off, e, hc⟩ := h.rd.cells h0
  exact ⟨b, off, e, by have := hc 0 h0; rwa [Nat.add_zero] at this, hc 0 h0⟩

set_option maxRecDepth 100000 in
set_option maxHeartbeats 8000000 in
theorem GC_7 {w wz : World} {G gr b off lb cb n : Nat} {L : List Nat} {u0 u1 u2 u3 u5 u8 u9 u10 u11 u12 u13 u14 u15 u16 u17 u18 u19 u20 u21 u22 u23 u24 u25 u26 u27 u28 u29 u30 u31 u32 u33 u34 u35 u36 u37 u38 u39 u40 u41 u42 u43 u44 u45 u46 u47 u48 u49 u50 u51 u52 u53 u54 u55 u56 u57 u58 u59 u60 u61 u62 u63 u64 u65 u66 u67 u68 u69 : Value}
    (rL : Gb wz (some ⟨b, off, none⟩) lb cb L) (h0 : 0 < lb) (hn : n ≤ 1048576) (HV : Hid (bv L * 2 ^ n = G))
    (hgg : w.heap.size ≤ gr) (pr : Pr wz gr 28 (.bool false) (.slice none 0 0)) (hzb : Below w.heap.size w wz) :
    Code.wp Tryd.prog (tail54 8) (Q54 w G) ⟨#[u0, u1, u2, u3, .pointer (some ⟨gr, 0, none⟩), u5, .slice (some ⟨b, off, none⟩) lb cb, .int .i64 (n : Int), u8, u9, u10, u11, u12, u13, u14, u15, u16, u17, u18, u19, u20, u21, u22, u23, u24, u25, u26, u27, u28, u29, u30, u31, u32, u33, u34, u35, u36, u37, u38, u39, u40, u41, u42, u43, u44, u45, u46, u47, u48, u49, u50, u51, u52, u53, u54, u55, u56, u57, u58, u59, u60, u61, u62, u63, u64, u65, u66, u67, u68, u69], []⟩ wz := by
  obtain ⟨i0, hi, hz0, hz1, hz2⟩ := info_parts Tryd.infoI
  have HL := hid rL.rd.size
  have zL := rL.rd
  have bL := rL.b1
  have hfew := rL.few
  have hnews := hid (zL.srcs h0)
  have HPr := hid pr
  clear pr
  have hn0 : (0 : Int) ≤ (n : Int) := by omega
  have HB1 := hid (show 8 * n ≤ 281474976710656 by omega)
  have HB2 := hid (show n ≤ maxLen by unfold maxLen; omega)
  have HB3 := hid (show n + lb ≤ maxLen by unfold maxLen; omega)
  have HB4 := hid (show (n + lb) * 8 ≤ 140737488355328 by omega)
  obtain ⟨w1, hrun, hown, hgrow⟩ := run_make_full (P := Tryd.prog) wz wz.heap.size 26 3 i0 (.int .i64 0) 1 Tryd.underlying26 hi hz0 hz1 .i64 .i64 n (by rw [hz2]; exact HB1.out) HB2.out (Nat.le_refl _)
  have hb1 : Below wz.heap.size wz w1 := (Below.refl _ _).grown hgrow (Nat.le_refl _) (by intro k hk; simp at hk)
  conv => arg 2; whnf
  unfold Q54
  go_wp2_with (at_builtin; refine wpList_append_lies w1 rfl _ _ 26 rfl wz.heap.size 3 i0 (.int .i64 0) 1 8 Tryd.underlying26 hi hz0 hz1 hz2 rfl (by decide) _ n _ rfl hown ⟨b, off, none⟩ lb cb (ints L) rfl (by rw [ints_len, HL.out, Nat.mul_one]) (fun j u hj => cell_keep (hnews.out j u hj) hb1) (ints_one L) h0 HB3.out HB4.out hb1.size w1.heap.size rfl ?_)
  intro gg cap w5 hown5 hgrow5 hat hlt
  have hb5 : Below wz.heap.size wz w5 := hb1.grown hgrow5 hb1.size (by intro k hk; simp [Value.ownBlock] at hk; omega)
  have r5 := hid (heap_keep HPr.out hb5)
  have hR5 := shift_ri (n := n) (xl := lb) HL.out (show w5.ownsRow wz.heap.size 3 1 (.slice (some ⟨gg, 0, none⟩) (n + lb) cap) (n + lb) ((madeCells (Value.int .i64 0).cells (n * 1)).toList ++ ints L) by rw [Nat.mul_one]; exact hown5) (by omega)
  clear hown5 hgrow5 hrun hown hgrow
  go_wp2_with (go_at_call 68; (with_reducible refine (laidR _ _ _ _ (List.replicate n 0 ++ L) _ hR5 (B1_shift bL n)).mono ?_); rintro e w6 ⟨n', len', rfl, hle, hbig, hb6⟩; have r6 := hid (heap_keep r5.out hb6); obtain ⟨c0, c1, _, _⟩ := two_cells r6.out)
  have hball := hzb.trans ((hb5.trans (hb6.mono hb5.size)).mono hzb.size)
  refine bodyPost_ret (v := .agg #[.bool n', .slice (some ⟨gg, 0, none⟩) len' cap]) (by simp [results, Tryd.results54, go_sem, c0, c1]) rfl ⟨_, _, _, _, rfl, ?_, ?_⟩
  · exact (hbig.other r6.out (by simp) (by simp) _ _).cast (by rw [sg_shift, ← HV.out]; unfold sg; simp)
  · exact (hball.setCell hgg _).setCell hgg _

set_option maxRecDepth 100000 in
set_option maxHeartbeats 8000000 in
theorem GC_6 {w wz : World} {G D gr la ca lb cb n : Nat} {ao bo : Option Addr} {A B : List Nat} {u0 u1 u2 u3 u8 u9 u10 u11 u12 u13 u14 u15 u16 u17 u18 u19 u20 u21 u22 u23 u24 u25 u26 u27 u28 u29 u30 u31 u32 u33 u34 u35 u36 u37 u38 u39 u40 u41 u42 u43 u44 u45 u46 u47 u48 u49 u50 u51 u52 u53 u54 u55 u56 u57 u58 u59 u60 u61 u62 u63 u64 u65 u66 u67 u68 u69 : Value}
    (gA : Gb wz ao la ca A) (gB : Gb wz bo lb cb B) (h0 : 0 < lb) (hn : n ≤ 1048576) (hodd : Hid (D % 2 = 1)) (hD : Hid (Nat.gcd (bv A) (bv B) = D)) (HG : Hid (D * 2 ^ n = G))
    (hgg : w.heap.size ≤ gr) (pr : Pr wz gr 28 (.bool false) (.slice none 0 0)) (hzb : Below w.heap.size w wz) :
    Code.wp Tryd.prog (tail54 7) (Q54 w G) ⟨#[u0, u1, u2, u3, .pointer (some ⟨gr, 0, none⟩), .slice ao la ca, .slice bo lb cb, .int .i64 (n : Int), u8, u9, u10, u11, u12, u13, u14, u15, u16, u17, u18, u19, u20, u21, u22, u23, u24, u25, u26, u27, u28, u29, u30, u31, u32, u33, u34, u35, u36, u37, u38, u39, u40, u41, u42, u43, u44, u45, u46, u47, u48, u49, u50, u51, u52, u53, u54, u55, u56, u57, u58, u59, u60, u61, u62, u63, u64, u65, u66, u67, u68, u69], []⟩ wz := by
  have HPr := hid pr
  clear pr
  show Code.wp Tryd.prog (Code.seq (head54 7) (tail54 8)) _ _ _
  conv => arg 2; arg 1; whnf
  go_wp2_with fail
  go_loopw [5, 6] (fun av bw wr => ∃ (ao bo : Option Addr) (la ca lb cb : Nat) (A B : List Nat), av = .slice ao la ca ∧ bw = .slice bo lb cb ∧ Gb wr ao la ca A ∧ Gb wr bo lb cb B ∧ 0 < lb ∧ Hid (Nat.gcd (bv A) (bv B) = D) ∧ Below wz.heap.size wz wr) (fun av bw wr => ival av wr + ival bw wr)
  case atStart => exact ⟨ao, bo, la, ca, lb, cb, A, B, rfl, rfl, gA, gB, h0, hD, Below.refl _ _⟩
  case round =>
    clear gA gB hD h0 A B ao bo la ca lb cb
    obtain ⟨ao, bo, la, ca, lb, cb, A, B, rfl, rfl, gA, gB, h0, hD, hbr⟩ := hrel
    obtain ⟨wo, rfl⟩ : ∃ wo : World, wo = wr := ⟨_, rfl⟩
    have hsr := hbr.size
    by_cases ha : 0 < la
    · have hS := hid (show bv A + bv B = ival (.slice ao la ca) wo + ival (.slice bo lb cb) wo by rw [ival_eq gA.rd, ival_eq gB.rd])
      obtain ⟨S0, hS0⟩ : ∃ S0, S0 = ival (.slice ao la ca) wo + ival (.slice bo lb cb) wo := ⟨_, rfl⟩
      have HS0 := hid hS0
      have HSA : Hid (bv A + bv B ≤ S0) := hid (by rw [hS0, ← hS.out]; exact Nat.le_refl _)
      clear hS hS0
      go_wp2_with fail
      go_loopw [5] (fun av ws => ∃ (ao : Option Addr) (la ca : Nat) (A : List Nat), av = .slice ao la ca ∧ Gb ws ao la ca A ∧ 0 < la ∧ Hid (Nat.gcd (bv A) (bv B) = D) ∧ Hid (bv A + bv B ≤ S0) ∧ Below wo.heap.size wo ws) (fun av _ => slen av)
      case atStart => exact ⟨ao, la, ca, A, rfl, gA, ha, hD, HSA, Below.refl _ _⟩
      case round =>
        clear gA hD HSA ha
        obtain ⟨ao, la, ca, A, rfl, gA, ha, hD, HSA, hbs⟩ := hrel
        obtain ⟨ws, rfl⟩ : ∃ ws : World, ws = wr := ⟨_, rfl⟩
        obtain ⟨b, off, rfl, hc, hc0⟩ := gA.cell ha
        have hroom := gA.rd.room
        have hmost := gA.rd.most
        by_cases hz : dg A 0 = 0
        · have ht : ((dg A 0 : Int) == 0) = true := by simp [hz]
          have h2 := gA.two ha hz
          have hh := hid (gA.half hz)
          have HZ := hid hz
          clear hz
          go_wp2
          go_roundw
          case rel => exact ⟨_, _, _, A.drop 1, rfl, gA.cut h2, by omega, hid (gcd_half hodd.out (by rw [← hh.out]; exact hD.out)), hid (by have := HSA.out; have := hh.out; omega), hbs⟩
          case measure => simp [slen]; omega
        · have ht : ((dg A 0 : Int) == 0) = false := by simp; omega
          have hoA := hid (gA.odd hz)
          clear hz
          go_wp2_with fail
          go_loopw [6] (fun bw wt => ∃ (bo : Option Addr) (lb cb : Nat) (B : List Nat), bw = .slice bo lb cb ∧ Gb wt bo lb cb B ∧ 0 < lb ∧ Hid (Nat.gcd (bv A) (bv B) = D) ∧ Hid (bv A + bv B ≤ S0) ∧ Below ws.heap.size ws wt) (fun bw _ => slen bw)
          case atStart => exact ⟨bo, lb, cb, B, rfl, gB.keep hbs, h0, hD, HSA, Below.refl _ _⟩
          case round =>
            clear gB hD HSA h0
            obtain ⟨bo, lb, cb, B, rfl, gB, h0, hD, HSA, hbt⟩ := hrel
            obtain ⟨wt, rfl⟩ : ∃ wt : World, wt = wr := ⟨_, rfl⟩
            obtain ⟨b', off', rfl, hc', hc0'⟩ := gB.cell h0
            have hroom' := gB.rd.room
            have hmost' := gB.rd.most
            by_cases hz : dg B 0 = 0
            · have ht' : ((dg B 0 : Int) == 0) = true := by simp [hz]
              have h2 := gB.two h0 hz
              have hh := hid (gB.half hz)
              have HZ := hid hz
              clear hz
              go_wp2
              go_roundw
              case rel => exact ⟨_, _, _, B.drop 1, rfl, gB.cut h2, by omega, hid (gcd_half2 hodd.out (by rw [← hh.out]; exact hD.out)), hid (by have := HSA.out; have := hh.out; omega), hbt⟩
              case measure => simp [slen]; omega
            · have ht' : ((dg B 0 : Int) == 0) = false := by simp; omega
              have hpA := hid (gA.pos ha)
              have hpB := hid (gB.pos h0)
              have gA2 := gA.keep hbt
              have hbz : Below wo.heap.size wo wt := hbs.trans (hbt.mono hbs.size)
              clear hz hc hc0 ht
              by_cases hless : bv A < bv B
              · have hd : decide (bv A < bv B) = true := decide_eq_true hless
                have hle : Hid (bv A ≤ bv B) := hid (by omega)
                clear hless
                go_wp2_with (first
                  | (go_at_call 81; refine (lessR _ _ _ A _ _ _ B _ gA2.rd gB.rd gA2.b1 gB.b1 gA2.top gB.top).mono ?_; rintro e w5 ⟨rfl, hb5⟩; rw [hd]; have gA5 := gA2.keep hb5; have gB5 := gB.keep hb5; have hb5z := hbz.trans (hb5.mono hbz.size))
                  | (go_at_call 82; refine (subR _ _ _ B _ _ _ A _ gB5.rd gA5.rd gB5.b1 gA5.b1 gA5.top hle (by have := gB5.few; omega)).mono ?_; rintro e w6 ⟨so, sl, sc, C, rfl, hsl, rC, bC, tC, hC, hb6⟩))
                have hb6z := hb5z.trans (hb6.mono hb5z.size)
                have gA6 := gA5.keep hb6
                have gC : Gb w6 so sl sc C := ⟨rC, bC, tC, by have := gB5.few; omega⟩
                have hD6 : Hid (Nat.gcd (bv C) (bv A) = D) := hid (gcd_less hC.out (by rw [Nat.gcd_comm]; exact hD.out))
                have hm6 : Hid (bv C + bv A < S0) := hid (by have := hC.out; have := HSA.out; have := hpA.out; omega)
                go_roundw
                case rel => exact ⟨so, _, sl, sc, _, _, C, A, rfl, rfl, gC, gA6, ha, hD6, hbr.trans (hb6z.mono hbr.size)⟩
                case measure => rw [ival_eq gC.rd, ival_eq gA6.rd, ← HS0.out]; exact hm6.out
              · have hd : decide (bv A < bv B) = false := decide_eq_false hless
                have hle : Hid (bv B ≤ bv A) := hid (by omega)
                clear hless
                go_wp2_with (first
                  | (go_at_call 81; refine (lessR _ _ _ A _ _ _ B _ gA2.rd gB.rd gA2.b1 gB.b1 gA2.top gB.top).mono ?_; rintro e w5 ⟨rfl, hb5⟩; rw [hd]; have gA5 := gA2.keep hb5; have gB5 := gB.keep hb5; have hb5z := hbz.trans (hb5.mono hbz.size))
                  | (go_at_call 82; refine (subR _ _ _ A _ _ _ B _ gA5.rd gB5.rd gA5.b1 gB5.b1 gB5.top hle (by have := gA5.few; omega)).mono ?_; rintro e w6 ⟨so, sl, sc, C, rfl, hsl, rC, bC, tC, hC, hb6⟩))
                have hb6z := hb5z.trans (hb6.mono hb5z.size)
                have gB6 := gB5.keep hb6
                have gC : Gb w6 so sl sc C := ⟨rC, bC, tC, by have := gA5.few; omega⟩
                have hD6 : Hid (Nat.gcd (bv C) (bv B) = D) := hid (gcd_less hC.out hD.out)
                have hm6 : Hid (bv C + bv B < S0) := hid (by have := hC.out; have := HSA.out; have := hpB.out; omega)
                go_roundw
                case rel => exact ⟨so, _, sl, sc, _, _, C, B, rfl, rfl, gC, gB6, h0, hD6, hbr.trans (hb6z.mono hbr.size)⟩
                case measure => rw [ival_eq gC.rd, ival_eq gB6.rd, ← HS0.out]; exact hm6.out
    · have hA := gA.zero ha
      have hB : Hid (bv B * 2 ^ n = G) := hid (by have := hD.out; rw [hA] at this; rw [← HG.out, ← this]; simp [bv])
      obtain ⟨b, off, rfl, -⟩ := gB.cell h0
      clear hA
      go_wp2
      exact GC_7 gB h0 hn hB hgg (HPr.out.keep hbr) (hzb.trans (hbr.mono hzb.size))

set_option maxRecDepth 100000 in
set_option maxHeartbeats 8000000 in
theorem GC_4 {w wz : World} {G gr la ca lb cb : Nat} {ao bo : Option Addr} {A B : List Nat} {u0 u1 u2 u3 u7 u8 u9 u10 u11 u12 u13 u14 u15 u16 u17 u18 u19 u20 u21 u22 u23 u24 u25 u26 u27 u28 u29 u30 u31 u32 u33 u34 u35 u36 u37 u38 u39 u40 u41 u42 u43 u44 u45 u46 u47 u48 u49 u50 u51 u52 u53 u54 u55 u56 u57 u58 u59 u60 u61 u62 u63 u64 u65 u66 u67 u68 u69 : Value}
    (gA : Gb wz ao la ca A) (gB : Gb wz bo lb cb B) (ha : 0 < la) (h0 : 0 < lb) (HG : Hid (Nat.gcd (bv A) (bv B) = G))
    (hgg : w.heap.size ≤ gr) (pr : Pr wz gr 28 (.bool false) (.slice none 0 0)) (hzb : Below w.heap.size w wz) :
    Code.wp Tryd.prog (tail54 5) (Q54 w G) ⟨#[u0, u1, u2, u3, .pointer (some ⟨gr, 0, none⟩), .slice ao la ca, .slice bo lb cb, u7, u8, u9, u10, u11, u12, u13, u14, u15, u16, u17, u18, u19, u20, u21, u22, u23, u24, u25, u26, u27, u28, u29, u30, u31, u32, u33, u34, u35, u36, u37, u38, u39, u40, u41, u42, u43, u44, u45, u46, u47, u48, u49, u50, u51, u52, u53, u54, u55, u56, u57, u58, u59, u60, u61, u62, u63, u64, u65, u66, u67, u68, u69], []⟩ wz := by
  have HPr := hid pr
  clear pr
  have hla0 := gA.few
  show Code.wp Tryd.prog (Code.seq (head54 5) (Code.seq (head54 6) (tail54 7))) _ _ _
  conv => arg 2; arg 1; whnf
  conv => arg 2; arg 2; arg 1; whnf
  go_wp2_with fail
  go_loopw [5, 6, 7] (fun av bw tw wr => ∃ (n : Nat) (ao bo : Option Addr) (la' ca lb cb : Nat) (A B : List Nat), av = .slice ao la' ca ∧ bw = .slice bo lb cb ∧ tw = .int .i64 (n : Int) ∧ n + la' ≤ la ∧ Gb wr ao la' ca A ∧ Gb wr bo lb cb B ∧ 0 < la' ∧ 0 < lb ∧ Hid (Nat.gcd (bv A) (bv B) * 2 ^ n = G) ∧ Below wz.heap.size wz wr) (fun av _ _ _ => slen av)
  case atStart => exact ⟨0, ao, bo, la, ca, lb, cb, A, B, rfl, rfl, rfl, by omega, gA, gB, ha, h0, hid (by rw [HG.out]; simp), Below.refl _ _⟩
  case round =>
    clear gA gB h0 ha HG A B ao bo ca lb cb
    obtain ⟨n, ao, bo, la', ca, lb, cb, A, B, rfl, rfl, rfl, hnl, gA, gB, ha, h0, HG, hbr⟩ := hrel
    obtain ⟨b, off, rfl, hc, hc0⟩ := gA.cell ha
    obtain ⟨b', off', rfl, hc', hc0'⟩ := gB.cell h0
    have hroom := gA.rd.room
    have hmost := gA.rd.most
    have hroom' := gB.rd.room
    have hmost' := gB.rd.most
    have hzb2 := hzb.trans (hbr.mono hzb.size)
    have P2 := HPr.out.keep hbr
    by_cases hz : dg A 0 = 0
    · have ht : ((dg A 0 : Int) == 0) = true := by simp [hz]
      by_cases hz' : dg B 0 = 0
      · have ht' : ((dg B 0 : Int) == 0) = true := by simp [hz']
        have h2 := gA.two ha hz
        have h2' := gB.two h0 hz'
        have hG2 : Hid (Nat.gcd (bv (A.drop 1)) (bv (B.drop 1)) * 2 ^ (n + 1) = G) := hid (by
          have h3 := HG.out
          rw [gA.half hz, gB.half hz', Nat.gcd_mul_left] at h3
          rw [← h3, Nat.pow_succ]; grind)
        clear hz hz' P2
        go_wp2
        go_roundw
        case rel => exact ⟨n + 1, _, _, _, _, _, _, A.drop 1, B.drop 1, rfl, rfl, by go_num, by omega, gA.cut h2, gB.cut h2', by omega, by omega, hG2, hbr⟩
        case measure => simp [slen]; omega
      · have ht' : ((dg B 0 : Int) == 0) = false := by simp; omega
        have hodd := hid (gcd_odd (a := bv A) (b := bv B) (.inr (gB.odd hz')))
        clear hz hz'
        go_wp2
        exact GC_6 gA gB h0 (by omega) hodd (hid rfl) HG hgg P2 hzb2
    · have ht : ((dg A 0 : Int) == 0) = false := by simp; omega
      have hodd := hid (gcd_odd (a := bv A) (b := bv B) (.inl (gA.odd hz)))
      clear hz
      go_wp2
      exact GC_6 gA gB h0 (by omega) hodd (hid rfl) HG hgg P2 hzb2

set_option maxRecDepth 100000 in
set_option maxHeartbeats 8000000 in
theorem gcdR (nx : Bool) (xo : Option Addr) (xl xc : Nat) (vx : Int) (ny : Bool) (yo : Option Addr) (yl yc : Nat) (vy : Int) (w : World) (hX : Big w nx xo xl xc vx) (hY : Big w ny yo yl yc vy) (sx : xl ≤ 1048576) (sy : yl ≤ 1048576) :
    Calls Tryd.prog 54 #[.agg #[.bool nx, .slice xo xl xc], .agg #[.bool ny, .slice yo yl yc]] w fun e w' => ∃ n' o l c, e = .returned (.agg #[.bool n', .slice o l c]) ∧ Big w' n' o l c (gcdi vx vy) ∧ Below w.heap.size w w' := by
  obtain ⟨A, rA, bA, tA, _, ex⟩ := hX
  obtain ⟨B, rB, bB, tB, _, ey⟩ := hY
  have HG : Hid (Nat.gcd (bv A) (bv B) = Nat.gcd vx.natAbs vy.natAbs) := hid (by rw [← ex, ← ey, sg_abs, sg_abs])
  have hgi : gcdi vx vy = ((Nat.gcd vx.natAbs vy.natAbs : Nat) : Int) := rfl
  rw [hgi]
  generalize Nat.gcd vx.natAbs vy.natAbs = G at *
  clear ex ey hgi
  obtain ⟨hpx, hpy, hpr, hzb, -⟩ := new3 (w := w) (o1 := .cells #[.bool nx, .slice xo xl xc] 28) (o2 := .cells #[.bool ny, .slice yo yl yc] 28) (o3 := .cells #[.bool false, .slice none 0 0] 28) rfl
  obtain ⟨x0, x1, _, _⟩ := two_cells hpx
  obtain ⟨y0, y1, _, _⟩ := two_cells hpy
  have HPR := hid hpr
  have gA : Gb _ xo xl xc A := ⟨rA.keep hzb, bA, tA, sx⟩
  have gB : Gb _ yo yl yc B := ⟨rB.keep hzb, bB, tB, sy⟩
  have GA := hid gA
  have GB := hid gB
  have HB := hid hzb
  clear hpx hpy hpr hzb rA rB gA gB
  by_cases ha : 0 < xl
  · by_cases hb : 0 < yl
    · go_enter Tryd.func54, Tryd.ntmps54
      change Code.wp Tryd.prog (Code.seq (head54 0) (Code.seq (head54 1) (Code.seq (head54 2) (Code.seq (head54 3) (Code.seq (head54 4) (tail54 5)))))) (Q54 w G) _ _
      conv => arg 2; arg 1; whnf
      conv => arg 2; arg 2; arg 1; whnf
      conv => arg 2; arg 2; arg 2; arg 1; whnf
      conv => arg 2; arg 2; arg 2; arg 2; arg 1; whnf
      conv => arg 2; arg 2; arg 2; arg 2; arg 2; arg 1; whnf
      go_wp2
      exact GC_4 GA.out GB.out ha hb HG (by omega) HPR.out HB.out
    · have hB := GB.out.zero hb
      have hv : Hid (sg false A = (G : Int)) := hid (by have := HG.out; rw [hB] at this; unfold sg; simp [bv] at this ⊢; exact_mod_cast this)
      have hyl : yl = 0 := by omega
      clear hB
      subst hyl
      go_enter Tryd.func54, Tryd.ntmps54
      go_wp2_with (go_at_call 68; (with_reducible refine (laidR _ _ _ _ A _ GA.out.rd GA.out.b1).mono ?_); rintro e w6 ⟨n', len', rfl, hle, hbig, hb6⟩; have r6 := hid (heap_keep HPR.out hb6); obtain ⟨c0, c1, _, _⟩ := two_cells r6.out)
      have hball := HB.out.trans (hb6.mono HB.out.size)
      refine bodyPost_ret (v := .agg #[.bool n', .slice xo len' xc]) (by simp [results, Tryd.results54, go_sem, c0, c1]) rfl ⟨_, _, _, _, rfl, ?_, ?_⟩
      · exact (hbig.other r6.out (by simp) (by simp) _ _).cast hv.out
      · exact (hball.setCell (by simp; omega) _).setCell (by simp; omega) _
  · have hA := GA.out.zero ha
    have hv : Hid (sg false B = (G : Int)) := hid (by have := HG.out; rw [hA] at this; unfold sg; simp [bv] at this ⊢; exact_mod_cast this)
    have hxl : xl = 0 := by omega
    clear hA
    subst hxl
    go_enter Tryd.func54, Tryd.ntmps54
    go_wp2_with (go_at_call 68; (with_reducible refine (laidR _ _ _ _ B _ GB.out.rd GB.out.b1).mono ?_); rintro e w6 ⟨n', len', rfl, hle, hbig, hb6⟩; have r6 := hid (heap_keep HPR.out hb6); obtain ⟨c0, c1, _, _⟩ := two_cells r6.out)
    have hball := HB.out.trans (hb6.mono HB.out.size)
    refine bodyPost_ret (v := .agg #[.bool n', .slice yo len' yc]) (by simp [results, Tryd.results54, go_sem, c0, c1]) rfl ⟨_, _, _, _, rfl, ?_, ?_⟩
    · exact (hbig.other r6.out (by simp) (by simp) _ _).cast hv.out
    · exact (hball.setCell (by simp; omega) _).setCell (by simp; omega) _

end Go.Proofs.YtldafoojkimdeaaDoor

namespace Go.Proofs.YtldafoojkimdeaaDoor
open Go.RowKit Lm

set_option maxRecDepth 100000 in
set_option maxHeartbeats 2000000 in
theorem shiftR_far (nx : Bool) (xo : Option Addr) (xl xc : Nat) (v : Int) (k : Nat) (N : Int) (w : World) (hX : Big w nx xo xl xc v) (h0 : 0 < xl) (sx : xl ≤ 1000000) (hk : 1000000 < k) (hN : N = -(k : Int)) (hk2 : k ≤ 9223372036854775808) :
    Calls Tryd.prog 56 #[.agg #[.bool nx, .slice xo xl xc], .int .i64 N] w fun e w' => ∃ n' o l c, e = .returned (.agg #[.bool n', .slice o l c]) ∧ Big w' n' o l c (v / ((2 ^ k : Nat) : Int)) ∧ Below w.heap.size w w' := by
  obtain ⟨L, rL, bL, tL, _, ev⟩ := hX
  have HL := hid rL.size
  obtain ⟨b, off, rfl, -⟩ := rL.cells h0
  have hlost : ∀ m, (bv (L.take m) ≠ 0 ↔ 0 < (tl (L.take m)).length) := fun m => by
    constructor
    · intro h
      rcases Nat.eq_zero_or_pos (tl (L.take m)).length with h1 | h1
      · exact absurd (by rw [← tl_bv, List.eq_nil_of_length_eq_zero h1]; rfl) h
      · exact h1
    · intro h h1
      have := btop_zero (tl_top (L.take m)) (by rw [tl_bv]; exact h1)
      rw [this] at h; simp at h
  have HQ : ∀ m, (k ≤ xl ∧ m = k) ∨ (xl < k ∧ m = xl) → Hid (v / ((2 ^ k : Nat) : Int) = sg nx (L.drop m) + if nx = true ∧ 0 < (tl (L.take m)).length then -1 else 0) := fun m hm => hid (by
    have e : (if nx = true ∧ 0 < (tl (L.take m)).length then (-1 : Int) else 0) = if nx = true ∧ bv (L.take m) ≠ 0 then -1 else 0 := by simp only [hlost m]
    rw [e, ← ev]
    rcases hm with ⟨h1, rfl⟩ | ⟨h1, rfl⟩
    · exact sg_down nx L bL m
    · have := sg_down_all nx L bL k (by rw [HL.out]; omega)
      rw [HL.out] at this; exact this)
  have HH := hid HQ
  clear HQ hlost ev
  have hz := new2 (w := w) (o1 := .cells #[.bool nx, .slice (some ⟨b, off, none⟩) xl xc] 28) (o2 := .cells #[.bool false, .slice none 0 0] 28) rfl
  obtain ⟨hpx, hpr, hzb, -⟩ := hz
  have PX := hid hpx
  have PR := hid hpr
  have rz := hid (rL.keep hzb)
  obtain ⟨x0, x1, _, _⟩ := two_cells hpx
  clear hpx hpr rL
  have HB := hid hzb
  clear hzb
  go_enter Tryd.func56, Tryd.ntmps56
  change Code.wp Tryd.prog (Code.seq (head56 0) (Code.seq (head56 1) (Code.seq (head56 2) (Code.seq (head56 3) (tail56 4))))) (Q56 w (v / ((2 ^ k : Nat) : Int))) _ _
  conv => arg 2; arg 1; whnf
  conv => arg 2; arg 2; arg 1; whnf
  conv => arg 2; arg 2; arg 2; arg 1; whnf
  conv => arg 2; arg 2; arg 2; arg 2; arg 1; whnf
  have h2 : xl < k := by omega
  have hkn : N ≤ -1000001 := by omega
  have HFIN := HH.out xl (.inr ⟨h2, rfl⟩)
  clear h2 HH
  by_cases hmin : -9223372036854775807 ≤ N
  · clear hN hk hk2
    go_wp2
    rw [show -(xl : Int) - 1 = -((xl + 1 : Nat) : Int) by omega]
    exact SH_4 (kq := xl + 1) sx (by omega) h0 (Nat.le_refl _) (hid (by omega)) bL HFIN (by simp) HB.out PX.out rz.out PR.out
  · obtain rfl : N = -9223372036854775808 := by omega
    clear hN hk hk2 hmin hkn
    have hmw : wrap64 9223372036854775808 = -9223372036854775808 := by decide +kernel
    go_wp2
    rw [show -(xl : Int) - 1 = -((xl + 1 : Nat) : Int) by omega]
    exact SH_4 (kq := xl + 1) sx (by omega) h0 (Nat.le_refl _) (hid (by omega)) bL HFIN (by simp) HB.out PX.out rz.out PR.out
end Go.Proofs.YtldafoojkimdeaaDoor
