/- Walks: Pow where nothing is wrong. -/
import Derived.Test.YtldafoojkimdeaaDoorW14
import Derived.Test.YtldafoojkimdeaaDoorW9
namespace Go.Proofs.YtldafoojkimdeaaDoor
open Go.RowKit Lm

theorem set_pair {w : World} {b : Nat} {x y : Value} {t : TypeId} (h : w.heap[b]? = some (.cells #[x, y] t (0, 0))) (x' y' : Value) :
    ((w.setCell ⟨b, 0, none⟩ x').setCell ⟨b, 1, none⟩ y').heap[b]? = some (.cells #[x', y'] t (0, 0)) := by
  have h1 := heap_setCell_same w b 0 #[x, y] t x' h
  have h2 := heap_setCell_same _ b 1 _ t y' h1
  rw [h2]; rfl
theorem heap_set {w : World} {k : Nat} {o : Obj} {p : Addr} {u : Value} (h : w.heap[k]? = some o) (hp : k ≠ p.block) : (w.setCell p u).heap[k]? = some o := (Below.heap_setCell _ _ _ _ hp).trans h

theorem long_num {n : Bool} {L : List Nat} {v : Int} (h : num n L = v) (hb : bl v.natAbs ≤ 4096) : tooLong L = false := by
  unfold tooLong; rw [← h, num_abs] at hb; simp; exact hb

/-- A power that is too long stays so. -/
theorem pow_long (a : Int) {m n : Nat} (hmn : m ≤ n) (h : 4096 < bl (a ^ m).natAbs) : 4096 < bl (a ^ n).natAbs := by
  have h1 : ¬ (a ^ m).natAbs < 2 ^ 4096 := fun k => by have := (bl_le _ 4096).2 k; omega
  apply Nat.lt_of_not_le
  intro k
  have h2 := (bl_le _ 4096).1 k
  apply h1
  refine Nat.lt_of_le_of_lt ?_ h2
  rw [Int.natAbs_pow, Int.natAbs_pow]
  rcases Nat.eq_zero_or_pos a.natAbs with h0 | h0
  · rw [h0]
    rw [Int.natAbs_pow, h0] at h
    rcases Nat.eq_zero_or_pos m with hm | hm
    · rw [hm] at h; exact absurd h (by decide)
    · rw [Nat.zero_pow hm] at h; exact absurd h (by decide)
  · exact Nat.pow_le_pow_right h0 hmn

theorem Num.set24 {base : Nat} {w : World} {n : Bool} {ao : Option Addr} {len : Nat} {v : Int} (h : Num base w n ao len v) {p : Addr} {cs : Array Value} (hp : w.heap[p.block]? = some (.cells cs 24 (0, 0))) (u : Value) : Num base (w.setCell p u) n ao len v := by
  obtain ⟨L, h1, h2, h3, h4⟩ := h
  refine ⟨L, h1, h2, ?_, h4⟩
  rcases h3 with h | ⟨k1, k2, g, k3, k4, k5⟩
  · exact .inl h
  · refine .inr ⟨k1, k2, g, k3, k4, k5.other (fun e => ?_) _⟩
    have := k5.block
    rw [e, hp] at this
    simp at this
theorem Num.pair24 {base : Nat} {w : World} {n : Bool} {ao : Option Addr} {len : Nat} {v : Int} (h : Num base w n ao len v) {b : Nat} {x y : Value} (hp : w.heap[b]? = some (.cells #[x, y] 24 (0, 0))) (x' y' : Value) :
    Num base ((w.setCell ⟨b, 0, none⟩ x').setCell ⟨b, 1, none⟩ y') n ao len v :=
  (h.set24 (p := ⟨b, 0, none⟩) hp x').set24 (p := ⟨b, 1, none⟩) (heap_setCell_same w b 0 #[x, y] 24 x' hp) y'

theorem pow_after {w w4 : World} {s0 go : Nat} {o1 o2 : Obj} {x0 y0 : Value} (hB : Below s0 w w4) (h1 : w4.heap[s0]? = some o1) (h2 : w4.heap[s0 + 1]? = some o2) (h3 : w4.heap[go]? = some (.cells #[x0, y0] 24 (0, 0))) (hgo : s0 + 3 ≤ go) (x y : Value) :
    Below s0 w ((w4.setCell ⟨go, 0, none⟩ x).setCell ⟨go, 1, none⟩ y) ∧ ((w4.setCell ⟨go, 0, none⟩ x).setCell ⟨go, 1, none⟩ y).heap[s0]? = some o1 ∧ ((w4.setCell ⟨go, 0, none⟩ x).setCell ⟨go, 1, none⟩ y).heap[s0 + 1]? = some o2 ∧
      ((w4.setCell ⟨go, 0, none⟩ x).setCell ⟨go, 1, none⟩ y).heap[go]? = some (.cells #[x, y] 24 (0, 0)) ∧ ((w4.setCell ⟨go, 0, none⟩ x).setCell ⟨go, 1, none⟩ y).heap.size = w4.heap.size :=
  ⟨(hB.setCell (by simp; omega) _).setCell (by simp; omega) _, heap_set (heap_set h1 (by simp; omega)) (by simp; omega), heap_set (heap_set h2 (by simp; omega)) (by simp; omega), set_pair h3 _ _, by simp [World.setCell]⟩
theorem bit_cast (n j : Nat) : (n : Int) / 2 ^ j % 2 = ((n / 2 ^ j % 2 : Nat) : Int) := by simp [Int.natCast_emod, Int.natCast_ediv, Int.natCast_pow]
theorem bit_yes {n j : Nat} (h : n / 2 ^ j % 2 = 1) : ((n : Int) / 2 ^ j % 2 == 1) = true := by rw [bit_cast, h]; rfl
theorem bit_no {n j : Nat} (h : ¬ n / 2 ^ j % 2 = 1) : ((n : Int) / 2 ^ j % 2 == 1) = false := by
  rw [bit_cast]
  generalize n / 2 ^ j % 2 = z at *
  rw [beq_eq_false_iff_ne]; omega
theorem half_eq {z q : Nat} (h : z / 2 = q) (hb : ¬ z % 2 = 1) : z = 2 * q := by omega
theorem two_half (n j : Nat) : 2 * (n / 2 ^ (j + 1)) ≤ n := by
  rw [Nat.pow_succ, ← Nat.div_div_eq_div_mul]
  have := Nat.div_le_self n (2 ^ j)
  generalize n / 2 ^ j = z at *
  omega
theorem bit_and (n j : Nat) (h : n ≤ 9223372036854775807) : bits .and .i64 ((n : Int) / 2 ^ j) 1 = ((n / 2 ^ j % 2 : Nat) : Int) := by
  have e : (n : Int) / 2 ^ j = ((n / 2 ^ j : Nat) : Int) := by simp [Int.natCast_ediv, Int.natCast_pow]
  have hle : n / 2 ^ j ≤ n := Nat.div_le_self _ _
  rw [e]
  have hk : ∀ z : Int, 0 ≤ z → z < 2 ^ 63 → IntKind.i64.wrap z = z := by intro z h0 h1; rw [IntKind.wrap_i64]; omega
  generalize n / 2 ^ j = z at *
  have := bits_mask .i64 63 (by decide) hk 1 (by decide) (z : Int) (by omega) (by omega)
  simpa using this

/-- What the loop of 'Pow' knows of the error's number and of 'out'. -/
def PowSt (s : Nat) (wr : World) (a : Int) (n k : Nat) (c : Int) (nn : Bool) (ao : Option Addr) (len : Nat) : Prop :=
  (c = 0 ∧ Num s wr nn ao len (a ^ (n / 2 ^ k)) ∧ bl (a ^ (n / 2 ^ k)).natAbs ≤ 4096) ∨ (c = 10 ∧ nn = false ∧ ao = none ∧ len = 0 ∧ ∃ m, m ≤ n ∧ 4096 < bl (a ^ m).natAbs)

set_option maxRecDepth 100000 in
set_option maxHeartbeats 2000000 in
theorem pow_good (na : Bool) (aa : Option Addr) (la ca : Nat) (A : List Nat) (n : Nat) (w : World) (hA : Rd w aa la ca A) (hn : n ≤ 9223372036854775807) (hbad : tooLong A = false) :
    Calls Tryd.prog 52 #[.agg #[.bool na, .slice aa la ca], .int .i64 (n : Int)] w fun e w' => ∃ n' ao' len' c, e = .returned (.tuple #[.agg #[.bool n', .slice ao' len' len'], .int .i64 c]) ∧ Fits w w' n' ao' len' c (num na A ^ n) ∧ Below w.heap.size w w' := by
  have hbn : bl n ≤ 63 := (bl_le n 63).2 (by omega)
  have hdiv0 : n / 2 ^ bl n = 0 := Nat.div_eq_of_lt ((bl_le n (bl n)).1 (Nat.le_refl _))
  have HD0 := hid hdiv0
  clear hdiv0
  generalize hbln : bl n = K at *
  go_enter Tryd.func52, Tryd.ntmps52
  go_wp2_with (first
    | (go_at_call 77; refine (long1_any _ na aa la ca A _ (((hA.alloc _).alloc _).alloc _) (by simp [go_sem]) (by simp [go_sem])).mono ?_; rintro e w1 ⟨rfl, hb1⟩; rw [hbad])
    | (go_at_call 24; refine (from_any 1 _ (by omega) (by omega)).mono ?_; rintro e w2 ⟨n1, ao1, len1, rfl, hn1, hb2⟩)
    | (go_at_call 95; refine (len_any n _ (by omega)).mono ?_; rintro e w3 ⟨rfl, rfl⟩; rw [hbln]))
  have hbad2 := hid hbad
  have HBL := hid hbln
  clear hbad hbln
  obtain ⟨p1, p2, _, hbw⟩ := hp3 _ _ _ _ hb1
  have hs1 := hb1.size
  have hs2 := hb2.size
  have hb3 : Below w2.heap.size w2 (w2.alloc (.cells #[.bool n1, .slice ao1 len1 len1] 24)) := (Below.refl _ _).alloc (Nat.le_refl _) _
  have P1 := hid (heap_keep (heap_keep p1 hb2) hb3)
  have P2 := hid (heap_keep (heap_keep p2 hb2) hb3)
  have P3 := hid (heap_alloc_new w2 (.cells #[.bool n1, .slice ao1 len1 len1] 24))
  have hgo : w.heap.size + 3 ≤ w2.heap.size := by simp at hs1; omega
  have hbv := (hbw.trans (hb2.mono hbw.size)).trans (hb3.mono (by omega))
  have hnv := (hn1.keep hb3).mono hbw.size
  have hltv : w2.heap.size < (w2.alloc (.cells #[.bool n1, .slice ao1 len1 len1] 24)).heap.size := by simp
  clear p1 p2 hbw hs1 hs2 hb1 hb2 hb3 hn1
  generalize w2.alloc (.cells #[.bool n1, .slice ao1 len1 len1] 24) = wv at *
  generalize w2.heap.size = go at *
  generalize hs0 : w.heap.size = s0 at *
  go_loopw [7, 8] (fun e i wr => ∃ (k : Nat) (c : Int) (nn : Bool) (ao : Option Addr) (len : Nat), k ≤ 63 ∧ i = .int .i64 ((k : Int) - 1) ∧ e = .int .i64 c ∧ Below s0 w wr ∧ Hid (wr.heap[s0]? = some (.cells #[.bool na, .slice aa la ca] 24 (0, 0))) ∧
      Hid (wr.heap[s0 + 1]? = some (.cells #[.bool false, .slice none 0 0] 24 (0, 0))) ∧ Hid (wr.heap[go]? = some (.cells #[.bool nn, .slice ao len len] 24 (0, 0))) ∧ go < wr.heap.size ∧ PowSt s0 wr (num na A) n k c nn ao len) (fun _ i _ => (intOf i + 1).toNat)
  case atStart => exact ⟨K, 0, n1, ao1, len1, hbn, rfl, rfl, hbv, P1, P2, P3, hltv, .inl ⟨rfl, by rw [HD0.out, Int.pow_zero]; exact hnv, by rw [HD0.out, Int.pow_zero]; decide⟩⟩
  case round =>
    obtain ⟨k, c, nn, ao, len, hk, rfl, rfl, hB, H1, H2, H3, hgl, hst⟩ := hrel
    obtain ⟨a0, a1, _, _⟩ := two_cells H1.out
    obtain ⟨r0, r1, rf0, rf1⟩ := two_cells H2.out
    obtain ⟨o0, o1, of0, of1⟩ := two_cells H3.out
    clear P1 P2 P3 hbv hnv hltv
    rcases hst with ⟨rfl, hnum, hbl⟩ | ⟨rfl, rfl, rfl, rfl, m, hmn, hml⟩
    · cases k with
      | zero =>
        rw [Nat.pow_zero, Nat.div_one] at hnum hbl
        go_wp2
        refine bodyPost_ret (v := .tuple #[.agg #[.bool nn, .slice ao len len], .int .i64 0]) (by simp [results, Tryd.results52, go_sem, r0, r1]) rfl ⟨_, _, _, _, rfl, .inl ⟨hbl, rfl, ?_⟩, ?_⟩
        · rw [hs0]; exact hnum.pair24 H2.out _ _
        · rw [hs0]; exact (hB.setCell (p := ⟨s0 + 1, 0, none⟩) (by simp) _).setCell (p := ⟨s0 + 1, 1, none⟩) (by simp) _
      | succ j =>
        obtain ⟨L, hL, tL, hLv, hL0⟩ := hnum.rd
        have hlg := long_num hLv hbl
        have HLV := hid hLv
        clear hLv
        have hq2 : n / 2 ^ j / 2 = n / 2 ^ (j + 1) := by rw [Nat.div_div_eq_div_mul, ← Nat.pow_succ]
        go_wp2_with fail
        refine (Mul_any nn ao len len L nn ao len len L _ hL hL).mono ?_
        rintro e w4 ⟨n2, ao2, len2, c2, rfl, hans, hb4⟩
        obtain ⟨q0, q1, qf0, qf1⟩ := two_cells (heap_keep H3.out hb4)
        have hs4 := hb4.size
        have hsr := hB.size
        rw [hs0] at hsr
        obtain ⟨K1, K2, K3, K4, K5⟩ := pow_after (hB.trans (hb4.mono hsr)) (heap_keep H1.out hb4) (heap_keep H2.out hb4) (heap_keep H3.out hb4) hgo (.bool n2) (.slice ao2 len2 len2)
        obtain ⟨ga0, ga1, _, _⟩ := two_cells K2
        obtain ⟨go0, go1, gof0, gof1⟩ := two_cells K4
        have hpow : num nn L * num nn L = num na A ^ (2 * (n / 2 ^ (j + 1))) := by
          rw [HLV.out, ← Int.pow_add]; congr 1; omega
        rcases hans with ⟨hx, _⟩ | ⟨_, ⟨hb2', rfl, hnum2⟩ | ⟨hl2, rfl, rfl, rfl, rfl⟩⟩
        · rw [hlg] at hx; exact absurd hx (by decide)
        · rw [hpow] at hb2' hnum2
          clear hpow
          have hnum3 := ((hnum2.set (p := ⟨go, 0, none⟩) hgl (.bool n2)).set (p := ⟨go, 1, none⟩) hgl (.slice ao2 len2 len2)).mono hsr
          have hbt := bit_and n j hn
          have HB2 := hid hb2'
          have HK := hid (And.intro K2 (And.intro K3 K4))
          have hgl5 : go < ((w4.setCell ⟨go, 0, none⟩ (.bool n2)).setCell ⟨go, 1, none⟩ (.slice ao2 len2 len2)).heap.size := by rw [K5]; omega
          have HQ2 := hid hq2
          clear K2 K3 K4 K5 H1 H2 H3 hb2' hnum2 hq2
          by_cases hbit : n / 2 ^ j % 2 = 1
          · have ht := bit_yes hbit
            have HBT := hid hbit
            clear hbit
            go_wp2_with fail
            generalize (w4.setCell ⟨go, 0, none⟩ (.bool n2)).setCell ⟨go, 1, none⟩ (.slice ao2 len2 len2) = w5 at *
            obtain ⟨L2, hL2, tL2, hLv2, _⟩ := hnum3.rd
            have hlg2 := long_num hLv2 HB2.out
            have hA5 := hA.keep (w' := w5) (by rw [hs0]; exact K1)
            refine (Mul_any n2 ao2 len2 len2 L2 na aa la ca A _ hL2 hA5).mono ?_
            rintro e w6 ⟨n3, ao3, len3, c3, rfl, hans3, hb6⟩
            have hs5 := K1.size
            rw [hs0] at hs5
            obtain ⟨s0', s1', sf0, sf1⟩ := two_cells (heap_keep HK.out.2.2 hb6)
            obtain ⟨J1, J2, J3, J4, J5⟩ := pow_after (K1.trans (hb6.mono hs5)) (heap_keep HK.out.1 hb6) (heap_keep HK.out.2.1 hb6) (heap_keep HK.out.2.2 hb6) hgo (.bool n3) (.slice ao3 len3 len3)
            have hs6 := hb6.size
            have hpow2 : num n2 L2 * num na A = num na A ^ (n / 2 ^ j) := by
              rw [hLv2, ← Int.pow_succ]; congr 1; have := HQ2.out; have := HBT.out; omega
            rw [hpow2] at hans3
            have HANS := hid hans3
            have HJ := hid (And.intro J2 (And.intro J3 (And.intro J4 J5)))
            clear hans3 hpow2 J2 J3 J4 J5 hLv2
            go_wp2
            go_roundw
            case rel =>
              refine ⟨j, c3, n3, ao3, len3, by omega, by go_num, rfl, J1, hid HJ.out.1, hid HJ.out.2.1, hid HJ.out.2.2.1, by rw [HJ.out.2.2.2]; omega, ?_⟩
              rcases HANS.out with ⟨hx, _⟩ | ⟨_, ⟨hb3', h0, hnum4⟩ | ⟨hl3, h0, h1, h2, h3⟩⟩
              · rw [hlg2, hbad2.out] at hx; exact absurd hx (by decide)
              · exact .inl ⟨h0, ((hnum4.set (p := ⟨go, 0, none⟩) hgl5 _).set (p := ⟨go, 1, none⟩) hgl5 _).mono hs5, hb3'⟩
              · exact .inr ⟨h0, h1, h2, h3, n / 2 ^ j, Nat.div_le_self _ _, hl3⟩
            case measure => simp [intOf]
          · have ht := bit_no hbit
            have HBT := hid hbit
            clear hbit
            go_wp2
            go_roundw
            case rel =>
              refine ⟨j, 0, n2, ao2, len2, by omega, by go_num, rfl, K1, hid HK.out.1, hid HK.out.2.1, hid HK.out.2.2, hgl5, .inl ⟨rfl, ?_, ?_⟩⟩
              · have e : n / 2 ^ j = 2 * (n / 2 ^ (j + 1)) := half_eq HQ2.out HBT.out
                rw [e]; exact hnum3
              · have e : n / 2 ^ j = 2 * (n / 2 ^ (j + 1)) := half_eq HQ2.out HBT.out
                rw [e]; exact HB2.out
            case measure => simp [intOf]
        · rw [hpow] at hl2
          have hgl5 : go < ((w4.setCell ⟨go, 0, none⟩ (.bool false)).setCell ⟨go, 1, none⟩ (.slice none 0 0)).heap.size := by rw [K5]; omega
          have HK := hid (And.intro K2 (And.intro K3 K4))
          have HL2 := hid hl2
          have HQ2 := hid hq2
          clear K2 K3 K4 K5 hpow hl2 hq2 H1 H2 H3
          go_wp2
          go_roundw
          case rel => exact ⟨j, 10, false, none, 0, by omega, by go_num, rfl, K1, hid HK.out.1, hid HK.out.2.1, hid HK.out.2.2, hgl5, .inr ⟨rfl, rfl, rfl, rfl, 2 * (n / 2 ^ (j + 1)), two_half n j, HL2.out⟩⟩
          case measure => simp [intOf]
    · have hml2 := hid (pow_long (num na A) hmn hml)
      clear hml hmn
      cases k with
      | zero =>
        go_wp2
        refine bodyPost_ret (v := .tuple #[.agg #[.bool false, .slice none 0 0], .int .i64 10]) (by simp [results, Tryd.results52, go_sem, r0, r1]) rfl ⟨_, _, _, _, rfl, .inr ⟨hml2.out, rfl, rfl, rfl, rfl⟩, ?_⟩
        rw [hs0]; exact (hB.setCell (p := ⟨s0 + 1, 0, none⟩) (by simp) _).setCell (p := ⟨s0 + 1, 1, none⟩) (by simp) _
      | succ j =>
        go_wp2
        refine bodyPost_ret (v := .tuple #[.agg #[.bool false, .slice none 0 0], .int .i64 10]) (by simp [results, Tryd.results52, go_sem, r0, r1]) rfl ⟨_, _, _, _, rfl, .inr ⟨hml2.out, rfl, rfl, rfl, rfl⟩, ?_⟩
        rw [hs0]; exact (hB.setCell (p := ⟨s0 + 1, 0, none⟩) (by simp) _).setCell (p := ⟨s0 + 1, 1, none⟩) (by simp) _
end Go.Proofs.YtldafoojkimdeaaDoor
