/- Walks: divide, by any number of limbs. Walks: divide, divideBoth, QuoRem, DivMod, by any number of limbs; and where they refuse. Walks: absolute; the divisions where nothing is too long; what their answers say. -/
import Derived.Test.YtldafoojkimdeaaDoorDivp
import Derived.Test.YtldafoojkimdeaaDoorW19m
import Derived.Test.YtldafoojkimdeaaDoorW21
import Derived.Test.YtldafoojkimdeaaDoorW48
import Derived.Test.YtldafoojkimdeaaDoorW23m
import Derived.Test.YtldafoojkimdeaaDoorW35
namespace Go.Proofs.YtldafoojkimdeaaDoor
open Go.RowKit Lm

theorem top_up {B DD : List Nat} {m : Nat} (oB : Ok B) (hl : B.length = m + 2) (ht : dg B (m + 1) ≠ 0) (oD : Ok DD) (hDl : DD.length = m + 3) (hv : val DD = val B * 2 ^ (32 - bl (dg B (m + 1)))) :
    val (DD.take (m + 2)) = val DD ∧ 2147483648 ≤ dg DD (m + 1) ∧ val DD < P (m + 2) := by
  have h32 := oB.dg (m + 1)
  have hvB := val_take_dg B (m + 1) (by omega)
  rw [List.take_of_length_le (by omega)] at hvB
  have hB1 := val_lt (oB.take (m + 1))
  rw [List.length_take, Nat.min_eq_left (by omega)] at hB1
  generalize dg B (m + 1) = t at *
  have hk1 := (bl_le t (bl t)).1 (Nat.le_refl _)
  have hk2 : ¬ bl t ≤ bl t - 1 ∧ bl t ≤ 32 ∧ 0 < bl t := by
    have h0 : ¬ bl t ≤ 0 := by rw [bl_le]; simp; exact ht
    have h1 : bl t ≤ 32 := (bl_le t 32).2 h32
    omega
  obtain ⟨hk3, hk4, hk5⟩ := hk2
  rw [bl_le] at hk3
  generalize bl t = k at *
  have e1 : (4294967296 : Nat) = 2 ^ k * 2 ^ (32 - k) := by rw [← Nat.pow_add, Nat.add_sub_cancel' hk4]
  have e2 : (2147483648 : Nat) = 2 ^ (k - 1) * 2 ^ (32 - k) := by rw [← Nat.pow_add, show k - 1 + (32 - k) = 31 by omega]
  have hu : 0 < 2 ^ (32 - k) := Nat.two_pow_pos _
  have hP := P_pos (m + 1)
  have hD1 : val DD < P (m + 2) := by
    rw [hv, show m + 2 = m + 1 + 1 by rfl, P_succ, e1, ← Nat.mul_assoc]
    refine Nat.mul_lt_mul_of_pos_right ?_ hu
    have := Nat.mul_le_mul_left (P (m + 1)) (show t + 1 ≤ 2 ^ k from hk1)
    rw [Nat.mul_add, Nat.mul_one] at this
    omega
  have hD2 : P (m + 1) * 2147483648 ≤ val DD := by
    rw [hv, e2, ← Nat.mul_assoc]
    refine Nat.mul_le_mul_right _ ?_
    have := Nat.mul_le_mul_left (P (m + 1)) (show 2 ^ (k - 1) ≤ t by omega)
    omega
  have hT := val_take_small (L := DD) (m + 2) hD1
  refine ⟨hT, ?_, hD1⟩
  have h7 := val_take_dg DD (m + 1) (by omega)
  rw [show m + 1 + 1 = m + 2 by rfl, hT] at h7
  have h8 := val_lt (oD.take (m + 1))
  rw [List.length_take, Nat.min_eq_left (by omega)] at h8
  rcases Nat.lt_or_ge (dg DD (m + 1)) 2147483648 with h9 | h9
  · have := Nat.mul_le_mul_left (P (m + 1)) (show dg DD (m + 1) + 1 ≤ 2147483648 from h9)
    rw [Nat.mul_add, Nat.mul_one] at this
    omega
  · exact h9

theorem row_first {X V : Nat} (D p : Nat) (h : V = X) : X = D * (p * val []) + V := by
  rw [val_nil, Nat.mul_zero, Nat.mul_zero, Nat.zero_add, h]
theorem row_before {L DD : List Nat} {j m : Nat} (hLok : Ok L) (hj : j < L.length) (hT1 : val (DD.take (m + 2)) = val DD) (hT3 : val DD < P (m + 2)) (hb : val (L.drop (j + 1)) < val DD) :
    val ((L.drop j).take (m + 3)) < val (DD.take (m + 2)) * 4294967296 := by
  obtain ⟨e1, e2, _⟩ := div_row (n := m + 2) hLok hj (Nat.le_of_lt hT3) hb
  rw [hT1]
  exact Nat.lt_of_le_of_lt (Nat.le_of_eq e1) e2
theorem row_done {L M DD Q : List Nat} {X j m qv la : Nat} (hLok : Ok L) (hl : L.length = la + 1) (hj : j + (m + 3) ≤ la + 1) (hT1 : val (DD.take (m + 2)) = val DD) (hT3 : val DD < P (m + 2)) (hI : X = val DD * (P (j + 1) * val Q) + val L) (hb : val (L.drop (j + 1)) < val DD)
    (hq : val ((L.drop j).take (m + 3)) / val (DD.take (m + 2)) = qv) (hM : val M = val ((L.drop j).take (m + 3)) % val (DD.take (m + 2))) (hMl : M.length = m + 3) :
    (L.take j ++ M ++ L.drop (j + (m + 3))).length = la + 1 ∧ X = val DD * (P j * val (qv :: Q)) + val (L.take j ++ M ++ L.drop (j + (m + 3))) ∧ val ((L.take j ++ M ++ L.drop (j + (m + 3))).drop j) < val DD ∧ qv < 4294967296 := by
  have hlt := row_before hLok (by omega) hT1 hT3 hb
  rw [hT1] at hq hM hlt
  obtain ⟨h1, h2⟩ := div_next (n := m + 2) hLok (by omega) (by omega) (Nat.le_of_lt hT3) hI hb hM hMl
  refine ⟨?_, ?_, h2, ?_⟩
  · rw [List.length_append, List.length_append, List.length_take, List.length_drop, hMl]; omega
  · rw [val_cons, ← hq]; exact h1
  · rw [← hq, Nat.div_lt_iff_lt_mul (by omega), Nat.mul_comm]; exact hlt
theorem quo_done {a b q s x : Nat} (hb : 0 < b) (hq : q = a / b) (hs : s = x) (hx : x = a % b) : a = q * b + s ∧ s < b := by
  subst hq hs hx
  exact ⟨(Nat.div_add_mod' a b).symm, Nat.mod_lt _ hb⟩

theorem shiftUp_few (aa : Option Addr) (la ca : Nat) (A : List Nat) (u : Nat) (w : World) (hA : Rd w aa la ca A) (hsa : la ≤ 5000) (hu : u ≤ 31) :
    Calls Tryd.prog 97 #[.slice aa la ca, .int .i64 (u : Int)] w fun e w' => ∃ g L, e = .returned (.slice (some ⟨g, 0, none⟩) (la + 1) (la + 1)) ∧ w.heap.size ≤ g ∧ Rw w' g L ∧ Hid (L.length = la + 1) ∧ Ok L ∧ Hid (val L = val A * 2 ^ u) ∧ Below w.heap.size w w' := by
  refine (shiftUp_any aa la ca A u w hA hsa (by omega)).mono ?_
  rintro e w' ⟨g, L, rfl, h1, h2, h3, h4, h5, h6⟩
  rw [show la + u / 32 + 1 = la + 1 by omega] at h3
  exact ⟨g, L, by rw [h3], h1, h2, hid h3, h4, hid h5, h6⟩

set_option maxRecDepth 100000 in
set_option maxHeartbeats 4000000 in
theorem divide_long (aa : Option Addr) (la ca : Nat) (A : List Nat) (ab : Option Addr) (m cb : Nat) (B : List Nat) (w : World) (hA : Rd w aa la ca A) (hB : Rd w ab (m + 2) cb B) (tA : Top A) (tB : Top B) (hsm : la ≤ 300) (hsb : m + 2 ≤ 300) (hge : val B ≤ val A) :
    Calls Tryd.prog 94 #[.slice aa la ca, .slice ab (m + 2) cb] w fun e w' => ∃ qo ql qc ro rl rc, e = .returned (.tuple #[.slice qo ql qc, .slice ro rl rc]) ∧ Divs w' (val A) (val B) qo ql qc ro rl rc ∧ Below w.heap.size w w' := by
  have hc : ¬ cmp (val A) (val B) < 0 := by unfold cmp; rw [if_neg (by omega)]; split <;> decide
  obtain ⟨i0, hi, hz0, hz1, hz2⟩ := info_parts Tryd.info43
  have hlen : m + 2 ≤ la := by
    have h1 := hA.size
    have h2 := hB.size
    rcases Nat.lt_or_ge la (m + 2) with h | h
    · have := top_length tB hA.ok (by omega); omega
    · exact h
  have ht : dg B (m + 1) ≠ 0 := by
    have h2 := hB.size
    have hne : B ≠ [] := by intro h; rw [h] at h2; simp at h2
    have := tB hne
    rw [getLast_getD, h2] at this
    exact this
  have hdl := hB.ok.dg (m + 1)
  obtain ⟨bb, boff, rfl, hcb⟩ := hB.cells (by omega)
  have hcell := hcb (m + 1) (by omega)
  clear hcb
  obtain ⟨t, htt⟩ : ∃ t, t = dg B (m + 1) := ⟨_, rfl⟩
  have HTT := hid htt
  have HT := hid ht
  rw [← htt] at hcell hdl ht
  obtain ⟨u, hu⟩ : ∃ u, u = 32 - bl t := ⟨_, rfl⟩
  have hu31 : u ≤ 31 ∧ (32 : Int) - (bl t : Int) = (u : Int) := by
    have h0 : ¬ bl t ≤ 0 := by rw [bl_le]; simp; exact ht
    have h1 : bl t ≤ 32 := (bl_le t 32).2 hdl
    omega
  obtain ⟨hu1, hu2⟩ := hu31
  have HU := hid hu
  have HU2 := hid hu2
  clear htt ht hu hu2
  go_enter Tryd.func94, Tryd.ntmps94
  go_wp2_with (first
    | (go_at_call 74; refine (compare_any _ _ _ A _ _ _ B _ hA hB tA tB).mono ?_; rintro e w5 ⟨rfl, q, rfl⟩; have hcell := show (w.drewN q).cell? _ = _ from hcell)
    | (go_at_call 115; refine (zeros32_any _ _ hdl).mono ?_; rintro e w5 ⟨he, rfl⟩; rw [HU2.out] at he; subst he))
  have hA1 := hA.drewN q
  have hB1 := hB.drewN q
  have hbw : Below w.heap.size w (w.drewN q) := bdrew (Below.refl _ _) q
  have hws : w.heap.size = (w.drewN q).heap.size := rfl
  clear hcell
  generalize w.drewN q = wv at *
  go_region_with (first
    | (go_at_call_of 97 boff; (with_reducible refine (shiftUp_few (some ⟨bb, boff, none⟩) (m + 2) cb B u wv.drew hB1.drew (by omega) hu1).mono ?_); rintro e w2 ⟨gd, DD, rfl, hgd, hRD, hDl, hDo, hDv, hb2⟩)
    | (go_at_call_of 97 aa; (with_reducible refine (shiftUp_few aa la ca A u w2 (hA1.drew.keep hb2) (by omega) hu1).mono ?_); rintro e w3 ⟨gl, LL, rfl, hgl, hRL, hLl, hLo, hLv, hb3⟩))
  all_goals
    have hbx : Below wv.heap.size wv w3 := (undrew hb2).trans (hb3.mono (undrew hb2).size)
    have hs2 := (undrew hb2).size
    have hgd0 : wv.heap.size ≤ gd := hgd
    have hgl0 : w2.heap.size ≤ gl := hgl
    have hgdl := hRD.lt
    have hRD3 : Rw w3 gd DD := hRD.keep' hb3
    have hb0 : Below w.heap.size w w3 := hbw.trans (hbx.mono (by omega))
    clear hb2 hb3 hA1 hB1 hRD hbx hgd hgl
    go_wp2_with (at_make; refine wpList_make_full _ rfl _ _ 22 rfl w3.heap.size 43 i0 (.int .u32 0) 1 Tryd.underlying22 hi hz0 hz1 .i64 .i64 _ _ (la - (m + 2) + 1) rfl rfl (by omega) (by omega) ?c1 ?c2 ?c3 ?_)
    case c1 => rw [hz2]; omega
    case c2 => unfold maxLen; omega
    case c3 => simp
    intro w4 hown hgrow
    have hrow : Rw w4 w3.heap.size (List.replicate (la - (m + 2) + 1) 0) := Rw.of_own hown (made_zeros _ _ (by omega))
    have hbel : Below w3.heap.size w3 w4 := (Below.refl _ _).grown hgrow (Nat.le_refl _) (by intro k hk; simp at hk)
    have hRD4 := hRD3.keep' hbel
    have hRL4 := hRL.keep' hbel
    have hs3 := hRL.lt
    have hb4 : Below w.heap.size w w4 := hb0.trans (hbel.mono (by omega))
    clear hown hgrow hRD3 hRL hb0 hbel
    obtain ⟨hT1, hT2, hT3⟩ := top_up hB.ok hB.size HT.out hDo hDl.out (by rw [← HTT.out, ← HU.out]; exact hDv.out)
    have hXlt := val_lt hA.ok
    rw [hA.size] at hXlt
    have hfirst := div_first (L := LL) (B := DD.take (m + 2)) (X := val A) (up := u) (la := la) (n := m + 2) hLo hLv.out hXlt hLl.out (by omega) hlen hu1 (by rw [List.length_take, hDl.out]; omega) (by rw [dg_take _ _ _ (by omega)]; exact hT2)
    rw [hT1] at hfirst
    have HF := hid hfirst
    have HT1 := hid hT1
    have HT2 := hid hT2
    have HT3 := hid hT3
    have HI := hid (row_first (val DD) (P (la - (m + 2) + 1)) hLv.out)
    have hne : gd ≠ gl := by omega
    clear hT1 hT2 hT3 hXlt hfirst hi hz0 hz1 hz2
    go_wp2
    go_loopw [12] (fun i wr => ∃ (k : Nat) (L Q : List Nat), k ≤ la - (m + 2) + 1 ∧ i = .int .i64 ((k : Int) - 1) ∧ Hid (L.length = la + 1) ∧ Ok L ∧ Rw wr gl L ∧ Rw wr gd DD ∧ Hid (Q.length = la - (m + 2) + 1 - k) ∧ Ok Q ∧ Rw wr w3.heap.size (List.replicate k 0 ++ Q) ∧
        Hid (val A * 2 ^ u = val DD * (P k * val Q) + val L) ∧ Hid (val (L.drop k) < val DD) ∧ Below w.heap.size w wr) (fun i _ => (intOf i + 1).toNat)
    case atStart => exact ⟨la - (m + 2) + 1, LL, [], Nat.le_refl _, by go_num, hLl, hLo, hRL4, hRD4, hid (by simp), Ok.nil, by simpa using hrow, HI, HF, hb4⟩
    case round =>
      obtain ⟨k, L, Q, hk, rfl, hL, hLok, hRl, hRd, hQ, hQok, hRq, hval, hb, hB1⟩ := hrel
      clear hrow hRL4 hRD4 hb4 HI HF hLl hLv hLo
      cases k with
      | zero =>
        have hv := hval.out
        have hb0 := hb.out
        rw [List.drop_zero] at hb0
        have hu0 : 0 < 2 ^ u := Nat.two_pow_pos _
        have hBpos : 0 < val B := by
          rcases Nat.eq_zero_or_pos (val B) with h | h
          · rw [hDv.out, h, Nat.zero_mul] at hb0; omega
          · exact h
        obtain ⟨hq, hr⟩ := div_last hu0 hv hDv.out hBpos hb0
        have hLn : val (L.take (m + 2)) = val L := val_take_small _ (Nat.lt_trans hb0 HT3.out)
        have hS : val (L.take (m + 2)) / 2 ^ u = val A % val B := by rw [hLn, hr, Nat.mul_div_cancel _ hu0]
        have HQ := hid hq
        have HS := hid hS
        have HBP := hid hBpos
        have hLt := hRl.rd hLok 0 (m + 2) (la + 1) (by rw [hL.out]; omega) (by omega) (by omega)
        rw [List.drop_zero] at hLt
        clear hv hb0 hu0 hBpos hq hr hLn hS
        go_wp2_with (go_at_call 110; refine (shiftDown_any _ _ _ (L.take (m + 2)) u _ hLt (by omega) (by omega)).mono ?_; rintro e w5 ⟨so, sl, sc, bl2, rfl, ⟨S, hSr, hSv, hsl, _⟩, hb5⟩; have HSV := hid hSv; clear hSv)
        go_ret2
        obtain ⟨hx1, hx2⟩ := quo_done HBP.out HQ.out HSV.out HS.out
        have hq5 : Rd w5 (some ⟨w3.heap.size, 0, none⟩) (la - (m + 2) + 1) (la - (m + 2) + 1) Q := by
          have h1 := ((show Rw wr w3.heap.size Q by simpa using hRq).keep' hb5).whole hQok (la - (m + 2) + 1) (by rw [hQ.out]; omega) (by omega)
          have h2 : Q.length = la - (m + 2) + 1 := by rw [hQ.out]; rfl
          rwa [h2] at h1
        exact ⟨_, _, _, _, _, _, rfl, ⟨Q, S, hq5, hSr, hx1, hx2, by omega, by omega⟩, hB1.trans (hb5.mono hB1.size)⟩
      | succ j =>
        have hjl : j < L.length := by rw [hL.out]; omega
        have HLT := hid (row_before hLok hjl HT1.out HT3.out hb.out)
        have hl3 : j + (m + 2) + 1 - j = m + 3 := by omega
        have hsz : j < (List.replicate (j + 1) 0 ++ Q).length := by rw [List.length_append, List.length_replicate]; omega
        have HSZ := hid hsz
        clear hjl hsz
        go_wp2_with (go_at_call 116; rw [hl3]; refine (reduce_any gl j m (m + 3) gd (m + 2 + 1) L DD wr hRl hLok hRd hDo hne (by rw [hL.out]; omega) (by rw [hDl.out]; omega) (by omega) (by omega) (by omega) (by omega) (by omega) (by omega) HT2.out HLT.out).mono ?_; rintro e w5 ⟨M, he, hMl, hMo, hRl5, hMv, hg5⟩; generalize hqv : val ((L.drop j).take (m + 3)) / val (DD.take (m + 2)) = qv at he; subst he; have HML := hid hMl; have HMV := hid hMv; have HQV := hid hqv; have hRq5 := hRq.grown hg5 (by omega); have hfr5 := hRq5.free j; have hcur5 := hRq5.cell j HSZ.out; clear hMl hMv hqv)
        obtain ⟨hy1, hy2, hy3, hy4⟩ := row_done hLok hL.out (by omega) HT1.out HT3.out hval.out hb.out HQV.out HMV.out HML.out
        have Hy1 := hid hy1
        have Hy2 := hid hy2
        have Hy3 := hid hy3
        clear hy1 hy2 hy3
        have hRd5 := hRd.grown hg5 hne
        have hB5 := hB1.grown hg5 (by have := hB1.size; omega) (by intro k hk; simp at hk; omega)
        go_roundw
        case rel =>
          refine ⟨j, L.take j ++ M ++ L.drop (j + (m + 3)), qv :: Q, by omega, rfl, Hy1, ((hLok.take _).append hMo).append (hLok.drop _), hRl5.other (show gl ≠ w3.heap.size by omega) _, hRd5.other (show gd ≠ w3.heap.size by omega) _, hid (by rw [List.length_cons, hQ.out]; omega), hQok.cons hy4, ?_, Hy2, Hy3, hB5.setCell (show w.heap.size ≤ w3.heap.size by omega) _⟩
          have := hRq5.set j qv
          rwa [set_low] at this
        case measure => simp [intOf]
end Go.Proofs.YtldafoojkimdeaaDoor

namespace Go.Proofs.YtldafoojkimdeaaDoor
open Go.RowKit Lm

set_option maxRecDepth 100000 in
set_option maxHeartbeats 2000000 in
theorem divide_less (aa : Option Addr) (la ca : Nat) (A : List Nat) (ab : Option Addr) (lb cb : Nat) (B : List Nat) (w : World) (hA : Rd w aa la ca A) (hB : Rd w ab lb cb B) (tA : Top A) (tB : Top B) (hsm : la ≤ 300) (hlt : val A < val B) :
    Calls Tryd.prog 94 #[.slice aa la ca, .slice ab lb cb] w fun e w' => ∃ qo ql qc ro rl rc, e = .returned (.tuple #[.slice qo ql qc, .slice ro rl rc]) ∧ Divs w' (val A) (val B) qo ql qc ro rl rc ∧ Below w.heap.size w w' := by
  have hc : cmp (val A) (val B) < 0 := by unfold cmp; rw [if_pos hlt]; decide
  go_enter Tryd.func94, Tryd.ntmps94
  go_wp2_with (go_at_call 74; refine (compare_any _ _ _ A _ _ _ B _ hA hB tA tB).mono ?_; rintro e w5 ⟨rfl, q, rfl⟩)
  go_ret2
  exact ⟨_, _, _, _, _, _, rfl, ⟨[], A, Rd.nil _, hA.drewN q, by simp [val], hlt, by omega, hsm⟩, bdrew (Below.refl _ _) q⟩

theorem divide_full (aa : Option Addr) (la ca : Nat) (A : List Nat) (ab : Option Addr) (lb cb : Nat) (B : List Nat) (w : World) (hA : Rd w aa la ca A) (hB : Rd w ab lb cb B) (tA : Top A) (tB : Top B) (hsm : la ≤ 300) (hsb : lb ≤ 300) (hb0 : 0 < val B) :
    Calls Tryd.prog 94 #[.slice aa la ca, .slice ab lb cb] w fun e w' => ∃ qo ql qc ro rl rc, e = .returned (.tuple #[.slice qo ql qc, .slice ro rl rc]) ∧ Divs w' (val A) (val B) qo ql qc ro rl rc ∧ Below w.heap.size w w' := by
  rcases Nat.lt_or_ge (val A) (val B) with h | h
  · exact divide_less aa la ca A ab lb cb B w hA hB tA tB hsm h
  · rcases Nat.lt_or_ge lb 2 with h2 | h2
    · exact divide_any aa la ca A ab lb cb B w hA hB tA tB hsm hsb hb0 (by omega)
    · obtain ⟨m, rfl⟩ : ∃ m, lb = m + 2 := ⟨lb - 2, by omega⟩
      exact divide_long aa la ca A ab m cb B w hA hB tA tB hsm hsb h

set_option maxRecDepth 100000 in
set_option maxHeartbeats 2000000 in
theorem divideBoth_full (na : Bool) (aa : Option Addr) (la ca : Nat) (A : List Nat) (nb : Bool) (ab : Option Addr) (lb cb : Nat) (B : List Nat) (w : World) (hA : Rd w aa la ca A) (hB : Rd w ab lb cb B) (hbad : (tooLong A || tooLong B) = false) (hb0 : 0 < val B) :
    Calls Tryd.prog 83 #[.agg #[.bool na, .slice aa la ca], .agg #[.bool nb, .slice ab lb cb]] w fun e w' => ∃ qo ql qc ro rl rc, e = .returned (.tuple #[.slice qo ql qc, .slice ro rl rc, .int .i64 0]) ∧ Divt w' (val A) (val B) qo ql qc ro rl rc ∧ Below w.heap.size w w' := by
  have hsA := small_len A (by simp at hbad; exact hbad.1)
  have hsB := small_len B (by simp at hbad; exact hbad.2)
  have hvA := hid (tl_val A)
  have hvB := hid (tl_val B)
  have hsgn : ((num nb B).sign == 0) = false := by
    have h : num nb B ≠ 0 := by unfold num; cases nb <;> simp <;> omega
    rcases Int.lt_trichotomy (num nb B) 0 with h1 | h1 | h1
    · rw [Int.sign_eq_neg_one_of_neg h1]; rfl
    · exact absurd h1 h
    · rw [Int.sign_eq_one_of_pos h1]; rfl
  have HB0 := hid hb0
  clear hb0
  go_enter Tryd.func83, Tryd.ntmps83
  go_wp2_with (first
    | (go_at_call 77; refine (long2_any _ na aa la ca A nb ab lb cb B _ (((hA.alloc _).alloc _).alloc _) (((hB.alloc _).alloc _).alloc _) (by simp [go_sem]) (by simp [go_sem]) (by simp [go_sem]) (by simp [go_sem])).mono ?_; rintro e w1 ⟨rfl, hb1⟩; rw [hbad]; obtain ⟨p1, p2, hbw, hlt1⟩ := hp3b _ _ _ _ hb1; obtain ⟨a0, a1, _, _⟩ := two_cells p1; obtain ⟨b0, b1, _, _⟩ := two_cells p2; have hA1 := hA.keep hbw; have hB1 := hB.keep hbw)
    | (go_at_call 28; refine (sign_any _ _ _ _ B _ hB1).mono ?_; rintro e w5 ⟨rfl, rfl⟩))
  clear hbad
  have hA2 := hA1.alloc (.cells #[.bool nb, .slice ab lb cb] 24)
  have hB2 := hB1.alloc (.cells #[.bool nb, .slice ab lb cb] 24)
  have hbw2 : Below w.heap.size w (w1.alloc (.cells #[.bool nb, .slice ab lb cb] 24)) := hbw.alloc (by omega) _
  have a12 := cell_keep a1 ((Below.refl w1.heap.size w1).alloc (Nat.le_refl _) (.cells #[.bool nb, .slice ab lb cb] 24))
  have b12 := cell_keep b1 ((Below.refl w1.heap.size w1).alloc (Nat.le_refl _) (.cells #[.bool nb, .slice ab lb cb] 24))
  have hlt2 : w.heap.size + 3 ≤ (w1.alloc (.cells #[.bool nb, .slice ab lb cb] 24)).heap.size := by simp; omega
  clear hb1 p1 p2 a0 a1 b0 b1 hA1 hB1 hbw hlt1 hsgn
  generalize w1.alloc (.cells #[.bool nb, .slice ab lb cb] 24) = wv at *
  go_region_held3 (fun w' => w'.cell? ⟨w.heap.size, 1, none⟩ = some (.slice aa la ca) ∧ w'.cell? ⟨w.heap.size + 1, 1, none⟩ = some (.slice ab lb cb)) (refine ⟨?_, ?_⟩ <;> first | assumption | (simp [go_sem]; assumption))
    (first
      | (go_at_call_of 71 (Value.slice aa la ca); refine (trim_any _ _ _ A _ ?_).mono ?_; (first | exact hA2 | exact hA2.drew); rintro e w5 ⟨rfl, rfl⟩)
      | (go_at_call_of 71 (Value.slice ab lb cb); refine (trim_any _ _ _ B _ ?_).mono ?_; (first | exact hB2 | exact hB2.drew); rintro e w5 ⟨rfl, rfl⟩)
      | (go_at_call 94; refine (divide_full _ _ _ (tl A) _ _ _ (tl B) _ ?_ ?_ (tl_top A) (tl_top B) (by omega) (by omega) (by rw [hvB.out]; exact HB0.out)).mono ?_; (first | exact hA2.tl | exact hA2.tl.drew); (first | exact hB2.tl | exact hB2.tl.drew); rintro e w2 ⟨qo, ql, qc, ro, rl, rc, rfl, hdiv, hb2⟩; have a13 := cell_keep a12 (undrew hb2); have b13 := cell_keep b12 (undrew hb2)))
  obtain ⟨Q, R, hQ, hR, hval, hlt, hql, hrl⟩ := hdiv
  have HV := hid hval
  have HLT := hid hlt
  clear hval hlt
  go_wp2_with (go_at_call 71; refine (trim_any _ _ _ R _ hR).mono ?_; rintro e w5 ⟨rfl, rfl⟩)
  go_ret3
  refine ⟨_, _, _, _, _, _, rfl, ⟨Q, tl R, hQ, hR.tl, tl_top R, ?_, ?_, hql, ?_⟩, hbw2.trans ((undrew hb2).mono (by simp; omega))⟩
  · rw [← hvA.out, ← hvB.out, show val (tl R) = val R from tl_val R]; exact HV.out
  · rw [← hvB.out, show val (tl R) = val R from tl_val R]; exact HLT.out
  · have := tl_length_le R; have := hR.size; omega

set_option maxRecDepth 100000 in
set_option maxHeartbeats 2000000 in
theorem divideBoth_bad (na : Bool) (aa : Option Addr) (la ca : Nat) (A : List Nat) (nb : Bool) (ab : Option Addr) (lb cb : Nat) (B : List Nat) (w : World) (hA : Rd w aa la ca A) (hB : Rd w ab lb cb B) (hbad : (tooLong A || tooLong B) = true) :
    Calls Tryd.prog 83 #[.agg #[.bool na, .slice aa la ca], .agg #[.bool nb, .slice ab lb cb]] w fun e w' => e = .returned (.tuple #[.slice none 0 0, .slice none 0 0, .int .i64 10]) ∧ Below w.heap.size w w' := by
  go_enter Tryd.func83, Tryd.ntmps83
  go_wp2_with (go_at_call 77; refine (long2_any _ na aa la ca A nb ab lb cb B _ (((hA.alloc _).alloc _).alloc _) (((hB.alloc _).alloc _).alloc _) (by simp [go_sem]) (by simp [go_sem]) (by simp [go_sem]) (by simp [go_sem])).mono ?_; rintro e w1 ⟨rfl, hb1⟩; rw [hbad]; obtain ⟨_, _, hbw, _⟩ := hp3b _ _ _ _ hb1)
  go_ret3
  exact ⟨rfl, hbw⟩

set_option maxRecDepth 100000 in
set_option maxHeartbeats 2000000 in
theorem divideBoth_zero (na : Bool) (aa : Option Addr) (la ca : Nat) (A : List Nat) (nb : Bool) (ab : Option Addr) (lb cb : Nat) (B : List Nat) (w : World) (hA : Rd w aa la ca A) (hB : Rd w ab lb cb B) (hbad : (tooLong A || tooLong B) = false) (hb0 : val B = 0) :
    Calls Tryd.prog 83 #[.agg #[.bool na, .slice aa la ca], .agg #[.bool nb, .slice ab lb cb]] w fun e w' => e = .returned (.tuple #[.slice none 0 0, .slice none 0 0, .int .i64 11]) ∧ Below w.heap.size w w' := by
  have hsgn : (num nb B).sign = 0 := by
    have h : num nb B = 0 := by unfold num; rw [hb0]; cases nb <;> rfl
    rw [h]; rfl
  go_enter Tryd.func83, Tryd.ntmps83
  go_wp2_with (first
    | (go_at_call 77; refine (long2_any _ na aa la ca A nb ab lb cb B _ (((hA.alloc _).alloc _).alloc _) (((hB.alloc _).alloc _).alloc _) (by simp [go_sem]) (by simp [go_sem]) (by simp [go_sem]) (by simp [go_sem])).mono ?_; rintro e w1 ⟨rfl, hb1⟩; rw [hbad]; obtain ⟨p1, p2, hbw, hlt1⟩ := hp3b _ _ _ _ hb1; obtain ⟨a0, a1, _, _⟩ := two_cells p1; obtain ⟨b0, b1, _, _⟩ := two_cells p2; have hB1 := hB.keep hbw)
    | (go_at_call 28; refine (sign_any _ _ _ _ B _ hB1).mono ?_; rintro e w5 ⟨rfl, rfl⟩; rw [hsgn]))
  go_ret3
  exact ⟨rfl, hbw.alloc (by omega) _⟩

theorem divideBoth_fail (na : Bool) (aa : Option Addr) (la ca : Nat) (A : List Nat) (nb : Bool) (ab : Option Addr) (lb cb : Nat) (B : List Nat) (w : World) (hA : Rd w aa la ca A) (hB : Rd w ab lb cb B) (hf : (tooLong A || tooLong B) = true ∨ val B = 0) :
    Calls Tryd.prog 83 #[.agg #[.bool na, .slice aa la ca], .agg #[.bool nb, .slice ab lb cb]] w fun e w' => e = .returned (.tuple #[.slice none 0 0, .slice none 0 0, .int .i64 (if (tooLong A || tooLong B) = true then 10 else 11)]) ∧ Below w.heap.size w w' := by
  by_cases hbad : (tooLong A || tooLong B) = true
  · rw [if_pos hbad]; exact divideBoth_bad na aa la ca A nb ab lb cb B w hA hB hbad
  · rw [if_neg hbad]; exact divideBoth_zero na aa la ca A nb ab lb cb B w hA hB (by simpa using hbad) (hf.resolve_left hbad)

set_option maxRecDepth 100000 in
set_option maxHeartbeats 2000000 in
theorem quoRem_fail (na : Bool) (aa : Option Addr) (la ca : Nat) (A : List Nat) (nb : Bool) (ab : Option Addr) (lb cb : Nat) (B : List Nat) (w : World) (hA : Rd w aa la ca A) (hB : Rd w ab lb cb B) (hf : (tooLong A || tooLong B) = true ∨ val B = 0) :
    Calls Tryd.prog 41 #[.agg #[.bool na, .slice aa la ca], .agg #[.bool nb, .slice ab lb cb]] w fun e w' => e = .returned (.tuple #[.agg #[.bool false, .slice none 0 0], .agg #[.bool false, .slice none 0 0], .int .i64 (if (tooLong A || tooLong B) = true then 10 else 11)]) ∧ Below w.heap.size w w' := by
  obtain ⟨ec, hec⟩ : ∃ ec : Int, ec = if (tooLong A || tooLong B) = true then 10 else 11 := ⟨_, rfl⟩
  have he0 : ec ≠ 0 := by rw [hec]; split <;> decide
  have HC := hid hec
  rw [← hec]
  clear hec
  go_enter Tryd.func41, Tryd.ntmps41
  go_wp2_with (go_at_call 83; refine (divideBoth_fail na aa la ca A nb ab lb cb B _ ((((hA.alloc _).alloc _).alloc _).alloc _) ((((hB.alloc _).alloc _).alloc _).alloc _) hf).mono ?_; rintro e w1 ⟨rfl, hb1⟩; rw [← HC.out]; obtain ⟨p1, p2, p3, p4, hbw, hlt1⟩ := hp4c _ _ _ _ _ hb1; obtain ⟨c0, c1, f0, f1⟩ := two_cells p3; obtain ⟨d0, d1, g0, g1⟩ := two_cells p4)
  refine bodyPost_ret (v := .tuple #[.agg #[.bool false, .slice none 0 0], .agg #[.bool false, .slice none 0 0], .int .i64 ec]) (by simp [results, Tryd.results41, go_sem, c0, c1, d0, d1]) rfl ⟨rfl, ?_⟩
  exact (((hbw.setCell (by simp; omega) _).setCell (by simp; omega) _).setCell (by simp; omega) _).setCell (by simp; omega) _

set_option maxRecDepth 100000 in
set_option maxHeartbeats 2000000 in
theorem divMod_fail (na : Bool) (aa : Option Addr) (la ca : Nat) (A : List Nat) (nb : Bool) (ab : Option Addr) (lb cb : Nat) (B : List Nat) (w : World) (hA : Rd w aa la ca A) (hB : Rd w ab lb cb B) (hf : (tooLong A || tooLong B) = true ∨ val B = 0) :
    Calls Tryd.prog 42 #[.agg #[.bool na, .slice aa la ca], .agg #[.bool nb, .slice ab lb cb]] w fun e w' => e = .returned (.tuple #[.agg #[.bool false, .slice none 0 0], .agg #[.bool false, .slice none 0 0], .int .i64 (if (tooLong A || tooLong B) = true then 10 else 11)]) ∧ Below w.heap.size w w' := by
  obtain ⟨ec, hec⟩ : ∃ ec : Int, ec = if (tooLong A || tooLong B) = true then 10 else 11 := ⟨_, rfl⟩
  have he0 : ec ≠ 0 := by rw [hec]; split <;> decide
  have HC := hid hec
  rw [← hec]
  clear hec
  go_enter Tryd.func42, Tryd.ntmps42
  go_wp2_with (go_at_call 83; refine (divideBoth_fail na aa la ca A nb ab lb cb B _ ((((hA.alloc _).alloc _).alloc _).alloc _) ((((hB.alloc _).alloc _).alloc _).alloc _) hf).mono ?_; rintro e w1 ⟨rfl, hb1⟩; rw [← HC.out]; obtain ⟨p1, p2, p3, p4, hbw, hlt1⟩ := hp4c _ _ _ _ _ hb1; obtain ⟨c0, c1, f0, f1⟩ := two_cells p3; obtain ⟨d0, d1, g0, g1⟩ := two_cells p4)
  refine bodyPost_ret (v := .tuple #[.agg #[.bool false, .slice none 0 0], .agg #[.bool false, .slice none 0 0], .int .i64 ec]) (by simp [results, Tryd.results42, go_sem, c0, c1, d0, d1]) rfl ⟨rfl, ?_⟩
  exact (((hbw.setCell (by simp; omega) _).setCell (by simp; omega) _).setCell (by simp; omega) _).setCell (by simp; omega) _

set_option maxRecDepth 100000 in
set_option maxHeartbeats 2000000 in
theorem divMod_full (na : Bool) (aa : Option Addr) (la ca : Nat) (A : List Nat) (nb : Bool) (ab : Option Addr) (lb cb : Nat) (B : List Nat) (w : World) (hA : Rd w aa la ca A) (hB : Rd w ab lb cb B) (hbad : (tooLong A || tooLong B) = false) (hb0 : 0 < val B) :
    Calls Tryd.prog 42 #[.agg #[.bool na, .slice aa la ca], .agg #[.bool nb, .slice ab lb cb]] w fun e w' => ∃ nq qo ql nr ro rl q r, e = .returned (.tuple #[.agg #[.bool nq, .slice qo ql ql], .agg #[.bool nr, .slice ro rl rl], .int .i64 0]) ∧
      Num w.heap.size w' nq qo ql q ∧ Num w.heap.size w' nr ro rl r ∧ FloorDiv (num na A) (num nb B) q r nb ∧ Below w.heap.size w w' := by
  have hsB := small_len B (by simp at hbad; exact hbad.2)
  have HB0 := hid hb0
  have hvB := hid (tl_val B)
  go_enter Tryd.func42, Tryd.ntmps42
  go_wp2_with (go_at_call 83; refine (divideBoth_full na aa la ca A nb ab lb cb B _ ((((hA.alloc _).alloc _).alloc _).alloc _) ((((hB.alloc _).alloc _).alloc _).alloc _) hbad hb0).mono ?_; rintro e w1 ⟨qo, ql, qc, ro, rl, rc, rfl, ⟨Q, R, hQ, hR, tR, hval, hlt, hql, hrl⟩, hb1⟩; obtain ⟨p1, p2, p3, p4, hbw, hlt1⟩ := hp4c _ _ _ _ _ hb1; obtain ⟨a0, _, _, _⟩ := two_cells p1; obtain ⟨b0, b1, _, _⟩ := two_cells p2; have hB1 := hB.keep hbw; have P3 := hid p3; have P4 := hid p4; have HV := hid hval; have HLT := hid hlt; have ca0 := a0; have cb0 := b0; clear p1 p2 p3 p4 hval hlt hb1 a0 b0)
  · have hna : na = nb := by assumption
    subst hna
    have ca0d := show w1.drew.cell? ⟨w.heap.size, 0, none⟩ = _ from ca0
    have cb0d := show w1.drew.cell? ⟨w.heap.size + 1, 0, none⟩ = _ from cb0
    go_region_held3 (fun w' => w'.cell? ⟨w.heap.size, 0, none⟩ = some (.bool na) ∧ w'.cell? ⟨w.heap.size + 1, 0, none⟩ = some (.bool na)) (first | (with_reducible exact ⟨ca0, cb0⟩) | (with_reducible exact ⟨ca0d, cb0d⟩) | (with_reducible exact ⟨a03, b03⟩) | (with_reducible exact ⟨a04, b04⟩) | (simp [go_sem, a04, b04]; done))
      (first
        | (go_at_call 69; (with_reducible refine (give_any _ qo ql qc Q _ ?_).mono ?_); (first | exact hQ | exact hQ.drew); rintro e w2 ⟨n1, ao1, len1, rfl, hn1, hb2⟩; have a03 := cell_keep ca0 (undrew hb2); have b03 := cell_keep cb0 (undrew hb2); have q3 := hid (heap_keep P3.out (undrew hb2)); have q4 := hid (heap_keep P4.out (undrew hb2)); have hR2 := hR.keep (undrew hb2))
        | (go_at_call 69; (with_reducible refine (give_any _ ro rl rc R _ hR2).mono ?_); rintro e w3 ⟨n2, ao2, len2, rfl, hn2, hb3⟩; have a04 := cell_keep a03 hb3; have b04 := cell_keep b03 hb3; obtain ⟨c0, c1, f0, f1⟩ := two_cells (heap_keep q3.out hb3); obtain ⟨d0, d1, g0, g1⟩ := two_cells (heap_keep q4.out hb3)))
    have hs2 := (undrew hb2).size
    have hs3 := hb3.size
    have hfd := floor_same na A B Q R HV.out HLT.out
    go_wp2
    refine bodyPost_ret (v := .tuple #[.agg #[.bool n1, .slice ao1 len1 len1], .agg #[.bool n2, .slice ao2 len2 len2], .int .i64 0]) (by simp [results, Tryd.results42, go_sem, c0, c1, d0, d1]) rfl ⟨_, _, _, _, _, _, _, _, rfl, ?_, ?_, hfd, ?_⟩
    · exact (((((hn1.keep hb3).set (by simp; omega) _).set (by simp; omega) _).set (by simp; omega) _).set (by simp; omega) _).mono (by simp; omega)
    · exact ((((hn2.set (by simp; omega) _).set (by simp; omega) _).set (by simp; omega) _).set (by simp; omega) _).mono (by omega)
    · exact ((((((hbw).trans ((undrew hb2).mono (by simp; omega))).trans (hb3.mono (by omega))).setCell (by simp; omega) _).setCell (by simp; omega) _).setCell (by simp; omega) _).setCell (by simp; omega) _
    
  · have hcond : (!na == nb) = true ∧ 0 < rl := by assumption
    have hrl0 := hcond.2
    have hnn : ¬na = nb := by assumption
    have hna := bool_ne hnn
    clear hnn hcond
    subst hna
    have hR0 : 0 < val R := by
      rcases Nat.eq_zero_or_pos (val R) with h | h
      · have := top_zero tR h
        have h2 := hR.size
        rw [this] at h2; simp at h2; omega
      · exact h
    have hlen : rl ≤ (tl B).length := by
      have h1 := hR.size
      have h2 := fun k => top_length tR (tl_ok hB.ok) k
      rw [tl_val] at h2
      have := HLT.out
      omega
    have hle : val R ≤ val (tl B) := by rw [tl_val]; exact Nat.le_of_lt HLT.out
    have HR0 := hid hR0
    have HLE := hid hle
    have cb1 := b1
    have cb1d := show w1.drew.cell? ⟨w.heap.size + 1, 1, none⟩ = _ from b1
    clear hR0 hle
    go_region_held3 (fun w' => w'.cell? ⟨w.heap.size + 1, 1, none⟩ = some (.slice ab lb cb)) (first | (with_reducible exact cb1) | (with_reducible exact cb1d) | (with_reducible exact b12) | (with_reducible exact b13) | (with_reducible exact b14) | (simp [go_sem, b14]; done))
      (first
        | (go_at_call 70; refine (limbsOf_one _).mono ?_; rintro e w2 ⟨gl, rfl, hgl, hL1, hb2⟩; have b12 := cell_keep cb1 (undrew hb2); have hQ2 := hQ.keep (undrew hb2); have hL1' := (show Rd w2 (some ⟨gl, 0, none⟩) 2 2 [1, 0] from hL1.whole ok_one 2 (by simp) (by omega)))
        | (go_at_call 84; refine (sum_any _ _ _ Q _ _ _ [1, 0] _ hQ2 hL1' (by omega) (by omega)).mono ?_; rintro e w3 ⟨gs, S, rfl, hgs, hS, hSl, hSo, hSv, hb3⟩; have HSL := hid hSl; have HSV := hid hSv; have hSs : S.length ≤ 301 := (by omega); clear hSl hSv; have b13 := cell_keep b12 hb3)
        | (go_at_call 71; refine (trim_any _ _ _ B _ ((hB1.keep (undrew hb2)).keep hb3)).mono ?_; rintro e w5 ⟨rfl, rfl⟩)
        | (go_at_call 85; refine (difference_any _ _ _ (tl B) _ _ _ R _ ((hB1.keep (undrew hb2)).keep hb3).tl ((hR.keep (undrew hb2)).keep hb3) hlen (by omega) HLE.out).mono ?_; rintro e w4 ⟨gd, D, rfl, hgd, hD, hDl, hDo, hDv, hb4⟩; have HDL := hid hDl; have HDV := hid hDv; have hDs : D.length ≤ 128 := (by omega); clear hDl hDv; have b14 := cell_keep b13 hb4))
    have hwv : Below w1.heap.size w1 w4 := ((undrew hb2).trans (hb3.mono (undrew hb2).size)).trans (hb4.mono (Nat.le_trans (undrew hb2).size hb3.size))
    have hQ5 : Rd w4 (some ⟨gs, 0, none⟩) S.length S.length S := (hS.keep' hb4).whole hSo _ (Nat.le_refl _) (by omega)
    have hR5 : Rd w4 (some ⟨gd, 0, none⟩) D.length D.length D := hD.whole hDo _ (Nat.le_refl _) (by omega)
    have ca05 := cell_keep ca0 hwv
    have cb05 := cell_keep cb0 hwv
    have P35 := hid (heap_keep P3.out hwv)
    have P45 := hid (heap_keep P4.out hwv)
    have hbw5 := hbw.trans (hwv.mono (by omega))
    have hlt5 : w.heap.size + 4 ≤ w4.heap.size := Nat.le_trans hlt1 hwv.size
    have hSV2 : val S = val Q + 1 := by rw [HSV.out]; simp [val]
    have hDV2 : val D + val R = val B := by rw [HDV.out, tl_val]
    have HS2 := hid hSV2
    have HD2 := hid hDV2
    clear hSV2 hDV2 ca0 cb0 cb1 cb1d P3 P4 hQ hR hbw hlt1 b12 b13 b14 hL1' hQ2 hB1 b1
    have ca0 := ca05
    have cb0 := cb05
    have P3 := P35
    have P4 := P45
    have hQ := hQ5
    have hR := hR5
    have hbw := hbw5
    have hlt1 := hlt5
    clear ca05 cb05 P35 P45 hQ5 hR5 hbw5 hlt5
    clear hb2 hb3 hb4 hwv
    go_wp2
    have ca0d := show w4.drew.cell? ⟨w.heap.size, 0, none⟩ = _ from ca0
    have cb0d := show w4.drew.cell? ⟨w.heap.size + 1, 0, none⟩ = _ from cb0
    go_region_held3 (fun w' => w'.cell? ⟨w.heap.size, 0, none⟩ = some (.bool (!nb)) ∧ w'.cell? ⟨w.heap.size + 1, 0, none⟩ = some (.bool nb)) (first | (with_reducible exact ⟨ca0, cb0⟩) | (with_reducible exact ⟨ca0d, cb0d⟩) | (with_reducible exact ⟨a03, b03⟩) | (with_reducible exact ⟨a04, b04⟩) | (simp [go_sem, a04, b04]; done))
      (first
        | (go_at_call 69; (with_reducible refine (give_any _ (some ⟨gs, 0, none⟩) S.length S.length S _ ?_).mono ?_); (first | exact hQ | exact hQ.drew); rintro e w2 ⟨n1, ao1, len1, rfl, hn1, hb2⟩; have a03 := cell_keep ca0 (undrew hb2); have b03 := cell_keep cb0 (undrew hb2); have q3 := hid (heap_keep P3.out (undrew hb2)); have q4 := hid (heap_keep P4.out (undrew hb2)); have hR2 := hR.keep (undrew hb2))
        | (go_at_call 69; (with_reducible refine (give_any _ (some ⟨gd, 0, none⟩) D.length D.length D _ hR2).mono ?_); rintro e w3 ⟨n2, ao2, len2, rfl, hn2, hb3⟩; have a04 := cell_keep a03 hb3; have b04 := cell_keep b03 hb3; obtain ⟨c0, c1, f0, f1⟩ := two_cells (heap_keep q3.out hb3); obtain ⟨d0, d1, g0, g1⟩ := two_cells (heap_keep q4.out hb3)))
    have hs2 := (undrew hb2).size
    have hs3 := hb3.size
    have hfd := floor_up nb A B Q R S D HV.out HR0.out HLT.out HS2.out HD2.out
    have hx : (!(!nb) == nb) = true := by cases nb <;> rfl
    try rw [hx] at hn1
    go_wp2
    refine bodyPost_ret (v := .tuple #[.agg #[.bool n1, .slice ao1 len1 len1], .agg #[.bool n2, .slice ao2 len2 len2], .int .i64 0]) (by simp [results, Tryd.results42, go_sem, c0, c1, d0, d1]) rfl ⟨_, _, _, _, _, _, _, _, rfl, ?_, ?_, hfd, ?_⟩
    · exact (((((hn1.keep hb3).set (by simp; omega) _).set (by simp; omega) _).set (by simp; omega) _).set (by simp; omega) _).mono (by simp; omega)
    · exact ((((hn2.set (by simp; omega) _).set (by simp; omega) _).set (by simp; omega) _).set (by simp; omega) _).mono (by omega)
    · exact ((((((hbw).trans ((undrew hb2).mono (by simp; omega))).trans (hb3.mono (by omega))).setCell (by simp; omega) _).setCell (by simp; omega) _).setCell (by simp; omega) _).setCell (by simp; omega) _
    
  · have hcond : (!na == nb) = false ∨ ¬0 < rl := by assumption
    have hnn : ¬na = nb := by assumption
    have hna := bool_ne hnn
    clear hnn
    subst hna
    have hrl0 : rl = 0 := by
      rcases hcond with h | h
      · exact (bool_no nb h).elim
      · omega
    have hR0 : val R = 0 := by rw [List.eq_nil_of_length_eq_zero (hR.size.trans hrl0)]; rfl
    have HR0 := hid hR0
    clear hcond hR0 hrl0
    have ca0d := show w1.drew.cell? ⟨w.heap.size, 0, none⟩ = _ from ca0
    have cb0d := show w1.drew.cell? ⟨w.heap.size + 1, 0, none⟩ = _ from cb0
    go_region_held3 (fun w' => w'.cell? ⟨w.heap.size, 0, none⟩ = some (.bool (!nb)) ∧ w'.cell? ⟨w.heap.size + 1, 0, none⟩ = some (.bool nb)) (first | (with_reducible exact ⟨ca0, cb0⟩) | (with_reducible exact ⟨ca0d, cb0d⟩) | (with_reducible exact ⟨a03, b03⟩) | (with_reducible exact ⟨a04, b04⟩) | (simp [go_sem, a04, b04]; done))
      (first
        | (go_at_call 69; (with_reducible refine (give_any _ qo ql qc Q _ ?_).mono ?_); (first | exact hQ | exact hQ.drew); rintro e w2 ⟨n1, ao1, len1, rfl, hn1, hb2⟩; have a03 := cell_keep ca0 (undrew hb2); have b03 := cell_keep cb0 (undrew hb2); have q3 := hid (heap_keep P3.out (undrew hb2)); have q4 := hid (heap_keep P4.out (undrew hb2)); have hR2 := hR.keep (undrew hb2))
        | (go_at_call 69; (with_reducible refine (give_any _ ro rl rc R _ hR2).mono ?_); rintro e w3 ⟨n2, ao2, len2, rfl, hn2, hb3⟩; have a04 := cell_keep a03 hb3; have b04 := cell_keep b03 hb3; obtain ⟨c0, c1, f0, f1⟩ := two_cells (heap_keep q3.out hb3); obtain ⟨d0, d1, g0, g1⟩ := two_cells (heap_keep q4.out hb3)))
    have hs2 := (undrew hb2).size
    have hs3 := hb3.size
    have hfd := floor_zero nb A B Q R HV.out HR0.out HB0.out
    have hx : (!(!nb) == nb) = true := by cases nb <;> rfl
    try rw [hx] at hn1
    go_wp2
    refine bodyPost_ret (v := .tuple #[.agg #[.bool n1, .slice ao1 len1 len1], .agg #[.bool n2, .slice ao2 len2 len2], .int .i64 0]) (by simp [results, Tryd.results42, go_sem, c0, c1, d0, d1]) rfl ⟨_, _, _, _, _, _, _, _, rfl, ?_, ?_, hfd, ?_⟩
    · exact (((((hn1.keep hb3).set (by simp; omega) _).set (by simp; omega) _).set (by simp; omega) _).set (by simp; omega) _).mono (by simp; omega)
    · exact ((((hn2.set (by simp; omega) _).set (by simp; omega) _).set (by simp; omega) _).set (by simp; omega) _).mono (by omega)
    · exact ((((((hbw).trans ((undrew hb2).mono (by simp; omega))).trans (hb3.mono (by omega))).setCell (by simp; omega) _).setCell (by simp; omega) _).setCell (by simp; omega) _).setCell (by simp; omega) _
    

/-- Divided towards nought. -/
def TruncDiv (a b q r : Int) : Prop := a = q * b + r ∧ r.natAbs < b.natAbs ∧ (0 ≤ a → 0 ≤ r) ∧ (a ≤ 0 → r ≤ 0)
theorem trunc_of (na nb : Bool) (A B Q R : List Nat) (h : val A = val Q * val B + val R) (hl : val R < val B) : TruncDiv (num na A) (num nb B) (num (!(na == nb)) Q) (num na R) := by
  have hz : val A = 0 → val R = 0 := by omega
  have e : (val A : Int) = val Q * val B + val R := by rw [h]; simp [Int.natCast_mul]
  unfold TruncDiv num
  cases na <;> cases nb <;> simp only [show (!(false == false)) = false from rfl, show (!(false == true)) = true from rfl, show (!(true == false)) = true from rfl, show (!(true == true)) = false from rfl, if_true, if_false, Bool.false_eq_true] <;> refine ⟨?_, by simp; omega, by omega, by omega⟩
  · exact e
  · rw [e, Int.neg_mul, Int.mul_neg]; omega
  · rw [e, Int.neg_mul]; omega
  · rw [e, Int.mul_neg]; omega

set_option maxRecDepth 100000 in
set_option maxHeartbeats 2000000 in
theorem quoRem_full (na : Bool) (aa : Option Addr) (la ca : Nat) (A : List Nat) (nb : Bool) (ab : Option Addr) (lb cb : Nat) (B : List Nat) (w : World) (hA : Rd w aa la ca A) (hB : Rd w ab lb cb B) (hbad : (tooLong A || tooLong B) = false) (hb0 : 0 < val B) :
    Calls Tryd.prog 41 #[.agg #[.bool na, .slice aa la ca], .agg #[.bool nb, .slice ab lb cb]] w fun e w' => ∃ nq qo ql nr ro rl q r, e = .returned (.tuple #[.agg #[.bool nq, .slice qo ql ql], .agg #[.bool nr, .slice ro rl rl], .int .i64 0]) ∧
      Num w.heap.size w' nq qo ql q ∧ Num w.heap.size w' nr ro rl r ∧ TruncDiv (num na A) (num nb B) q r ∧ Below w.heap.size w w' := by
  have HB0 := hid hb0
  go_enter Tryd.func41, Tryd.ntmps41
  go_wp2_with (go_at_call 83; refine (divideBoth_full na aa la ca A nb ab lb cb B _ ((((hA.alloc _).alloc _).alloc _).alloc _) ((((hB.alloc _).alloc _).alloc _).alloc _) hbad hb0).mono ?_; rintro e w1 ⟨qo, ql, qc, ro, rl, rc, rfl, ⟨Q, R, hQ, hR, tR, hval, hlt, hql, hrl⟩, hb1⟩; obtain ⟨p1, p2, p3, p4, hbw, hlt1⟩ := hp4c _ _ _ _ _ hb1; obtain ⟨a0, _, _, _⟩ := two_cells p1; obtain ⟨b0, b1, _, _⟩ := two_cells p2; have P3 := hid p3; have P4 := hid p4; have HV := hid hval; have HLT := hid hlt; have ca0 := a0; have cb0 := b0; clear p1 p2 p3 p4 hval hlt hb1 a0 b0)
  have ca0d := show w1.drew.cell? ⟨w.heap.size, 0, none⟩ = _ from ca0
  have cb0d := show w1.drew.cell? ⟨w.heap.size + 1, 0, none⟩ = _ from cb0
  go_region_held3 (fun w' => w'.cell? ⟨w.heap.size, 0, none⟩ = some (.bool na) ∧ w'.cell? ⟨w.heap.size + 1, 0, none⟩ = some (.bool nb)) (first | (with_reducible exact ⟨ca0, cb0⟩) | (with_reducible exact ⟨ca0d, cb0d⟩) | (with_reducible exact ⟨a03, b03⟩) | (with_reducible exact ⟨a04, b04⟩) | (simp [go_sem, a04, b04]; done))
    (first
      | (go_at_call_of 69 qc; (with_reducible refine (give_any _ qo ql qc Q _ ?_).mono ?_); (first | exact hQ | exact hQ.drew); rintro e w2 ⟨n1, ao1, len1, rfl, hn1, hb2⟩; have a03 := cell_keep ca0 (undrew hb2); have b03 := cell_keep cb0 (undrew hb2); have q3 := hid (heap_keep P3.out (undrew hb2)); have q4 := hid (heap_keep P4.out (undrew hb2)); have hR2 := hR.keep (undrew hb2))
      | (go_at_call_of 69 rc; (with_reducible refine (give_any _ ro rl rc R _ hR2).mono ?_); rintro e w3 ⟨n2, ao2, len2, rfl, hn2, hb3⟩; have a04 := cell_keep a03 hb3; have b04 := cell_keep b03 hb3; obtain ⟨c0, c1, f0, f1⟩ := two_cells (heap_keep q3.out hb3); obtain ⟨d0, d1, g0, g1⟩ := two_cells (heap_keep q4.out hb3)))
  all_goals
    have hs2 := (undrew hb2).size
    have hs3 := hb3.size
    have hfd := trunc_of na nb A B Q R HV.out HLT.out
    go_wp2
    refine bodyPost_ret (v := .tuple #[.agg #[.bool n1, .slice ao1 len1 len1], .agg #[.bool n2, .slice ao2 len2 len2], .int .i64 0]) (by simp [results, Tryd.results41, go_sem, c0, c1, d0, d1]) rfl ⟨_, _, _, _, _, _, _, _, rfl, ?_, ?_, hfd, ?_⟩
    · exact (((((hn1.keep hb3).set (by simp; omega) _).set (by simp; omega) _).set (by simp; omega) _).set (by simp; omega) _).mono (by simp; omega)
    · exact ((((hn2.set (by simp; omega) _).set (by simp; omega) _).set (by simp; omega) _).set (by simp; omega) _).mono (by omega)
    · exact ((((((hbw).trans ((undrew hb2).mono (by simp; omega))).trans (hb3.mono (by omega))).setCell (by simp; omega) _).setCell (by simp; omega) _).setCell (by simp; omega) _).setCell (by simp; omega) _
end Go.Proofs.YtldafoojkimdeaaDoor

namespace Go.Proofs.YtldafoojkimdeaaDoor
open Go.RowKit Lm

theorem block_new2 (w : World) (o1 o2 o3 : Obj) {w1 : World} (hb : Below (((w.alloc o1).alloc o2).alloc o3).heap.size (((w.alloc o1).alloc o2).alloc o3) w1) :
    w1.heap[w.heap.size + 1]? = some o2 ∧ Below w.heap.size w w1 := by
  obtain ⟨_, h2, _, h4⟩ := hp3 w o1 o2 o3 hb
  exact ⟨h2, h4⟩

set_option maxRecDepth 100000 in
set_option maxHeartbeats 2000000 in
theorem absolute_any (n : Bool) (ao : Option Addr) (len cap : Nat) (A : List Nat) (w : World) (h : Rd w ao len cap A) :
    Calls Tryd.prog 67 #[.agg #[.bool n, .slice ao len cap]] w fun e w' => ∃ n' ao' len', e = .returned (.agg #[.bool n', .slice ao' len' len']) ∧ Num w.heap.size w' n' ao' len' ((num n A).natAbs : Int) ∧ Below w.heap.size w w' := by
  have h3 := ((h.alloc (.cells #[.bool n, .slice ao len cap] 24)).alloc (.cells #[.bool false, .slice none 0 0] 24)).alloc (.cells #[.bool n, .slice ao len cap] 24)
  have hcases : ((num n A).sign = -1 ∧ ((num n A).natAbs : Int) = -num n A) ∨ (∃ s : Int, (s = 0 ∨ s = 1) ∧ (num n A).sign = s ∧ ((num n A).natAbs : Int) = num n A) := by
    rcases Int.lt_trichotomy (num n A) 0 with h1 | h1 | h1
    · exact .inl ⟨Int.sign_eq_neg_one_of_neg h1, by omega⟩
    · exact .inr ⟨0, .inl rfl, by rw [h1]; rfl, by omega⟩
    · exact .inr ⟨1, .inr rfl, Int.sign_eq_one_of_pos h1, by omega⟩
  rcases hcases with ⟨hs, hv⟩ | ⟨s, hz, hs, hv⟩
  · have HV := hid hv
    clear hv
    go_enter Tryd.func67, Tryd.ntmps67
    go_wp2_with (first
      | (go_at_call 28; refine (sign_any _ _ _ _ A _ ((h.alloc _).alloc _)).mono ?_; rintro e w5 ⟨rfl, rfl⟩; rw [hs])
      | (go_at_call 22; refine (neg_any _ _ _ _ A _ h3).mono ?_; rintro e w1 ⟨n', ao', len', rfl, hnum, hb⟩; obtain ⟨p2, hbw⟩ := block_new2 _ _ _ _ hb; obtain ⟨c0, c1, f0, f1⟩ := two_cells p2))
    rw [← HV.out] at hnum
    refine bodyPost_ret (v := .agg #[.bool n', .slice ao' len' len']) (by simp [results, Tryd.results67, go_sem, c0, c1]) rfl ⟨_, _, _, rfl, ?_, ?_⟩
    · exact ((hnum.set (by simp) _).set (by simp) _).mono (by simp; omega)
    · exact (hbw.setCell (by simp) _).setCell (by simp) _
  · have HV := hid hv
    clear hv
    rcases hz with rfl | rfl
    all_goals
      go_enter Tryd.func67, Tryd.ntmps67
      go_wp2_with (first
        | (go_at_call 28; refine (sign_any _ _ _ _ A _ ((h.alloc _).alloc _)).mono ?_; rintro e w5 ⟨rfl, rfl⟩; rw [hs])
        | (go_at_call 20; refine (norm_any _ _ _ _ A _ h3).mono ?_; rintro e w1 ⟨n', ao', len', rfl, hnum, hb⟩; obtain ⟨p2, hbw⟩ := block_new2 _ _ _ _ hb; obtain ⟨c0, c1, f0, f1⟩ := two_cells p2))
      rw [← HV.out] at hnum
      refine bodyPost_ret (v := .agg #[.bool n', .slice ao' len' len']) (by simp [results, Tryd.results67, go_sem, c0, c1]) rfl ⟨_, _, _, rfl, ?_, ?_⟩
      · exact ((hnum.set (by simp) _).set (by simp) _).mono (by simp; omega)
      · exact (hbw.setCell (by simp) _).setCell (by simp) _

theorem abs_ok {na : Bool} {aa : Option Addr} {la ca : Nat} {A : List Nat} {va : Int} (w : World) (hA : Rd w aa la ca A) (ea : num na A = va) :
    Calls Tryd.prog 67 #[.agg #[.bool na, .slice aa la ca]] w fun e w' => ∃ n' ao' len' C, e = .returned (.agg #[.bool n', .slice ao' len' len']) ∧ Rd w' ao' len' len' C ∧ num n' C = (va.natAbs : Int) ∧ Below w.heap.size w w' := by
  refine (absolute_any na aa la ca A w hA).mono ?_
  rintro e w' ⟨n', ao', len', rfl, hn, hb⟩
  rw [ea] at hn
  obtain ⟨C, h1, h2⟩ := hn.read
  exact ⟨n', ao', len', C, rfl, h1, h2, hb⟩

theorem val_of_num {n : Bool} {A : List Nat} {v : Int} (e : num n A = v) : val A = v.natAbs := by rw [← e, num_abs]

/-- Divided downwards, by the numbers alone. -/
def Floors (a b q r : Int) : Prop := a = q * b + r ∧ r.natAbs < b.natAbs ∧ (b ≤ 0 → r ≤ 0) ∧ (0 ≤ b → 0 ≤ r)

theorem quoRem_ok {na : Bool} {aa : Option Addr} {la ca : Nat} {A : List Nat} {nb : Bool} {ab : Option Addr} {lb cb : Nat} {B : List Nat} {va vb : Int} (w : World) (hA : Rd w aa la ca A) (hB : Rd w ab lb cb B) (ea : num na A = va) (eb : num nb B = vb) (sa : Sm va) (sb : Sm vb) (h0 : vb ≠ 0) :
    Calls Tryd.prog 41 #[.agg #[.bool na, .slice aa la ca], .agg #[.bool nb, .slice ab lb cb]] w fun e w' => ∃ nq qo ql Q nr ro rl R vq vr, e = .returned (.tuple #[.agg #[.bool nq, .slice qo ql ql], .agg #[.bool nr, .slice ro rl rl], .int .i64 0]) ∧
      Rd w' qo ql ql Q ∧ num nq Q = vq ∧ Rd w' ro rl rl R ∧ num nr R = vr ∧ Hid (TruncDiv va vb vq vr) ∧ Below w.heap.size w w' := by
  refine (quoRem_full na aa la ca A nb ab lb cb B w hA hB (by rw [sa.short ea, sb.short eb]; rfl) (by rw [val_of_num eb]; omega)).mono ?_
  rintro e w' ⟨nq, qo, ql, nr, ro, rl, q, r, rfl, h1, h2, h3, h4⟩
  rw [ea, eb] at h3
  obtain ⟨Q, r1, e1⟩ := h1.read
  obtain ⟨R, r2, e2⟩ := h2.read
  exact ⟨nq, qo, ql, Q, nr, ro, rl, R, q, r, rfl, r1, e1, r2, e2, h3, h4⟩
theorem divMod_all {na : Bool} {aa : Option Addr} {la ca : Nat} {A : List Nat} {nb : Bool} {ab : Option Addr} {lb cb : Nat} {B : List Nat} {va vb : Int} (w : World) (hA : Rd w aa la ca A) (hB : Rd w ab lb cb B) (ea : num na A = va) (eb : num nb B = vb) (sa : Sm va) (sb : Sm vb) (h0 : vb ≠ 0) :
    Calls Tryd.prog 42 #[.agg #[.bool na, .slice aa la ca], .agg #[.bool nb, .slice ab lb cb]] w fun e w' => ∃ nq qo ql Q nr ro rl R vq vr, e = .returned (.tuple #[.agg #[.bool nq, .slice qo ql ql], .agg #[.bool nr, .slice ro rl rl], .int .i64 0]) ∧
      Rd w' qo ql ql Q ∧ num nq Q = vq ∧ Rd w' ro rl rl R ∧ num nr R = vr ∧ Hid (Floors va vb vq vr) ∧ Below w.heap.size w w' := by
  refine (divMod_full na aa la ca A nb ab lb cb B w hA hB (by rw [sa.short ea, sb.short eb]; rfl) (by rw [val_of_num eb]; omega)).mono ?_
  rintro e w' ⟨nq, qo, ql, nr, ro, rl, q, r, rfl, h1, h2, h3, h4⟩
  rw [ea, eb] at h3
  obtain ⟨Q, r1, e1⟩ := h1.read
  obtain ⟨R, r2, e2⟩ := h2.read
  refine ⟨nq, qo, ql, Q, nr, ro, rl, R, q, r, rfl, r1, e1, r2, e2, ?_, h4⟩
  obtain ⟨k1, k2, k3, k4⟩ := h3
  refine ⟨k1, k2, ?_, ?_⟩
  · intro hb
    cases nb with
    | true => exact k3 rfl
    | false => unfold num at eb; simp only [Bool.false_eq_true, if_false] at eb; omega
  · intro hb
    cases nb with
    | true => unfold num at eb; simp only [if_true] at eb; omega
    | false => exact k4 rfl
theorem quoRem_zero {na : Bool} {aa : Option Addr} {la ca : Nat} {A : List Nat} {nb : Bool} {ab : Option Addr} {lb cb : Nat} {B : List Nat} {va vb : Int} (w : World) (hA : Rd w aa la ca A) (hB : Rd w ab lb cb B) (ea : num na A = va) (eb : num nb B = vb) (sa : Sm va) (sb : Sm vb) (h0 : vb = 0) :
    Calls Tryd.prog 41 #[.agg #[.bool na, .slice aa la ca], .agg #[.bool nb, .slice ab lb cb]] w fun e w' => e = .returned (.tuple #[.agg #[.bool false, .slice none 0 0], .agg #[.bool false, .slice none 0 0], .int .i64 11]) ∧ Below w.heap.size w w' := by
  have h := quoRem_fail na aa la ca A nb ab lb cb B w hA hB (.inr (by rw [val_of_num eb, h0]; rfl))
  rw [sa.short ea, sb.short eb] at h
  exact h
theorem divMod_zero {na : Bool} {aa : Option Addr} {la ca : Nat} {A : List Nat} {nb : Bool} {ab : Option Addr} {lb cb : Nat} {B : List Nat} {va vb : Int} (w : World) (hA : Rd w aa la ca A) (hB : Rd w ab lb cb B) (ea : num na A = va) (eb : num nb B = vb) (sa : Sm va) (sb : Sm vb) (h0 : vb = 0) :
    Calls Tryd.prog 42 #[.agg #[.bool na, .slice aa la ca], .agg #[.bool nb, .slice ab lb cb]] w fun e w' => e = .returned (.tuple #[.agg #[.bool false, .slice none 0 0], .agg #[.bool false, .slice none 0 0], .int .i64 11]) ∧ Below w.heap.size w w' := by
  have h := divMod_fail na aa la ca A nb ab lb cb B w hA hB (.inr (by rw [val_of_num eb, h0]; rfl))
  rw [sa.short ea, sb.short eb] at h
  exact h

theorem mul_ge (q b : Int) (hb : b ≠ 0) : q.natAbs ≤ (q * b).natAbs := by
  rw [Int.natAbs_mul]
  exact Nat.le_mul_of_pos_right _ (by omega)
theorem parts_size {a b q r : Int} {k : Nat} (ha : Lt k a) (hb : Lt k b) (h0 : b ≠ 0) (h : a = q * b + r) (hr : r.natAbs < b.natAbs) : Lt (k + 1) (q * b) ∧ Lt (k + 1) q ∧ Lt k r := by
  have h1 := mul_ge q b h0
  unfold Lt at *
  rw [Nat.pow_succ]
  generalize q * b = m at *
  generalize 2 ^ k = p at *
  omega

/-- The two kinds of quotient. -/
theorem quo_apart {a b q r d m : Int} (h0 : b ≠ 0) (h : TruncDiv a b q r) (k : Floors a b d m) : (q = d ↔ (r = 0 ∨ a.sign = b.sign)) := by
  obtain ⟨h1, h2, h3, h4⟩ := h
  obtain ⟨k1, k2, k3, k4⟩ := k
  have key : (q - d) * b = m - r := by rw [Int.sub_mul]; omega
  have hs : ∀ x : Int, (x.sign = 1 ∧ 0 < x) ∨ (x.sign = 0 ∧ x = 0) ∨ (x.sign = -1 ∧ x < 0) := by
    intro x
    rcases Int.lt_trichotomy x 0 with h | h | h
    · exact .inr (.inr ⟨Int.sign_eq_neg_one_of_neg h, h⟩)
    · exact .inr (.inl ⟨by rw [h]; rfl, h⟩)
    · exact .inl ⟨Int.sign_eq_one_of_pos h, h⟩
  have heq : (m - r).natAbs < b.natAbs → q = d := by
    intro h
    by_cases e : q - d = 0
    · omega
    · have := mul_ge b (q - d) e
      rw [Int.mul_comm, key] at this
      omega
  constructor
  · intro e
    have e2 : m = r := by rw [e, Int.sub_self, Int.zero_mul] at key; omega
    by_cases hr : r = 0
    · exact .inl hr
    · refine .inr ?_
      rcases hs a with ⟨x1, x2⟩ | ⟨x1, x2⟩ | ⟨x1, x2⟩ <;> rcases hs b with ⟨y1, y2⟩ | ⟨y1, y2⟩ | ⟨y1, y2⟩ <;> rw [x1, y1] <;> exfalso <;> omega
  · intro e
    apply heq
    rcases e with e | e
    · omega
    · rcases hs a with ⟨x1, x2⟩ | ⟨x1, x2⟩ | ⟨x1, x2⟩ <;> rcases hs b with ⟨y1, y2⟩ | ⟨y1, y2⟩ | ⟨y1, y2⟩ <;> rw [x1, y1] at e <;> first | omega | (exfalso; revert e; decide)
end Go.Proofs.YtldafoojkimdeaaDoor
