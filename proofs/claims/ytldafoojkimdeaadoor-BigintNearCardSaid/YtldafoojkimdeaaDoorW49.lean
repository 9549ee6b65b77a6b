/- Walks: divide, by any number of limbs. -/
import Derived.Test.YtldafoojkimdeaaDoorDivp
import Derived.Test.YtldafoojkimdeaaDoorW19
import Derived.Test.YtldafoojkimdeaaDoorW21
import Derived.Test.YtldafoojkimdeaaDoorW48
namespace Go.Proofs.YtldafoojkimdeaaDoor
open Go.RowKit Lm

theorem top_up {B DD : List Nat} {m : Nat} (oB : Ok B) (hl : B.length = m + 2) (ht : dg B (m + 1) ≠ 0) (oD : Ok DD) (hDl : DD.length = m + 3) (hv : val DD = val B * 2 ^ (32 - bl (dg B (m + 1)))) :
    val (DD.take (m + 2)) = val DD ∧ 2147483648 ≤ dg DD (m + 1) ∧ val DD < P (m + 2) := by
  have h32 := oB.dg (m + 1)
  have hvB := val_take_dg B (m + 1) (by omega)
  rw [List.take_of_length_le (by omega)] at hvB
  have hB1 := val_lt (oB.take (m + 1))
  rw [List.length_take, Nat.min_eq_left (by omega)] at hB1
  generalize dg B (m + 1) = t at *
  have hk1 := (bl_le t (bl t)).1 (Nat.le_refl _)
  have hk2 : ¬ bl t ≤ bl t - 1 ∧ bl t ≤ 32 ∧ 0 < bl t := by
    have h0 : ¬ bl t ≤ 0 := by rw [bl_le]; simp; exact ht
    have h1 : bl t ≤ 32 := (bl_le t 32).2 h32
    omega
  obtain ⟨hk3, hk4, hk5⟩ := hk2
  rw [bl_le] at hk3
  generalize bl t = k at *
  have e1 : (4294967296 : Nat) = 2 ^ k * 2 ^ (32 - k) := by rw [← Nat.pow_add, Nat.add_sub_cancel' hk4]
  have e2 : (2147483648 : Nat) = 2 ^ (k - 1) * 2 ^ (32 - k) := by rw [← Nat.pow_add, show k - 1 + (32 - k) = 31 by omega]
  have hu : 0 < 2 ^ (32 - k) := Nat.two_pow_pos _
  have hP := P_pos (m + 1)
  have hD1 : val DD < P (m + 2) := by
    rw [hv, show m + 2 = m + 1 + 1 by rfl, P_succ, e1, ← Nat.mul_assoc]
    refine Nat.mul_lt_mul_of_pos_right ?_ hu
    have := Nat.mul_le_mul_left (P (m + 1)) (show t + 1 ≤ 2 ^ k from hk1)
    rw [Nat.mul_add, Nat.mul_one] at this
    omega
  have hD2 : P (m + 1) * 2147483648 ≤ val DD := by
    rw [hv, e2, ← Nat.mul_assoc]
    refine Nat.mul_le_mul_right _ ?_
    have := Nat.mul_le_mul_left (P (m + 1)) (show 2 ^ (k - 1) ≤ t by omega)
    omega
  have hT := val_take_small (L := DD) (m + 2) hD1
  refine ⟨hT, ?_, hD1⟩
  have h7 := val_take_dg DD (m + 1) (by omega)
  rw [show m + 1 + 1 = m + 2 by rfl, hT] at h7
  have h8 := val_lt (oD.take (m + 1))
  rw [List.length_take, Nat.min_eq_left (by omega)] at h8
  rcases Nat.lt_or_ge (dg DD (m + 1)) 2147483648 with h9 | h9
  · have := Nat.mul_le_mul_left (P (m + 1)) (show dg DD (m + 1) + 1 ≤ 2147483648 from h9)
    rw [Nat.mul_add, Nat.mul_one] at this
    omega
  · exact h9

theorem row_first {X V : Nat} (D p : Nat) (h : V = X) : X = D * (p * val []) + V := by
  rw [val_nil, Nat.mul_zero, Nat.mul_zero, Nat.zero_add, h]
theorem row_before {L DD : List Nat} {j m : Nat} (hLok : Ok L) (hj : j < L.length) (hT1 : val (DD.take (m + 2)) = val DD) (hT3 : val DD < P (m + 2)) (hb : val (L.drop (j + 1)) < val DD) :
    val ((L.drop j).take (m + 3)) < val (DD.take (m + 2)) * 4294967296 := by
  obtain ⟨e1, e2, _⟩ := div_row (n := m + 2) hLok hj (Nat.le_of_lt hT3) hb
  rw [hT1]
  exact Nat.lt_of_le_of_lt (Nat.le_of_eq e1) e2
theorem row_done {L M DD Q : List Nat} {X j m qv la : Nat} (hLok : Ok L) (hl : L.length = la + 1) (hj : j + (m + 3) ≤ la + 1) (hT1 : val (DD.take (m + 2)) = val DD) (hT3 : val DD < P (m + 2)) (hI : X = val DD * (P (j + 1) * val Q) + val L) (hb : val (L.drop (j + 1)) < val DD)
    (hq : val ((L.drop j).take (m + 3)) / val (DD.take (m + 2)) = qv) (hM : val M = val ((L.drop j).take (m + 3)) % val (DD.take (m + 2))) (hMl : M.length = m + 3) :
    (L.take j ++ M ++ L.drop (j + (m + 3))).length = la + 1 ∧ X = val DD * (P j * val (qv :: Q)) + val (L.take j ++ M ++ L.drop (j + (m + 3))) ∧ val ((L.take j ++ M ++ L.drop (j + (m + 3))).drop j) < val DD ∧ qv < 4294967296 := by
  have hlt := row_before hLok (by omega) hT1 hT3 hb
  rw [hT1] at hq hM hlt
  obtain ⟨h1, h2⟩ := div_next (n := m + 2) hLok (by omega) (by omega) (Nat.le_of_lt hT3) hI hb hM hMl
  refine ⟨?_, ?_, h2, ?_⟩
  · rw [List.length_append, List.length_append, List.length_take, List.length_drop, hMl]; omega
  · rw [val_cons, ← hq]; exact h1
  · rw [← hq, Nat.div_lt_iff_lt_mul (by omega), Nat.mul_comm]; exact hlt
theorem quo_done {a b q s x : Nat} (hb : 0 < b) (hq : q = a / b) (hs : s = x) (hx : x = a % b) : a = q * b + s ∧ s < b := by
  subst hq hs hx
  exact ⟨(Nat.div_add_mod' a b).symm, Nat.mod_lt _ hb⟩

theorem shiftUp_few (aa : Option Addr) (la ca : Nat) (A : List Nat) (u : Nat) (w : World) (hA : Rd w aa la ca A) (hsa : la ≤ 5000) (hu : u ≤ 31) :
    Calls Tryd.prog 97 #[.slice aa la ca, .int .i64 (u : Int)] w fun e w' => ∃ g L, e = .returned (.slice (some ⟨g, 0, none⟩) (la + 1) (la + 1)) ∧ w.heap.size ≤ g ∧ Rw w' g L ∧ Hid (L.length = la + 1) ∧ Ok L ∧ Hid (val L = val A * 2 ^ u) ∧ Below w.heap.size w w' := by
  refine (shiftUp_any aa la ca A u w hA hsa (by omega)).mono ?_
  rintro e w' ⟨g, L, rfl, h1, h2, h3, h4, h5, h6⟩
  rw [show la + u / 32 + 1 = la + 1 by omega] at h3
  exact ⟨g, L, by rw [h3], h1, h2, hid h3, h4, hid h5, h6⟩

set_option maxRecDepth 100000 in
set_option maxHeartbeats 4000000 in
theorem divide_long (aa : Option Addr) (la ca : Nat) (A : List Nat) (ab : Option Addr) (m cb : Nat) (B : List Nat) (w : World) (hA : Rd w aa la ca A) (hB : Rd w ab (m + 2) cb B) (tA : Top A) (tB : Top B) (hsm : la ≤ 300) (hsb : m + 2 ≤ 300) (hge : val B ≤ val A) :
    Calls Tryd.prog 94 #[.slice aa la ca, .slice ab (m + 2) cb] w fun e w' => ∃ qo ql qc ro rl rc, e = .returned (.tuple #[.slice qo ql qc, .slice ro rl rc]) ∧ Divs w' (val A) (val B) qo ql qc ro rl rc ∧ Below w.heap.size w w' := by
  have hc : ¬ cmp (val A) (val B) < 0 := by unfold cmp; rw [if_neg (by omega)]; split <;> decide
  obtain ⟨i0, hi, hz0, hz1, hz2⟩ := info_parts Tryd.info43
  have hlen : m + 2 ≤ la := by
    have h1 := hA.size
    have h2 := hB.size
    rcases Nat.lt_or_ge la (m + 2) with h | h
    · have := top_length tB hA.ok (by omega); omega
    · exact h
  have ht : dg B (m + 1) ≠ 0 := by
    have h2 := hB.size
    have hne : B ≠ [] := by intro h; rw [h] at h2; simp at h2
    have := tB hne
    rw [getLast_getD, h2] at this
    exact this
  have hdl := hB.ok.dg (m + 1)
  obtain ⟨bb, boff, rfl, hcb⟩ := hB.cells (by omega)
  have hcell := hcb (m + 1) (by omega)
  clear hcb
  obtain ⟨t, htt⟩ : ∃ t, t = dg B (m + 1) := ⟨_, rfl⟩
  have HTT := hid htt
  have HT := hid ht
  rw [← htt] at hcell hdl ht
  obtain ⟨u, hu⟩ : ∃ u, u = 32 - bl t := ⟨_, rfl⟩
  have hu31 : u ≤ 31 ∧ (32 : Int) - (bl t : Int) = (u : Int) := by
    have h0 : ¬ bl t ≤ 0 := by rw [bl_le]; simp; exact ht
    have h1 : bl t ≤ 32 := (bl_le t 32).2 hdl
    omega
  obtain ⟨hu1, hu2⟩ := hu31
  have HU := hid hu
  have HU2 := hid hu2
  clear htt ht hu hu2
  go_enter Tryd.func94, Tryd.ntmps94
  go_wp2_with (first
    | (go_at_call 74; refine (compare_any _ _ _ A _ _ _ B _ hA hB tA tB).mono ?_; rintro e w5 ⟨rfl, q, rfl⟩; have hcell := show (w.drewN q).cell? _ = _ from hcell)
    | (go_at_call 115; refine (zeros32_any _ _ hdl).mono ?_; rintro e w5 ⟨he, rfl⟩; rw [HU2.out] at he; subst he))
  have hA1 := hA.drewN q
  have hB1 := hB.drewN q
  have hbw : Below w.heap.size w (w.drewN q) := bdrew (Below.refl _ _) q
  have hws : w.heap.size = (w.drewN q).heap.size := rfl
  clear hcell
  generalize w.drewN q = wv at *
  go_region_with (first
    | (go_at_call_of 97 boff; (with_reducible refine (shiftUp_few (some ⟨bb, boff, none⟩) (m + 2) cb B u wv.drew hB1.drew (by omega) hu1).mono ?_); rintro e w2 ⟨gd, DD, rfl, hgd, hRD, hDl, hDo, hDv, hb2⟩)
    | (go_at_call_of 97 aa; (with_reducible refine (shiftUp_few aa la ca A u w2 (hA1.drew.keep hb2) (by omega) hu1).mono ?_); rintro e w3 ⟨gl, LL, rfl, hgl, hRL, hLl, hLo, hLv, hb3⟩))
  all_goals
    have hbx : Below wv.heap.size wv w3 := (undrew hb2).trans (hb3.mono (undrew hb2).size)
    have hs2 := (undrew hb2).size
    have hgd0 : wv.heap.size ≤ gd := hgd
    have hgl0 : w2.heap.size ≤ gl := hgl
    have hgdl := hRD.lt
    have hRD3 : Rw w3 gd DD := hRD.keep' hb3
    have hb0 : Below w.heap.size w w3 := hbw.trans (hbx.mono (by omega))
    clear hb2 hb3 hA1 hB1 hRD hbx hgd hgl
    go_wp2_with (at_make; refine wpList_make_full _ rfl _ _ 22 rfl w3.heap.size 43 i0 (.int .u32 0) 1 Tryd.underlying22 hi hz0 hz1 .i64 .i64 _ _ (la - (m + 2) + 1) rfl rfl (by omega) (by omega) ?c1 ?c2 ?c3 ?_)
    case c1 => rw [hz2]; omega
    case c2 => unfold maxLen; omega
    case c3 => simp
    intro w4 hown hgrow
    have hrow : Rw w4 w3.heap.size (List.replicate (la - (m + 2) + 1) 0) := Rw.of_own hown (made_zeros _ _ (by omega))
    have hbel : Below w3.heap.size w3 w4 := (Below.refl _ _).grown hgrow (Nat.le_refl _) (by intro k hk; simp at hk)
    have hRD4 := hRD3.keep' hbel
    have hRL4 := hRL.keep' hbel
    have hs3 := hRL.lt
    have hb4 : Below w.heap.size w w4 := hb0.trans (hbel.mono (by omega))
    clear hown hgrow hRD3 hRL hb0 hbel
    obtain ⟨hT1, hT2, hT3⟩ := top_up hB.ok hB.size HT.out hDo hDl.out (by rw [← HTT.out, ← HU.out]; exact hDv.out)
    have hXlt := val_lt hA.ok
    rw [hA.size] at hXlt
    have hfirst := div_first (L := LL) (B := DD.take (m + 2)) (X := val A) (up := u) (la := la) (n := m + 2) hLo hLv.out hXlt hLl.out (by omega) hlen hu1 (by rw [List.length_take, hDl.out]; omega) (by rw [dg_take _ _ _ (by omega)]; exact hT2)
    rw [hT1] at hfirst
    have HF := hid hfirst
    have HT1 := hid hT1
    have HT2 := hid hT2
    have HT3 := hid hT3
    have HI := hid (row_first (val DD) (P (la - (m + 2) + 1)) hLv.out)
    have hne : gd ≠ gl := by omega
    clear hT1 hT2 hT3 hXlt hfirst hi hz0 hz1 hz2
    go_wp2
    go_loopw [12] (fun i wr => ∃ (k : Nat) (L Q : List Nat), k ≤ la - (m + 2) + 1 ∧ i = .int .i64 ((k : Int) - 1) ∧ Hid (L.length = la + 1) ∧ Ok L ∧ Rw wr gl L ∧ Rw wr gd DD ∧ Hid (Q.length = la - (m + 2) + 1 - k) ∧ Ok Q ∧ Rw wr w3.heap.size (List.replicate k 0 ++ Q) ∧
        Hid (val A * 2 ^ u = val DD * (P k * val Q) + val L) ∧ Hid (val (L.drop k) < val DD) ∧ Below w.heap.size w wr) (fun i _ => (intOf i + 1).toNat)
    case atStart => exact ⟨la - (m + 2) + 1, LL, [], Nat.le_refl _, by go_num, hLl, hLo, hRL4, hRD4, hid (by simp), Ok.nil, by simpa using hrow, HI, HF, hb4⟩
    case round =>
      obtain ⟨k, L, Q, hk, rfl, hL, hLok, hRl, hRd, hQ, hQok, hRq, hval, hb, hB1⟩ := hrel
      clear hrow hRL4 hRD4 hb4 HI HF hLl hLv hLo
      cases k with
      | zero =>
        have hv := hval.out
        have hb0 := hb.out
        rw [List.drop_zero] at hb0
        have hu0 : 0 < 2 ^ u := Nat.two_pow_pos _
        have hBpos : 0 < val B := by
          rcases Nat.eq_zero_or_pos (val B) with h | h
          · rw [hDv.out, h, Nat.zero_mul] at hb0; omega
          · exact h
        obtain ⟨hq, hr⟩ := div_last hu0 hv hDv.out hBpos hb0
        have hLn : val (L.take (m + 2)) = val L := val_take_small _ (Nat.lt_trans hb0 HT3.out)
        have hS : val (L.take (m + 2)) / 2 ^ u = val A % val B := by rw [hLn, hr, Nat.mul_div_cancel _ hu0]
        have HQ := hid hq
        have HS := hid hS
        have HBP := hid hBpos
        have hLt := hRl.rd hLok 0 (m + 2) (la + 1) (by rw [hL.out]; omega) (by omega) (by omega)
        rw [List.drop_zero] at hLt
        clear hv hb0 hu0 hBpos hq hr hLn hS
        go_wp2_with (go_at_call 110; refine (shiftDown_any _ _ _ (L.take (m + 2)) u _ hLt (by omega) (by omega)).mono ?_; rintro e w5 ⟨so, sl, sc, bl2, rfl, ⟨S, hSr, hSv, hsl, _⟩, hb5⟩; have HSV := hid hSv; clear hSv)
        go_ret2
        obtain ⟨hx1, hx2⟩ := quo_done HBP.out HQ.out HSV.out HS.out
        have hq5 : Rd w5 (some ⟨w3.heap.size, 0, none⟩) (la - (m + 2) + 1) (la - (m + 2) + 1) Q := by
          have h1 := ((show Rw wr w3.heap.size Q by simpa using hRq).keep' hb5).whole hQok (la - (m + 2) + 1) (by rw [hQ.out]; omega) (by omega)
          have h2 : Q.length = la - (m + 2) + 1 := by rw [hQ.out]; rfl
          rwa [h2] at h1
        exact ⟨_, _, _, _, _, _, rfl, ⟨Q, S, hq5, hSr, hx1, hx2, by omega, by omega⟩, hB1.trans (hb5.mono hB1.size)⟩
      | succ j =>
        have hjl : j < L.length := by rw [hL.out]; omega
        have HLT := hid (row_before hLok hjl HT1.out HT3.out hb.out)
        have hl3 : j + (m + 2) + 1 - j = m + 3 := by omega
        have hsz : j < (List.replicate (j + 1) 0 ++ Q).length := by rw [List.length_append, List.length_replicate]; omega
        have HSZ := hid hsz
        clear hjl hsz
        go_wp2_with (go_at_call 116; rw [hl3]; refine (reduce_any gl j m (m + 3) gd (m + 2 + 1) L DD wr hRl hLok hRd hDo hne (by rw [hL.out]; omega) (by rw [hDl.out]; omega) (by omega) (by omega) (by omega) (by omega) (by omega) (by omega) HT2.out HLT.out).mono ?_; rintro e w5 ⟨M, he, hMl, hMo, hRl5, hMv, hg5⟩; generalize hqv : val ((L.drop j).take (m + 3)) / val (DD.take (m + 2)) = qv at he; subst he; have HML := hid hMl; have HMV := hid hMv; have HQV := hid hqv; have hRq5 := hRq.grown hg5 (by omega); have hfr5 := hRq5.free j; have hcur5 := hRq5.cell j HSZ.out; clear hMl hMv hqv)
        obtain ⟨hy1, hy2, hy3, hy4⟩ := row_done hLok hL.out (by omega) HT1.out HT3.out hval.out hb.out HQV.out HMV.out HML.out
        have Hy1 := hid hy1
        have Hy2 := hid hy2
        have Hy3 := hid hy3
        clear hy1 hy2 hy3
        have hRd5 := hRd.grown hg5 hne
        have hB5 := hB1.grown hg5 (by have := hB1.size; omega) (by intro k hk; simp at hk; omega)
        go_roundw
        case rel =>
          refine ⟨j, L.take j ++ M ++ L.drop (j + (m + 3)), qv :: Q, by omega, rfl, Hy1, ((hLok.take _).append hMo).append (hLok.drop _), hRl5.other (show gl ≠ w3.heap.size by omega) _, hRd5.other (show gd ≠ w3.heap.size by omega) _, hid (by rw [List.length_cons, hQ.out]; omega), hQok.cons hy4, ?_, Hy2, Hy3, hB5.setCell (show w.heap.size ≤ w3.heap.size by omega) _⟩
          have := hRq5.set j qv
          rwa [set_low] at this
        case measure => simp [intOf]
end Go.Proofs.YtldafoojkimdeaaDoor
