/- Walks: bitwise. Walks: bitwise, with function 89. Walks: bitwise, with function 90. Walks: bitwise, with function 91. -/
import Derived.Test.YtldafoojkimdeaaDoorBitw
import Derived.Test.YtldafoojkimdeaaDoorDivp
import Derived.Test.YtldafoojkimdeaaDoorW12
import Derived.Test.YtldafoojkimdeaaDoorW41
namespace Go.Proofs.YtldafoojkimdeaaDoor
open Go.RowKit Lm

/-- That function of the program is this operation of two limbs. -/
structure Opn (F : Nat) (opn : Nat → Nat → Nat) : Prop where
  even : Even opn
  call : ∀ (x y : Nat) (w : World), x < 4294967296 → y < 4294967296 → Calls Tryd.prog F #[.int .u32 (x : Int), .int .u32 (y : Int)] w fun e w' => e = .returned (.int .u32 ((opn x y : Nat) : Int)) ∧ w' = w

theorem max_fit (a b : Nat) : (if a < b then b else a) = max a b := by by_cases h : a < b <;> simp [h] <;> omega

theorem abs_lt_P {n : Bool} {A : List Nat} (hA : Ok A) {k : Nat} (h : (tl A).length ≤ k) : (num n A).natAbs < P k := by
  rw [num_abs, ← tl_val A]
  exact Nat.lt_of_lt_of_le (val_lt (tl_ok hA)) (P_le h)
theorem num_neg_of {Z M : List Nat} {s c : Nat} {r : Int} (hM : val M + P s * c + val Z = P s) (hZ : 0 < val Z) (hr : (val Z : Int) - (P s : Int) = r) : num true M = r := by
  unfold num
  have hc : c = 0 := by
    match c, hM with
    | 0, _ => rfl
    | k + 1, h => rw [Nat.mul_succ] at h; omega
  rw [hc, Nat.mul_zero, Nat.add_zero] at hM
  simp only [if_true]
  omega
theorem val_drop_pos (Z : List Nat) (j : Nat) (hj : j < Z.length) (h : dg Z j ≠ 0) : 0 < val (Z.drop j) := by
  rw [val_drop_succ Z j hj]; omega
theorem val_pos_of {Z : List Nat} (j : Nat) (h : dg Z j ≠ 0) : 0 < val Z := by
  rcases Nat.lt_or_ge j Z.length with hj | hj
  · have := val_split Z j (by omega)
    have h2 := val_drop_pos Z j hj h
    have h3 := Nat.mul_le_mul (P_pos j) h2
    omega
  · exact absurd (by unfold dg; exact getD_out _ _ hj) h

set_option maxRecDepth 100000 in
set_option maxHeartbeats 2000000 in
theorem bitwise_bad (fv : Value) (na : Bool) (aa : Option Addr) (la ca : Nat) (A : List Nat) (nb : Bool) (ab : Option Addr) (lb cb : Nat) (B : List Nat) (w : World) (hA : Rd w aa la ca A) (hB : Rd w ab lb cb B) (hbad : (tooLong A || tooLong B) = true) :
    Calls Tryd.prog 87 #[.agg #[.bool na, .slice aa la ca], .agg #[.bool nb, .slice ab lb cb], fv] w fun e w' => e = .returned (.tuple #[.agg #[.bool false, .slice none 0 0], .int .i64 10]) ∧ Below w.heap.size w w' := by
  go_enter Tryd.func87, Tryd.ntmps87
  go_wp2_with (go_at_call 77; refine (long2_any _ na aa la ca A nb ab lb cb B _ ((((hA.alloc _).alloc _).alloc _).alloc _) ((((hB.alloc _).alloc _).alloc _).alloc _) (by simp [go_sem]) (by simp [go_sem]) (by simp [go_sem]) (by simp [go_sem])).mono ?_; rintro e w1 ⟨rfl, hb1⟩; rw [hbad]; obtain ⟨p1, p2, p3, hbw⟩ := hp4 _ _ _ _ _ hb1; obtain ⟨c0, c1, f0, f1⟩ := two_cells p3)
  refine bodyPost_ret (v := .tuple #[.agg #[.bool false, .slice none 0 0], .int .i64 10]) (by simp [results, Tryd.results87, go_sem, c0, c1]) rfl ⟨rfl, ?_⟩
  exact (hbw.setCell (by simp; omega) _).setCell (by simp; omega) _

set_option maxRecDepth 100000 in
theorem opn88 : Opn 88 landf := ⟨landf_even, by
  intro x y w hx hy
  have hl := and32 x y hx hy
  go_enter Tryd.func88, Tryd.ntmps88
  go_wp2
  go_ret
  exact ⟨rfl, rfl⟩⟩

set_option maxRecDepth 100000 in
set_option maxHeartbeats 4000000 in
theorem bitwise_good88 (opn : Nat → Nat → Nat) (hop : Opn 88 opn) (na : Bool) (aa : Option Addr) (la ca : Nat) (A : List Nat) (nb : Bool) (ab : Option Addr) (lb cb : Nat) (B : List Nat) (w : World) (hA : Rd w aa la ca A) (hB : Rd w ab lb cb B) (hbad : (tooLong A || tooLong B) = false) :
    Calls Tryd.prog 87 #[.agg #[.bool na, .slice aa la ca], .agg #[.bool nb, .slice ab lb cb], .func (.func 88) #[] #[]] w fun e w' => ∃ n' ao' len' c, e = .returned (.tuple #[.agg #[.bool n', .slice ao' len' len'], .int .i64 c]) ∧ Fits w w' n' ao' len' c (bop opn (num na A) (num nb B)) ∧ Below w.heap.size w w' := by
  have hsA := small_len A (by simp at hbad; exact hbad.1)
  have hsB := small_len B (by simp at hbad; exact hbad.2)
  go_enter Tryd.func87, Tryd.ntmps87
  go_wp2_with (go_at_call 77; refine (long2_any _ na aa la ca A nb ab lb cb B _ ((((hA.alloc _).alloc _).alloc _).alloc _) ((((hB.alloc _).alloc _).alloc _).alloc _) (by simp [go_sem]) (by simp [go_sem]) (by simp [go_sem]) (by simp [go_sem])).mono ?_; rintro e w1 ⟨rfl, hb1⟩; rw [hbad]; obtain ⟨p1, p2, p3, hbw⟩ := hp4 _ _ _ _ _ hb1; obtain ⟨a0, a1, _, _⟩ := two_cells p1; obtain ⟨b0, b1, _, _⟩ := two_cells p2; have hA1 := hA.keep hbw; have hB1 := hB.keep hbw)
  clear hbad
  have hlt1 : w.heap.size + 4 ≤ w1.heap.size := by have := hb1.size; simp at this ⊢; omega
  have HP3 := hid p3
  have HP1 := hid p1
  have HP2 := hid p2
  clear hb1 p1 p2 p3
  go_region_held3 (fun w' => w'.cell? ⟨w.heap.size, 0, none⟩ = some (.bool na) ∧ w'.cell? ⟨w.heap.size, 1, none⟩ = some (.slice aa la ca) ∧ w'.cell? ⟨w.heap.size + 1, 0, none⟩ = some (.bool nb) ∧ w'.cell? ⟨w.heap.size + 1, 1, none⟩ = some (.slice ab lb cb)) (refine ⟨?_, ?_, ?_, ?_⟩ <;> first | assumption | (simp [go_sem]; assumption))
    (first
      | (go_at_call_of 71 (Value.slice aa la ca); refine (trim_any _ _ _ A _ ?_).mono ?_; (first | exact hA1 | exact hA1.drew); rintro e w5 ⟨rfl, rfl⟩)
      | (go_at_call_of 71 (Value.slice ab lb cb); refine (trim_any _ _ _ B _ ?_).mono ?_; (first | exact hB1 | exact hB1.drew); rintro e w5 ⟨rfl, rfl⟩))
  obtain ⟨s, hs⟩ : ∃ s, s = max (tl A).length (tl B).length + 1 := ⟨_, rfl⟩
  have hwr : IntKind.i64.wrap (max ((tl A).length : Int) ((tl B).length : Int) + 1) = (s : Int) := by rw [IntKind.wrap_i64]; omega
  rw [hwr]
  have hA2 := hA1.drew
  have hB2 := hB1.drew
  have a0d := show w1.drew.cell? ⟨w.heap.size, 0, none⟩ = _ from a0
  have a1d := show w1.drew.cell? ⟨w.heap.size, 1, none⟩ = _ from a1
  have b0d := show w1.drew.cell? ⟨w.heap.size + 1, 0, none⟩ = _ from b0
  have b1d := show w1.drew.cell? ⟨w.heap.size + 1, 1, none⟩ = _ from b1
  have HP3d : Hid (w1.drew.heap[w.heap.size + 2]? = some (.cells #[.bool false, .slice none 0 0] 24 (0, 0))) := HP3
  have hbwd : Below w.heap.size w w1.drew := hbw.drew
  have hltd : w.heap.size + 4 ≤ w1.drew.heap.size := hlt1
  have hAs : (tl A).length + 1 ≤ s := by omega
  have hBs : (tl B).length + 1 ≤ s := by omega
  have hs1 : s ≤ 129 := by omega
  clear hwr hs HP1 HP2 HP3 hlt1 hbw hA1 hB1 a0 a1 b0 b1 hsA hsB
  generalize w1.drew = wd at *
  go_wp2_with fail
  have a0e := show wd.drew.cell? ⟨w.heap.size, 0, none⟩ = _ from a0d
  have a1e := show wd.drew.cell? ⟨w.heap.size, 1, none⟩ = _ from a1d
  have b0e := show wd.drew.cell? ⟨w.heap.size + 1, 0, none⟩ = _ from b0d
  have b1e := show wd.drew.cell? ⟨w.heap.size + 1, 1, none⟩ = _ from b1d
  have hA3 := hA2.drew
  have hB3 := hB2.drew
  go_region_held3 (fun w' => w'.cell? ⟨w.heap.size, 0, none⟩ = some (.bool na) ∧ w'.cell? ⟨w.heap.size, 1, none⟩ = some (.slice aa la ca) ∧ w'.cell? ⟨w.heap.size + 1, 0, none⟩ = some (.bool nb) ∧ w'.cell? ⟨w.heap.size + 1, 1, none⟩ = some (.slice ab lb cb)) (first | (with_reducible exact ⟨a0d, a1d, b0d, b1d⟩) | (with_reducible exact ⟨a0e, a1e, b0e, b1e⟩) | (with_reducible exact ⟨a02, a12, b02, b12⟩) | (with_reducible exact ⟨a03, a13, b03, b13⟩) | (simp [go_sem, a03, a13, b03, b13]; done))
    (first
      | (go_at_call_of 112 (Value.agg #[.bool na, .slice aa la ca]); (with_reducible refine (complement_any na aa la ca A s (w := wd.drew) hA3 (by omega) (by omega) (by omega)).mono ?_); rintro e w2 ⟨gx, X, rfl, hgx, hRX, hTX, hbx⟩; have a02 := cell_keep a0e hbx; have a12 := cell_keep a1e hbx; have b02 := cell_keep b0e hbx; have b12 := cell_keep b1e hbx)
      | (go_at_call_of 112 (Value.agg #[.bool nb, .slice ab lb cb]); (with_reducible refine (complement_any nb ab lb cb B s (w := w2) (hB3.keep hbx) (by omega) (by omega) (by omega)).mono ?_); rintro e w3 ⟨gy, Y, rfl, hgy, hRY, hTY, hby⟩; have a03 := cell_keep a02 hby; have a13 := cell_keep a12 hby; have b03 := cell_keep b02 hby; have b13 := cell_keep b12 hby))
  have hb3 : Below w.heap.size w w3 := (hbwd.trans ((undrew hbx).mono (by show _ ≤ wd.heap.size; omega))).trans (hby.mono (by have := (undrew hbx).size; omega))
  have hlx : wd.heap.size ≤ w2.heap.size := (undrew hbx).size
  have hgx0 : wd.heap.size ≤ gx := hgx
  have hdz : wd.drew.heap.size = wd.heap.size := rfl
  have hgy0 : wd.heap.size ≤ gy := by omega
  have hne : gx ≠ gy := by have := hRX.lt; omega
  have hRX3 : Rw w3 gx X := hRX.keep' hby
  have P33 : Hid (w3.heap[w.heap.size + 2]? = some (.cells #[.bool false, .slice none 0 0] 24 (0, 0))) := hid (heap_keep (heap_keep HP3d.out (undrew hbx)) hby)
  obtain ⟨hXl, hXo, cx, hXv⟩ := hTX
  obtain ⟨hYl, hYo, cy, hYv⟩ := hTY
  have HXl := hid hXl
  have HYl := hid hYl
  have HX := hid (tcl_unique hXl hXo hXv)
  have HY := hid (tcl_unique hYl hYo hYv)
  have HA := hid (abs_lt_P (n := na) hA.ok (show (tl A).length ≤ s - 1 by omega))
  have HB := hid (abs_lt_P (n := nb) hB.ok (show (tl B).length ≤ s - 1 by omega))
  have hs0 : 0 < s := by omega
  clear hXl hYl hXv hYv hAs hBs a0d a1d b0d b1d a0e a1e b0e b1e a02 a12 b02 b12 a03 a13 b03 b13 hA2 hB2 hA3 hB3 hbx hby hRX HP3d hbwd hgx hgy
  go_wp2
  go_loopw [36] (fun i wr => ∃ (k : Nat) (M : List Nat), k ≤ s ∧ i = .int .i64 (k : Int) ∧ Hid (M.length = k) ∧ Ok M ∧ Hid (∀ j, j < k → dg M j = opn (dg X j) (dg Y j)) ∧
      Rw wr gx (M ++ X.drop k) ∧ Rw wr gy Y ∧ Hid (wr.heap[w.heap.size + 2]? = some (.cells #[.bool false, .slice none 0 0] 24 (0, 0))) ∧ Below w.heap.size w wr) (fun i _ => s - (intOf i).toNat)
  case atStart => exact ⟨0, [], by omega, rfl, hid rfl, Ok.nil, hid (by omega), by simpa using hRX3, hRY, P33, hb3⟩
  case round =>
    obtain ⟨k, M, hk, rfl, hM, hok, hval, hRw, hRv, hP, hB1⟩ := hrel
    clear hRX3 hRY P33 hb3
    by_cases hlt : k < s
    · have hlen : k < (M ++ X.drop k).length := by rw [len_mid _ X _ hM.out (by rw [HXl.out]; omega), HXl.out]; omega
      have hcur := hRw.cell k hlen
      rw [dg_mid _ X _ hM.out] at hcur
      have hcy := hRv.cell k (by rw [HYl.out]; omega)
      have hfr := hRw.free k
      have hx := hXo.dg k
      have hy := hYo.dg k
      clear hlen
      obtain ⟨x, hxx⟩ : ∃ x, x = dg X k := ⟨_, rfl⟩
      obtain ⟨y, hyy⟩ : ∃ y, y = dg Y k := ⟨_, rfl⟩
      have HXX := hid hxx
      have HYY := hid hyy
      rw [← hxx] at hcur hx
      rw [← hyy] at hcy hy
      clear hxx hyy
      go_wp2_with fail
      go_region_with ((go_at_call 88; refine (hop.call x y _ hx hy).mono ?_; rintro e w5 ⟨rfl, rfl⟩))
      all_goals (go_wp2; go_roundw)
      all_goals first
        | (simp [intOf]; omega; done)
        | refine ⟨k + 1, M ++ [opn x y], by omega, by go_num, hid (by rw [List.length_append, hM.out]; rfl), hok.snoc (hop.even.lt x y hx hy), hid ?_, ?_, hRv.drew.other (Ne.symm hne) _, hid ((Below.heap_setCell _ _ _ _ (show w.heap.size + 2 ≠ gx by omega)).trans hP.out), hB1.drew.setCell (by show w.heap.size ≤ gx; omega) _⟩
      all_goals first
        | (intro j hj
           rcases Nat.lt_or_ge j k with h | h
           · rw [dg_append_left _ _ _ (by rw [hM.out]; exact h)]; exact hval.out j h
           · obtain rfl : j = k := by omega
             rw [dg_append_right _ _ _ (by rw [hM.out]; exact h), hM.out, Nat.sub_self, ← HXX.out, ← HYY.out]; rfl)
        | (have := hRw.drew.set k (opn x y)
           rw [set_mid _ X _ _ hM.out (by rw [HXl.out]; omega)] at this
           exact this)
    · obtain rfl : k = s := by omega
      rw [List.drop_of_length_le (by rw [HXl.out]; exact Nat.le_refl _), List.append_nil] at hRw
      obtain ⟨hends, hback⟩ := back_bop hop.even hs0 (by omega) HA.out HB.out hM.out (fun j hj => by rw [hval.out j hj, HX.out, HY.out])
      have hcur := hRw.cell (k - 1) (by rw [hM.out]; omega)
      have hZr : Rd wr (some ⟨gx, 0, none⟩) k k M := by
        have := hRw.whole hok k (by rw [hM.out]; exact Nat.le_refl _) (by omega)
        rwa [hM.out] at this
      have hix : IntKind.i64.wrap ((k : Int) - 1) = ((k - 1 : Nat) : Int) := by rw [IntKind.wrap_i64]; omega
      have hsz := hRw.lt
      by_cases hz : dg M (k - 1) = 0
      · have hnum : num false M = bop opn (num na A) (num nb B) := by rw [← hback]; unfold back num; rw [if_pos hz]; simp
        have HN := hid hnum
        rw [hz] at hcur
        clear hends hback hnum hval HX HY HA HB hRv
        go_wp2_with (go_at_call 78; refine (fit_any _ _ _ _ M _ hZr).mono ?_; rintro e w3 ⟨n', ao', len', c, rfl, hfit, hb3⟩; obtain ⟨c0, c1, f0, f1⟩ := two_cells (heap_keep hP.out hb3))
        rw [HN.out] at hfit
        refine bodyPost_ret (v := .tuple #[.agg #[.bool n', .slice ao' len' len'], .int .i64 c]) (by simp [results, Tryd.results87, go_sem, c0, c1]) rfl ⟨_, _, _, _, rfl, ?_, ?_⟩
        · exact hfit.set2 (by have := hB1.size; omega) (by show w.heap.size + 1 + 1 < _; omega) (by show w.heap.size + 1 + 1 < _; omega) _ _
        · exact ((hB1.trans (hb3.mono hB1.size)).setCell (by show w.heap.size ≤ w.heap.size + 1 + 1; omega) _).setCell (by show w.heap.size ≤ w.heap.size + 1 + 1; omega) _
      · have hvM : (val M : Int) - (P k : Int) = bop opn (num na A) (num nb B) := by rw [← hback]; unfold back; rw [if_neg hz]
        have HN := hid hvM
        have HZ := hid (val_pos_of (Z := M) (k - 1) hz)
        clear hends hback hvM hval HX HY HA HB hRv hZr
        go_wp2_with (first
          | (go_at_call 113; refine (negate_any _ k k M _ hRw hok hM.out (by omega)).mono ?_; rintro e w2 ⟨N, cn, rfl, hN, hNo, hRN, hv, hg⟩; have HNN := hid (num_neg_of hv HZ.out HN.out); have HNl := hid hN; have hsz2 := hg.size; have hP2 := hid ((hg.block _ (by omega) (by intro h; simp at h; omega)).trans hP.out); have hNr := hRN.whole hNo k (by rw [HNl.out]; exact Nat.le_refl _) (by omega); rw [hN] at hNr; have hB2 := hB1.grown hg (by omega) (by intro k hk; simp at hk; omega); clear hN hv hg)
          | (go_at_call 78; refine (fit_any _ _ _ _ N _ hNr).mono ?_; rintro e w3 ⟨n', ao', len', c, rfl, hfit, hb3⟩; obtain ⟨c0, c1, f0, f1⟩ := two_cells (heap_keep hP2.out hb3)))
        rw [HNN.out] at hfit
        refine bodyPost_ret (v := .tuple #[.agg #[.bool n', .slice ao' len' len'], .int .i64 c]) (by simp [results, Tryd.results87, go_sem, c0, c1]) rfl ⟨_, _, _, _, rfl, ?_, ?_⟩
        · exact hfit.set2 (by omega) (by show w.heap.size + 1 + 1 < _; omega) (by show w.heap.size + 1 + 1 < _; omega) _ _
        · exact ((hB2.trans (hb3.mono (by omega))).setCell (by show w.heap.size ≤ w.heap.size + 1 + 1; omega) _).setCell (by show w.heap.size ≤ w.heap.size + 1 + 1; omega) _
end Go.Proofs.YtldafoojkimdeaaDoor

namespace Go.Proofs.YtldafoojkimdeaaDoor
open Go.RowKit Lm

set_option maxRecDepth 100000 in
theorem opn89 : Opn 89 lorf := ⟨lorf_even, by
  intro x y w hx hy
  have hl := or32 x y hx hy
  go_enter Tryd.func89, Tryd.ntmps89
  go_wp2
  go_ret
  exact ⟨rfl, rfl⟩⟩

set_option maxRecDepth 100000 in
set_option maxHeartbeats 4000000 in
theorem bitwise_good89 (opn : Nat → Nat → Nat) (hop : Opn 89 opn) (na : Bool) (aa : Option Addr) (la ca : Nat) (A : List Nat) (nb : Bool) (ab : Option Addr) (lb cb : Nat) (B : List Nat) (w : World) (hA : Rd w aa la ca A) (hB : Rd w ab lb cb B) (hbad : (tooLong A || tooLong B) = false) :
    Calls Tryd.prog 87 #[.agg #[.bool na, .slice aa la ca], .agg #[.bool nb, .slice ab lb cb], .func (.func 89) #[] #[]] w fun e w' => ∃ n' ao' len' c, e = .returned (.tuple #[.agg #[.bool n', .slice ao' len' len'], .int .i64 c]) ∧ Fits w w' n' ao' len' c (bop opn (num na A) (num nb B)) ∧ Below w.heap.size w w' := by
  have hsA := small_len A (by simp at hbad; exact hbad.1)
  have hsB := small_len B (by simp at hbad; exact hbad.2)
  go_enter Tryd.func87, Tryd.ntmps87
  go_wp2_with (go_at_call 77; refine (long2_any _ na aa la ca A nb ab lb cb B _ ((((hA.alloc _).alloc _).alloc _).alloc _) ((((hB.alloc _).alloc _).alloc _).alloc _) (by simp [go_sem]) (by simp [go_sem]) (by simp [go_sem]) (by simp [go_sem])).mono ?_; rintro e w1 ⟨rfl, hb1⟩; rw [hbad]; obtain ⟨p1, p2, p3, hbw⟩ := hp4 _ _ _ _ _ hb1; obtain ⟨a0, a1, _, _⟩ := two_cells p1; obtain ⟨b0, b1, _, _⟩ := two_cells p2; have hA1 := hA.keep hbw; have hB1 := hB.keep hbw)
  clear hbad
  have hlt1 : w.heap.size + 4 ≤ w1.heap.size := by have := hb1.size; simp at this ⊢; omega
  have HP3 := hid p3
  have HP1 := hid p1
  have HP2 := hid p2
  clear hb1 p1 p2 p3
  go_region_held3 (fun w' => w'.cell? ⟨w.heap.size, 0, none⟩ = some (.bool na) ∧ w'.cell? ⟨w.heap.size, 1, none⟩ = some (.slice aa la ca) ∧ w'.cell? ⟨w.heap.size + 1, 0, none⟩ = some (.bool nb) ∧ w'.cell? ⟨w.heap.size + 1, 1, none⟩ = some (.slice ab lb cb)) (refine ⟨?_, ?_, ?_, ?_⟩ <;> first | assumption | (simp [go_sem]; assumption))
    (first
      | (go_at_call_of 71 (Value.slice aa la ca); refine (trim_any _ _ _ A _ ?_).mono ?_; (first | exact hA1 | exact hA1.drew); rintro e w5 ⟨rfl, rfl⟩)
      | (go_at_call_of 71 (Value.slice ab lb cb); refine (trim_any _ _ _ B _ ?_).mono ?_; (first | exact hB1 | exact hB1.drew); rintro e w5 ⟨rfl, rfl⟩))
  obtain ⟨s, hs⟩ : ∃ s, s = max (tl A).length (tl B).length + 1 := ⟨_, rfl⟩
  have hwr : IntKind.i64.wrap (max ((tl A).length : Int) ((tl B).length : Int) + 1) = (s : Int) := by rw [IntKind.wrap_i64]; omega
  rw [hwr]
  have hA2 := hA1.drew
  have hB2 := hB1.drew
  have a0d := show w1.drew.cell? ⟨w.heap.size, 0, none⟩ = _ from a0
  have a1d := show w1.drew.cell? ⟨w.heap.size, 1, none⟩ = _ from a1
  have b0d := show w1.drew.cell? ⟨w.heap.size + 1, 0, none⟩ = _ from b0
  have b1d := show w1.drew.cell? ⟨w.heap.size + 1, 1, none⟩ = _ from b1
  have HP3d : Hid (w1.drew.heap[w.heap.size + 2]? = some (.cells #[.bool false, .slice none 0 0] 24 (0, 0))) := HP3
  have hbwd : Below w.heap.size w w1.drew := hbw.drew
  have hltd : w.heap.size + 4 ≤ w1.drew.heap.size := hlt1
  have hAs : (tl A).length + 1 ≤ s := by omega
  have hBs : (tl B).length + 1 ≤ s := by omega
  have hs1 : s ≤ 129 := by omega
  clear hwr hs HP1 HP2 HP3 hlt1 hbw hA1 hB1 a0 a1 b0 b1 hsA hsB
  generalize w1.drew = wd at *
  go_wp2_with fail
  have a0e := show wd.drew.cell? ⟨w.heap.size, 0, none⟩ = _ from a0d
  have a1e := show wd.drew.cell? ⟨w.heap.size, 1, none⟩ = _ from a1d
  have b0e := show wd.drew.cell? ⟨w.heap.size + 1, 0, none⟩ = _ from b0d
  have b1e := show wd.drew.cell? ⟨w.heap.size + 1, 1, none⟩ = _ from b1d
  have hA3 := hA2.drew
  have hB3 := hB2.drew
  go_region_held3 (fun w' => w'.cell? ⟨w.heap.size, 0, none⟩ = some (.bool na) ∧ w'.cell? ⟨w.heap.size, 1, none⟩ = some (.slice aa la ca) ∧ w'.cell? ⟨w.heap.size + 1, 0, none⟩ = some (.bool nb) ∧ w'.cell? ⟨w.heap.size + 1, 1, none⟩ = some (.slice ab lb cb)) (first | (with_reducible exact ⟨a0d, a1d, b0d, b1d⟩) | (with_reducible exact ⟨a0e, a1e, b0e, b1e⟩) | (with_reducible exact ⟨a02, a12, b02, b12⟩) | (with_reducible exact ⟨a03, a13, b03, b13⟩) | (simp [go_sem, a03, a13, b03, b13]; done))
    (first
      | (go_at_call_of 112 (Value.agg #[.bool na, .slice aa la ca]); (with_reducible refine (complement_any na aa la ca A s (w := wd.drew) hA3 (by omega) (by omega) (by omega)).mono ?_); rintro e w2 ⟨gx, X, rfl, hgx, hRX, hTX, hbx⟩; have a02 := cell_keep a0e hbx; have a12 := cell_keep a1e hbx; have b02 := cell_keep b0e hbx; have b12 := cell_keep b1e hbx)
      | (go_at_call_of 112 (Value.agg #[.bool nb, .slice ab lb cb]); (with_reducible refine (complement_any nb ab lb cb B s (w := w2) (hB3.keep hbx) (by omega) (by omega) (by omega)).mono ?_); rintro e w3 ⟨gy, Y, rfl, hgy, hRY, hTY, hby⟩; have a03 := cell_keep a02 hby; have a13 := cell_keep a12 hby; have b03 := cell_keep b02 hby; have b13 := cell_keep b12 hby))
  have hb3 : Below w.heap.size w w3 := (hbwd.trans ((undrew hbx).mono (by show _ ≤ wd.heap.size; omega))).trans (hby.mono (by have := (undrew hbx).size; omega))
  have hlx : wd.heap.size ≤ w2.heap.size := (undrew hbx).size
  have hgx0 : wd.heap.size ≤ gx := hgx
  have hdz : wd.drew.heap.size = wd.heap.size := rfl
  have hgy0 : wd.heap.size ≤ gy := by omega
  have hne : gx ≠ gy := by have := hRX.lt; omega
  have hRX3 : Rw w3 gx X := hRX.keep' hby
  have P33 : Hid (w3.heap[w.heap.size + 2]? = some (.cells #[.bool false, .slice none 0 0] 24 (0, 0))) := hid (heap_keep (heap_keep HP3d.out (undrew hbx)) hby)
  obtain ⟨hXl, hXo, cx, hXv⟩ := hTX
  obtain ⟨hYl, hYo, cy, hYv⟩ := hTY
  have HXl := hid hXl
  have HYl := hid hYl
  have HX := hid (tcl_unique hXl hXo hXv)
  have HY := hid (tcl_unique hYl hYo hYv)
  have HA := hid (abs_lt_P (n := na) hA.ok (show (tl A).length ≤ s - 1 by omega))
  have HB := hid (abs_lt_P (n := nb) hB.ok (show (tl B).length ≤ s - 1 by omega))
  have hs0 : 0 < s := by omega
  clear hXl hYl hXv hYv hAs hBs a0d a1d b0d b1d a0e a1e b0e b1e a02 a12 b02 b12 a03 a13 b03 b13 hA2 hB2 hA3 hB3 hbx hby hRX HP3d hbwd hgx hgy
  go_wp2
  go_loopw [36] (fun i wr => ∃ (k : Nat) (M : List Nat), k ≤ s ∧ i = .int .i64 (k : Int) ∧ Hid (M.length = k) ∧ Ok M ∧ Hid (∀ j, j < k → dg M j = opn (dg X j) (dg Y j)) ∧
      Rw wr gx (M ++ X.drop k) ∧ Rw wr gy Y ∧ Hid (wr.heap[w.heap.size + 2]? = some (.cells #[.bool false, .slice none 0 0] 24 (0, 0))) ∧ Below w.heap.size w wr) (fun i _ => s - (intOf i).toNat)
  case atStart => exact ⟨0, [], by omega, rfl, hid rfl, Ok.nil, hid (by omega), by simpa using hRX3, hRY, P33, hb3⟩
  case round =>
    obtain ⟨k, M, hk, rfl, hM, hok, hval, hRw, hRv, hP, hB1⟩ := hrel
    clear hRX3 hRY P33 hb3
    by_cases hlt : k < s
    · have hlen : k < (M ++ X.drop k).length := by rw [len_mid _ X _ hM.out (by rw [HXl.out]; omega), HXl.out]; omega
      have hcur := hRw.cell k hlen
      rw [dg_mid _ X _ hM.out] at hcur
      have hcy := hRv.cell k (by rw [HYl.out]; omega)
      have hfr := hRw.free k
      have hx := hXo.dg k
      have hy := hYo.dg k
      clear hlen
      obtain ⟨x, hxx⟩ : ∃ x, x = dg X k := ⟨_, rfl⟩
      obtain ⟨y, hyy⟩ : ∃ y, y = dg Y k := ⟨_, rfl⟩
      have HXX := hid hxx
      have HYY := hid hyy
      rw [← hxx] at hcur hx
      rw [← hyy] at hcy hy
      clear hxx hyy
      go_wp2_with fail
      go_region_with ((go_at_call 89; refine (hop.call x y _ hx hy).mono ?_; rintro e w5 ⟨rfl, rfl⟩))
      all_goals (go_wp2; go_roundw)
      all_goals first
        | (simp [intOf]; omega; done)
        | refine ⟨k + 1, M ++ [opn x y], by omega, by go_num, hid (by rw [List.length_append, hM.out]; rfl), hok.snoc (hop.even.lt x y hx hy), hid ?_, ?_, hRv.drew.other (Ne.symm hne) _, hid ((Below.heap_setCell _ _ _ _ (show w.heap.size + 2 ≠ gx by omega)).trans hP.out), hB1.drew.setCell (by show w.heap.size ≤ gx; omega) _⟩
      all_goals first
        | (intro j hj
           rcases Nat.lt_or_ge j k with h | h
           · rw [dg_append_left _ _ _ (by rw [hM.out]; exact h)]; exact hval.out j h
           · obtain rfl : j = k := by omega
             rw [dg_append_right _ _ _ (by rw [hM.out]; exact h), hM.out, Nat.sub_self, ← HXX.out, ← HYY.out]; rfl)
        | (have := hRw.drew.set k (opn x y)
           rw [set_mid _ X _ _ hM.out (by rw [HXl.out]; omega)] at this
           exact this)
    · obtain rfl : k = s := by omega
      rw [List.drop_of_length_le (by rw [HXl.out]; exact Nat.le_refl _), List.append_nil] at hRw
      obtain ⟨hends, hback⟩ := back_bop hop.even hs0 (by omega) HA.out HB.out hM.out (fun j hj => by rw [hval.out j hj, HX.out, HY.out])
      have hcur := hRw.cell (k - 1) (by rw [hM.out]; omega)
      have hZr : Rd wr (some ⟨gx, 0, none⟩) k k M := by
        have := hRw.whole hok k (by rw [hM.out]; exact Nat.le_refl _) (by omega)
        rwa [hM.out] at this
      have hix : IntKind.i64.wrap ((k : Int) - 1) = ((k - 1 : Nat) : Int) := by rw [IntKind.wrap_i64]; omega
      have hsz := hRw.lt
      by_cases hz : dg M (k - 1) = 0
      · have hnum : num false M = bop opn (num na A) (num nb B) := by rw [← hback]; unfold back num; rw [if_pos hz]; simp
        have HN := hid hnum
        rw [hz] at hcur
        clear hends hback hnum hval HX HY HA HB hRv
        go_wp2_with (go_at_call 78; refine (fit_any _ _ _ _ M _ hZr).mono ?_; rintro e w3 ⟨n', ao', len', c, rfl, hfit, hb3⟩; obtain ⟨c0, c1, f0, f1⟩ := two_cells (heap_keep hP.out hb3))
        rw [HN.out] at hfit
        refine bodyPost_ret (v := .tuple #[.agg #[.bool n', .slice ao' len' len'], .int .i64 c]) (by simp [results, Tryd.results87, go_sem, c0, c1]) rfl ⟨_, _, _, _, rfl, ?_, ?_⟩
        · exact hfit.set2 (by have := hB1.size; omega) (by show w.heap.size + 1 + 1 < _; omega) (by show w.heap.size + 1 + 1 < _; omega) _ _
        · exact ((hB1.trans (hb3.mono hB1.size)).setCell (by show w.heap.size ≤ w.heap.size + 1 + 1; omega) _).setCell (by show w.heap.size ≤ w.heap.size + 1 + 1; omega) _
      · have hvM : (val M : Int) - (P k : Int) = bop opn (num na A) (num nb B) := by rw [← hback]; unfold back; rw [if_neg hz]
        have HN := hid hvM
        have HZ := hid (val_pos_of (Z := M) (k - 1) hz)
        clear hends hback hvM hval HX HY HA HB hRv hZr
        go_wp2_with (first
          | (go_at_call 113; refine (negate_any _ k k M _ hRw hok hM.out (by omega)).mono ?_; rintro e w2 ⟨N, cn, rfl, hN, hNo, hRN, hv, hg⟩; have HNN := hid (num_neg_of hv HZ.out HN.out); have HNl := hid hN; have hsz2 := hg.size; have hP2 := hid ((hg.block _ (by omega) (by intro h; simp at h; omega)).trans hP.out); have hNr := hRN.whole hNo k (by rw [HNl.out]; exact Nat.le_refl _) (by omega); rw [hN] at hNr; have hB2 := hB1.grown hg (by omega) (by intro k hk; simp at hk; omega); clear hN hv hg)
          | (go_at_call 78; refine (fit_any _ _ _ _ N _ hNr).mono ?_; rintro e w3 ⟨n', ao', len', c, rfl, hfit, hb3⟩; obtain ⟨c0, c1, f0, f1⟩ := two_cells (heap_keep hP2.out hb3)))
        rw [HNN.out] at hfit
        refine bodyPost_ret (v := .tuple #[.agg #[.bool n', .slice ao' len' len'], .int .i64 c]) (by simp [results, Tryd.results87, go_sem, c0, c1]) rfl ⟨_, _, _, _, rfl, ?_, ?_⟩
        · exact hfit.set2 (by omega) (by show w.heap.size + 1 + 1 < _; omega) (by show w.heap.size + 1 + 1 < _; omega) _ _
        · exact ((hB2.trans (hb3.mono (by omega))).setCell (by show w.heap.size ≤ w.heap.size + 1 + 1; omega) _).setCell (by show w.heap.size ≤ w.heap.size + 1 + 1; omega) _
end Go.Proofs.YtldafoojkimdeaaDoor

namespace Go.Proofs.YtldafoojkimdeaaDoor
open Go.RowKit Lm

set_option maxRecDepth 100000 in
theorem opn90 : Opn 90 lxorf := ⟨lxorf_even, by
  intro x y w hx hy
  have hl := xor32 x y hx hy
  go_enter Tryd.func90, Tryd.ntmps90
  go_wp2
  go_ret
  exact ⟨rfl, rfl⟩⟩

set_option maxRecDepth 100000 in
set_option maxHeartbeats 4000000 in
theorem bitwise_good90 (opn : Nat → Nat → Nat) (hop : Opn 90 opn) (na : Bool) (aa : Option Addr) (la ca : Nat) (A : List Nat) (nb : Bool) (ab : Option Addr) (lb cb : Nat) (B : List Nat) (w : World) (hA : Rd w aa la ca A) (hB : Rd w ab lb cb B) (hbad : (tooLong A || tooLong B) = false) :
    Calls Tryd.prog 87 #[.agg #[.bool na, .slice aa la ca], .agg #[.bool nb, .slice ab lb cb], .func (.func 90) #[] #[]] w fun e w' => ∃ n' ao' len' c, e = .returned (.tuple #[.agg #[.bool n', .slice ao' len' len'], .int .i64 c]) ∧ Fits w w' n' ao' len' c (bop opn (num na A) (num nb B)) ∧ Below w.heap.size w w' := by
  have hsA := small_len A (by simp at hbad; exact hbad.1)
  have hsB := small_len B (by simp at hbad; exact hbad.2)
  go_enter Tryd.func87, Tryd.ntmps87
  go_wp2_with (go_at_call 77; refine (long2_any _ na aa la ca A nb ab lb cb B _ ((((hA.alloc _).alloc _).alloc _).alloc _) ((((hB.alloc _).alloc _).alloc _).alloc _) (by simp [go_sem]) (by simp [go_sem]) (by simp [go_sem]) (by simp [go_sem])).mono ?_; rintro e w1 ⟨rfl, hb1⟩; rw [hbad]; obtain ⟨p1, p2, p3, hbw⟩ := hp4 _ _ _ _ _ hb1; obtain ⟨a0, a1, _, _⟩ := two_cells p1; obtain ⟨b0, b1, _, _⟩ := two_cells p2; have hA1 := hA.keep hbw; have hB1 := hB.keep hbw)
  clear hbad
  have hlt1 : w.heap.size + 4 ≤ w1.heap.size := by have := hb1.size; simp at this ⊢; omega
  have HP3 := hid p3
  have HP1 := hid p1
  have HP2 := hid p2
  clear hb1 p1 p2 p3
  go_region_held3 (fun w' => w'.cell? ⟨w.heap.size, 0, none⟩ = some (.bool na) ∧ w'.cell? ⟨w.heap.size, 1, none⟩ = some (.slice aa la ca) ∧ w'.cell? ⟨w.heap.size + 1, 0, none⟩ = some (.bool nb) ∧ w'.cell? ⟨w.heap.size + 1, 1, none⟩ = some (.slice ab lb cb)) (refine ⟨?_, ?_, ?_, ?_⟩ <;> first | assumption | (simp [go_sem]; assumption))
    (first
      | (go_at_call_of 71 (Value.slice aa la ca); refine (trim_any _ _ _ A _ ?_).mono ?_; (first | exact hA1 | exact hA1.drew); rintro e w5 ⟨rfl, rfl⟩)
      | (go_at_call_of 71 (Value.slice ab lb cb); refine (trim_any _ _ _ B _ ?_).mono ?_; (first | exact hB1 | exact hB1.drew); rintro e w5 ⟨rfl, rfl⟩))
  obtain ⟨s, hs⟩ : ∃ s, s = max (tl A).length (tl B).length + 1 := ⟨_, rfl⟩
  have hwr : IntKind.i64.wrap (max ((tl A).length : Int) ((tl B).length : Int) + 1) = (s : Int) := by rw [IntKind.wrap_i64]; omega
  rw [hwr]
  have hA2 := hA1.drew
  have hB2 := hB1.drew
  have a0d := show w1.drew.cell? ⟨w.heap.size, 0, none⟩ = _ from a0
  have a1d := show w1.drew.cell? ⟨w.heap.size, 1, none⟩ = _ from a1
  have b0d := show w1.drew.cell? ⟨w.heap.size + 1, 0, none⟩ = _ from b0
  have b1d := show w1.drew.cell? ⟨w.heap.size + 1, 1, none⟩ = _ from b1
  have HP3d : Hid (w1.drew.heap[w.heap.size + 2]? = some (.cells #[.bool false, .slice none 0 0] 24 (0, 0))) := HP3
  have hbwd : Below w.heap.size w w1.drew := hbw.drew
  have hltd : w.heap.size + 4 ≤ w1.drew.heap.size := hlt1
  have hAs : (tl A).length + 1 ≤ s := by omega
  have hBs : (tl B).length + 1 ≤ s := by omega
  have hs1 : s ≤ 129 := by omega
  clear hwr hs HP1 HP2 HP3 hlt1 hbw hA1 hB1 a0 a1 b0 b1 hsA hsB
  generalize w1.drew = wd at *
  go_wp2_with fail
  have a0e := show wd.drew.cell? ⟨w.heap.size, 0, none⟩ = _ from a0d
  have a1e := show wd.drew.cell? ⟨w.heap.size, 1, none⟩ = _ from a1d
  have b0e := show wd.drew.cell? ⟨w.heap.size + 1, 0, none⟩ = _ from b0d
  have b1e := show wd.drew.cell? ⟨w.heap.size + 1, 1, none⟩ = _ from b1d
  have hA3 := hA2.drew
  have hB3 := hB2.drew
  go_region_held3 (fun w' => w'.cell? ⟨w.heap.size, 0, none⟩ = some (.bool na) ∧ w'.cell? ⟨w.heap.size, 1, none⟩ = some (.slice aa la ca) ∧ w'.cell? ⟨w.heap.size + 1, 0, none⟩ = some (.bool nb) ∧ w'.cell? ⟨w.heap.size + 1, 1, none⟩ = some (.slice ab lb cb)) (first | (with_reducible exact ⟨a0d, a1d, b0d, b1d⟩) | (with_reducible exact ⟨a0e, a1e, b0e, b1e⟩) | (with_reducible exact ⟨a02, a12, b02, b12⟩) | (with_reducible exact ⟨a03, a13, b03, b13⟩) | (simp [go_sem, a03, a13, b03, b13]; done))
    (first
      | (go_at_call_of 112 (Value.agg #[.bool na, .slice aa la ca]); (with_reducible refine (complement_any na aa la ca A s (w := wd.drew) hA3 (by omega) (by omega) (by omega)).mono ?_); rintro e w2 ⟨gx, X, rfl, hgx, hRX, hTX, hbx⟩; have a02 := cell_keep a0e hbx; have a12 := cell_keep a1e hbx; have b02 := cell_keep b0e hbx; have b12 := cell_keep b1e hbx)
      | (go_at_call_of 112 (Value.agg #[.bool nb, .slice ab lb cb]); (with_reducible refine (complement_any nb ab lb cb B s (w := w2) (hB3.keep hbx) (by omega) (by omega) (by omega)).mono ?_); rintro e w3 ⟨gy, Y, rfl, hgy, hRY, hTY, hby⟩; have a03 := cell_keep a02 hby; have a13 := cell_keep a12 hby; have b03 := cell_keep b02 hby; have b13 := cell_keep b12 hby))
  have hb3 : Below w.heap.size w w3 := (hbwd.trans ((undrew hbx).mono (by show _ ≤ wd.heap.size; omega))).trans (hby.mono (by have := (undrew hbx).size; omega))
  have hlx : wd.heap.size ≤ w2.heap.size := (undrew hbx).size
  have hgx0 : wd.heap.size ≤ gx := hgx
  have hdz : wd.drew.heap.size = wd.heap.size := rfl
  have hgy0 : wd.heap.size ≤ gy := by omega
  have hne : gx ≠ gy := by have := hRX.lt; omega
  have hRX3 : Rw w3 gx X := hRX.keep' hby
  have P33 : Hid (w3.heap[w.heap.size + 2]? = some (.cells #[.bool false, .slice none 0 0] 24 (0, 0))) := hid (heap_keep (heap_keep HP3d.out (undrew hbx)) hby)
  obtain ⟨hXl, hXo, cx, hXv⟩ := hTX
  obtain ⟨hYl, hYo, cy, hYv⟩ := hTY
  have HXl := hid hXl
  have HYl := hid hYl
  have HX := hid (tcl_unique hXl hXo hXv)
  have HY := hid (tcl_unique hYl hYo hYv)
  have HA := hid (abs_lt_P (n := na) hA.ok (show (tl A).length ≤ s - 1 by omega))
  have HB := hid (abs_lt_P (n := nb) hB.ok (show (tl B).length ≤ s - 1 by omega))
  have hs0 : 0 < s := by omega
  clear hXl hYl hXv hYv hAs hBs a0d a1d b0d b1d a0e a1e b0e b1e a02 a12 b02 b12 a03 a13 b03 b13 hA2 hB2 hA3 hB3 hbx hby hRX HP3d hbwd hgx hgy
  go_wp2
  go_loopw [36] (fun i wr => ∃ (k : Nat) (M : List Nat), k ≤ s ∧ i = .int .i64 (k : Int) ∧ Hid (M.length = k) ∧ Ok M ∧ Hid (∀ j, j < k → dg M j = opn (dg X j) (dg Y j)) ∧
      Rw wr gx (M ++ X.drop k) ∧ Rw wr gy Y ∧ Hid (wr.heap[w.heap.size + 2]? = some (.cells #[.bool false, .slice none 0 0] 24 (0, 0))) ∧ Below w.heap.size w wr) (fun i _ => s - (intOf i).toNat)
  case atStart => exact ⟨0, [], by omega, rfl, hid rfl, Ok.nil, hid (by omega), by simpa using hRX3, hRY, P33, hb3⟩
  case round =>
    obtain ⟨k, M, hk, rfl, hM, hok, hval, hRw, hRv, hP, hB1⟩ := hrel
    clear hRX3 hRY P33 hb3
    by_cases hlt : k < s
    · have hlen : k < (M ++ X.drop k).length := by rw [len_mid _ X _ hM.out (by rw [HXl.out]; omega), HXl.out]; omega
      have hcur := hRw.cell k hlen
      rw [dg_mid _ X _ hM.out] at hcur
      have hcy := hRv.cell k (by rw [HYl.out]; omega)
      have hfr := hRw.free k
      have hx := hXo.dg k
      have hy := hYo.dg k
      clear hlen
      obtain ⟨x, hxx⟩ : ∃ x, x = dg X k := ⟨_, rfl⟩
      obtain ⟨y, hyy⟩ : ∃ y, y = dg Y k := ⟨_, rfl⟩
      have HXX := hid hxx
      have HYY := hid hyy
      rw [← hxx] at hcur hx
      rw [← hyy] at hcy hy
      clear hxx hyy
      go_wp2_with fail
      go_region_with ((go_at_call 90; refine (hop.call x y _ hx hy).mono ?_; rintro e w5 ⟨rfl, rfl⟩))
      all_goals (go_wp2; go_roundw)
      all_goals first
        | (simp [intOf]; omega; done)
        | refine ⟨k + 1, M ++ [opn x y], by omega, by go_num, hid (by rw [List.length_append, hM.out]; rfl), hok.snoc (hop.even.lt x y hx hy), hid ?_, ?_, hRv.drew.other (Ne.symm hne) _, hid ((Below.heap_setCell _ _ _ _ (show w.heap.size + 2 ≠ gx by omega)).trans hP.out), hB1.drew.setCell (by show w.heap.size ≤ gx; omega) _⟩
      all_goals first
        | (intro j hj
           rcases Nat.lt_or_ge j k with h | h
           · rw [dg_append_left _ _ _ (by rw [hM.out]; exact h)]; exact hval.out j h
           · obtain rfl : j = k := by omega
             rw [dg_append_right _ _ _ (by rw [hM.out]; exact h), hM.out, Nat.sub_self, ← HXX.out, ← HYY.out]; rfl)
        | (have := hRw.drew.set k (opn x y)
           rw [set_mid _ X _ _ hM.out (by rw [HXl.out]; omega)] at this
           exact this)
    · obtain rfl : k = s := by omega
      rw [List.drop_of_length_le (by rw [HXl.out]; exact Nat.le_refl _), List.append_nil] at hRw
      obtain ⟨hends, hback⟩ := back_bop hop.even hs0 (by omega) HA.out HB.out hM.out (fun j hj => by rw [hval.out j hj, HX.out, HY.out])
      have hcur := hRw.cell (k - 1) (by rw [hM.out]; omega)
      have hZr : Rd wr (some ⟨gx, 0, none⟩) k k M := by
        have := hRw.whole hok k (by rw [hM.out]; exact Nat.le_refl _) (by omega)
        rwa [hM.out] at this
      have hix : IntKind.i64.wrap ((k : Int) - 1) = ((k - 1 : Nat) : Int) := by rw [IntKind.wrap_i64]; omega
      have hsz := hRw.lt
      by_cases hz : dg M (k - 1) = 0
      · have hnum : num false M = bop opn (num na A) (num nb B) := by rw [← hback]; unfold back num; rw [if_pos hz]; simp
        have HN := hid hnum
        rw [hz] at hcur
        clear hends hback hnum hval HX HY HA HB hRv
        go_wp2_with (go_at_call 78; refine (fit_any _ _ _ _ M _ hZr).mono ?_; rintro e w3 ⟨n', ao', len', c, rfl, hfit, hb3⟩; obtain ⟨c0, c1, f0, f1⟩ := two_cells (heap_keep hP.out hb3))
        rw [HN.out] at hfit
        refine bodyPost_ret (v := .tuple #[.agg #[.bool n', .slice ao' len' len'], .int .i64 c]) (by simp [results, Tryd.results87, go_sem, c0, c1]) rfl ⟨_, _, _, _, rfl, ?_, ?_⟩
        · exact hfit.set2 (by have := hB1.size; omega) (by show w.heap.size + 1 + 1 < _; omega) (by show w.heap.size + 1 + 1 < _; omega) _ _
        · exact ((hB1.trans (hb3.mono hB1.size)).setCell (by show w.heap.size ≤ w.heap.size + 1 + 1; omega) _).setCell (by show w.heap.size ≤ w.heap.size + 1 + 1; omega) _
      · have hvM : (val M : Int) - (P k : Int) = bop opn (num na A) (num nb B) := by rw [← hback]; unfold back; rw [if_neg hz]
        have HN := hid hvM
        have HZ := hid (val_pos_of (Z := M) (k - 1) hz)
        clear hends hback hvM hval HX HY HA HB hRv hZr
        go_wp2_with (first
          | (go_at_call 113; refine (negate_any _ k k M _ hRw hok hM.out (by omega)).mono ?_; rintro e w2 ⟨N, cn, rfl, hN, hNo, hRN, hv, hg⟩; have HNN := hid (num_neg_of hv HZ.out HN.out); have HNl := hid hN; have hsz2 := hg.size; have hP2 := hid ((hg.block _ (by omega) (by intro h; simp at h; omega)).trans hP.out); have hNr := hRN.whole hNo k (by rw [HNl.out]; exact Nat.le_refl _) (by omega); rw [hN] at hNr; have hB2 := hB1.grown hg (by omega) (by intro k hk; simp at hk; omega); clear hN hv hg)
          | (go_at_call 78; refine (fit_any _ _ _ _ N _ hNr).mono ?_; rintro e w3 ⟨n', ao', len', c, rfl, hfit, hb3⟩; obtain ⟨c0, c1, f0, f1⟩ := two_cells (heap_keep hP2.out hb3)))
        rw [HNN.out] at hfit
        refine bodyPost_ret (v := .tuple #[.agg #[.bool n', .slice ao' len' len'], .int .i64 c]) (by simp [results, Tryd.results87, go_sem, c0, c1]) rfl ⟨_, _, _, _, rfl, ?_, ?_⟩
        · exact hfit.set2 (by omega) (by show w.heap.size + 1 + 1 < _; omega) (by show w.heap.size + 1 + 1 < _; omega) _ _
        · exact ((hB2.trans (hb3.mono (by omega))).setCell (by show w.heap.size ≤ w.heap.size + 1 + 1; omega) _).setCell (by show w.heap.size ≤ w.heap.size + 1 + 1; omega) _
end Go.Proofs.YtldafoojkimdeaaDoor

namespace Go.Proofs.YtldafoojkimdeaaDoor
open Go.RowKit Lm

set_option maxRecDepth 100000 in
theorem opn91 : Opn 91 lnotf := ⟨lnotf_even, by
  intro x y w hx hy
  have hl := not32 x hx
  go_enter Tryd.func91, Tryd.ntmps91
  go_wp2
  go_ret
  exact ⟨rfl, rfl⟩⟩

set_option maxRecDepth 100000 in
set_option maxHeartbeats 4000000 in
theorem bitwise_good91 (opn : Nat → Nat → Nat) (hop : Opn 91 opn) (na : Bool) (aa : Option Addr) (la ca : Nat) (A : List Nat) (nb : Bool) (ab : Option Addr) (lb cb : Nat) (B : List Nat) (w : World) (hA : Rd w aa la ca A) (hB : Rd w ab lb cb B) (hbad : (tooLong A || tooLong B) = false) :
    Calls Tryd.prog 87 #[.agg #[.bool na, .slice aa la ca], .agg #[.bool nb, .slice ab lb cb], .func (.func 91) #[] #[]] w fun e w' => ∃ n' ao' len' c, e = .returned (.tuple #[.agg #[.bool n', .slice ao' len' len'], .int .i64 c]) ∧ Fits w w' n' ao' len' c (bop opn (num na A) (num nb B)) ∧ Below w.heap.size w w' := by
  have hsA := small_len A (by simp at hbad; exact hbad.1)
  have hsB := small_len B (by simp at hbad; exact hbad.2)
  go_enter Tryd.func87, Tryd.ntmps87
  go_wp2_with (go_at_call 77; refine (long2_any _ na aa la ca A nb ab lb cb B _ ((((hA.alloc _).alloc _).alloc _).alloc _) ((((hB.alloc _).alloc _).alloc _).alloc _) (by simp [go_sem]) (by simp [go_sem]) (by simp [go_sem]) (by simp [go_sem])).mono ?_; rintro e w1 ⟨rfl, hb1⟩; rw [hbad]; obtain ⟨p1, p2, p3, hbw⟩ := hp4 _ _ _ _ _ hb1; obtain ⟨a0, a1, _, _⟩ := two_cells p1; obtain ⟨b0, b1, _, _⟩ := two_cells p2; have hA1 := hA.keep hbw; have hB1 := hB.keep hbw)
  clear hbad
  have hlt1 : w.heap.size + 4 ≤ w1.heap.size := by have := hb1.size; simp at this ⊢; omega
  have HP3 := hid p3
  have HP1 := hid p1
  have HP2 := hid p2
  clear hb1 p1 p2 p3
  go_region_held3 (fun w' => w'.cell? ⟨w.heap.size, 0, none⟩ = some (.bool na) ∧ w'.cell? ⟨w.heap.size, 1, none⟩ = some (.slice aa la ca) ∧ w'.cell? ⟨w.heap.size + 1, 0, none⟩ = some (.bool nb) ∧ w'.cell? ⟨w.heap.size + 1, 1, none⟩ = some (.slice ab lb cb)) (refine ⟨?_, ?_, ?_, ?_⟩ <;> first | assumption | (simp [go_sem]; assumption))
    (first
      | (go_at_call_of 71 (Value.slice aa la ca); refine (trim_any _ _ _ A _ ?_).mono ?_; (first | exact hA1 | exact hA1.drew); rintro e w5 ⟨rfl, rfl⟩)
      | (go_at_call_of 71 (Value.slice ab lb cb); refine (trim_any _ _ _ B _ ?_).mono ?_; (first | exact hB1 | exact hB1.drew); rintro e w5 ⟨rfl, rfl⟩))
  obtain ⟨s, hs⟩ : ∃ s, s = max (tl A).length (tl B).length + 1 := ⟨_, rfl⟩
  have hwr : IntKind.i64.wrap (max ((tl A).length : Int) ((tl B).length : Int) + 1) = (s : Int) := by rw [IntKind.wrap_i64]; omega
  rw [hwr]
  have hA2 := hA1.drew
  have hB2 := hB1.drew
  have a0d := show w1.drew.cell? ⟨w.heap.size, 0, none⟩ = _ from a0
  have a1d := show w1.drew.cell? ⟨w.heap.size, 1, none⟩ = _ from a1
  have b0d := show w1.drew.cell? ⟨w.heap.size + 1, 0, none⟩ = _ from b0
  have b1d := show w1.drew.cell? ⟨w.heap.size + 1, 1, none⟩ = _ from b1
  have HP3d : Hid (w1.drew.heap[w.heap.size + 2]? = some (.cells #[.bool false, .slice none 0 0] 24 (0, 0))) := HP3
  have hbwd : Below w.heap.size w w1.drew := hbw.drew
  have hltd : w.heap.size + 4 ≤ w1.drew.heap.size := hlt1
  have hAs : (tl A).length + 1 ≤ s := by omega
  have hBs : (tl B).length + 1 ≤ s := by omega
  have hs1 : s ≤ 129 := by omega
  clear hwr hs HP1 HP2 HP3 hlt1 hbw hA1 hB1 a0 a1 b0 b1 hsA hsB
  generalize w1.drew = wd at *
  go_wp2_with fail
  have a0e := show wd.drew.cell? ⟨w.heap.size, 0, none⟩ = _ from a0d
  have a1e := show wd.drew.cell? ⟨w.heap.size, 1, none⟩ = _ from a1d
  have b0e := show wd.drew.cell? ⟨w.heap.size + 1, 0, none⟩ = _ from b0d
  have b1e := show wd.drew.cell? ⟨w.heap.size + 1, 1, none⟩ = _ from b1d
  have hA3 := hA2.drew
  have hB3 := hB2.drew
  go_region_held3 (fun w' => w'.cell? ⟨w.heap.size, 0, none⟩ = some (.bool na) ∧ w'.cell? ⟨w.heap.size, 1, none⟩ = some (.slice aa la ca) ∧ w'.cell? ⟨w.heap.size + 1, 0, none⟩ = some (.bool nb) ∧ w'.cell? ⟨w.heap.size + 1, 1, none⟩ = some (.slice ab lb cb)) (first | (with_reducible exact ⟨a0d, a1d, b0d, b1d⟩) | (with_reducible exact ⟨a0e, a1e, b0e, b1e⟩) | (with_reducible exact ⟨a02, a12, b02, b12⟩) | (with_reducible exact ⟨a03, a13, b03, b13⟩) | (simp [go_sem, a03, a13, b03, b13]; done))
    (first
      | (go_at_call_of 112 (Value.agg #[.bool na, .slice aa la ca]); (with_reducible refine (complement_any na aa la ca A s (w := wd.drew) hA3 (by omega) (by omega) (by omega)).mono ?_); rintro e w2 ⟨gx, X, rfl, hgx, hRX, hTX, hbx⟩; have a02 := cell_keep a0e hbx; have a12 := cell_keep a1e hbx; have b02 := cell_keep b0e hbx; have b12 := cell_keep b1e hbx)
      | (go_at_call_of 112 (Value.agg #[.bool nb, .slice ab lb cb]); (with_reducible refine (complement_any nb ab lb cb B s (w := w2) (hB3.keep hbx) (by omega) (by omega) (by omega)).mono ?_); rintro e w3 ⟨gy, Y, rfl, hgy, hRY, hTY, hby⟩; have a03 := cell_keep a02 hby; have a13 := cell_keep a12 hby; have b03 := cell_keep b02 hby; have b13 := cell_keep b12 hby))
  have hb3 : Below w.heap.size w w3 := (hbwd.trans ((undrew hbx).mono (by show _ ≤ wd.heap.size; omega))).trans (hby.mono (by have := (undrew hbx).size; omega))
  have hlx : wd.heap.size ≤ w2.heap.size := (undrew hbx).size
  have hgx0 : wd.heap.size ≤ gx := hgx
  have hdz : wd.drew.heap.size = wd.heap.size := rfl
  have hgy0 : wd.heap.size ≤ gy := by omega
  have hne : gx ≠ gy := by have := hRX.lt; omega
  have hRX3 : Rw w3 gx X := hRX.keep' hby
  have P33 : Hid (w3.heap[w.heap.size + 2]? = some (.cells #[.bool false, .slice none 0 0] 24 (0, 0))) := hid (heap_keep (heap_keep HP3d.out (undrew hbx)) hby)
  obtain ⟨hXl, hXo, cx, hXv⟩ := hTX
  obtain ⟨hYl, hYo, cy, hYv⟩ := hTY
  have HXl := hid hXl
  have HYl := hid hYl
  have HX := hid (tcl_unique hXl hXo hXv)
  have HY := hid (tcl_unique hYl hYo hYv)
  have HA := hid (abs_lt_P (n := na) hA.ok (show (tl A).length ≤ s - 1 by omega))
  have HB := hid (abs_lt_P (n := nb) hB.ok (show (tl B).length ≤ s - 1 by omega))
  have hs0 : 0 < s := by omega
  clear hXl hYl hXv hYv hAs hBs a0d a1d b0d b1d a0e a1e b0e b1e a02 a12 b02 b12 a03 a13 b03 b13 hA2 hB2 hA3 hB3 hbx hby hRX HP3d hbwd hgx hgy
  go_wp2
  go_loopw [36] (fun i wr => ∃ (k : Nat) (M : List Nat), k ≤ s ∧ i = .int .i64 (k : Int) ∧ Hid (M.length = k) ∧ Ok M ∧ Hid (∀ j, j < k → dg M j = opn (dg X j) (dg Y j)) ∧
      Rw wr gx (M ++ X.drop k) ∧ Rw wr gy Y ∧ Hid (wr.heap[w.heap.size + 2]? = some (.cells #[.bool false, .slice none 0 0] 24 (0, 0))) ∧ Below w.heap.size w wr) (fun i _ => s - (intOf i).toNat)
  case atStart => exact ⟨0, [], by omega, rfl, hid rfl, Ok.nil, hid (by omega), by simpa using hRX3, hRY, P33, hb3⟩
  case round =>
    obtain ⟨k, M, hk, rfl, hM, hok, hval, hRw, hRv, hP, hB1⟩ := hrel
    clear hRX3 hRY P33 hb3
    by_cases hlt : k < s
    · have hlen : k < (M ++ X.drop k).length := by rw [len_mid _ X _ hM.out (by rw [HXl.out]; omega), HXl.out]; omega
      have hcur := hRw.cell k hlen
      rw [dg_mid _ X _ hM.out] at hcur
      have hcy := hRv.cell k (by rw [HYl.out]; omega)
      have hfr := hRw.free k
      have hx := hXo.dg k
      have hy := hYo.dg k
      clear hlen
      obtain ⟨x, hxx⟩ : ∃ x, x = dg X k := ⟨_, rfl⟩
      obtain ⟨y, hyy⟩ : ∃ y, y = dg Y k := ⟨_, rfl⟩
      have HXX := hid hxx
      have HYY := hid hyy
      rw [← hxx] at hcur hx
      rw [← hyy] at hcy hy
      clear hxx hyy
      go_wp2_with fail
      go_region_with ((go_at_call 91; refine (hop.call x y _ hx hy).mono ?_; rintro e w5 ⟨rfl, rfl⟩))
      all_goals (go_wp2; go_roundw)
      all_goals first
        | (simp [intOf]; omega; done)
        | refine ⟨k + 1, M ++ [opn x y], by omega, by go_num, hid (by rw [List.length_append, hM.out]; rfl), hok.snoc (hop.even.lt x y hx hy), hid ?_, ?_, hRv.drew.other (Ne.symm hne) _, hid ((Below.heap_setCell _ _ _ _ (show w.heap.size + 2 ≠ gx by omega)).trans hP.out), hB1.drew.setCell (by show w.heap.size ≤ gx; omega) _⟩
      all_goals first
        | (intro j hj
           rcases Nat.lt_or_ge j k with h | h
           · rw [dg_append_left _ _ _ (by rw [hM.out]; exact h)]; exact hval.out j h
           · obtain rfl : j = k := by omega
             rw [dg_append_right _ _ _ (by rw [hM.out]; exact h), hM.out, Nat.sub_self, ← HXX.out, ← HYY.out]; rfl)
        | (have := hRw.drew.set k (opn x y)
           rw [set_mid _ X _ _ hM.out (by rw [HXl.out]; omega)] at this
           exact this)
    · obtain rfl : k = s := by omega
      rw [List.drop_of_length_le (by rw [HXl.out]; exact Nat.le_refl _), List.append_nil] at hRw
      obtain ⟨hends, hback⟩ := back_bop hop.even hs0 (by omega) HA.out HB.out hM.out (fun j hj => by rw [hval.out j hj, HX.out, HY.out])
      have hcur := hRw.cell (k - 1) (by rw [hM.out]; omega)
      have hZr : Rd wr (some ⟨gx, 0, none⟩) k k M := by
        have := hRw.whole hok k (by rw [hM.out]; exact Nat.le_refl _) (by omega)
        rwa [hM.out] at this
      have hix : IntKind.i64.wrap ((k : Int) - 1) = ((k - 1 : Nat) : Int) := by rw [IntKind.wrap_i64]; omega
      have hsz := hRw.lt
      by_cases hz : dg M (k - 1) = 0
      · have hnum : num false M = bop opn (num na A) (num nb B) := by rw [← hback]; unfold back num; rw [if_pos hz]; simp
        have HN := hid hnum
        rw [hz] at hcur
        clear hends hback hnum hval HX HY HA HB hRv
        go_wp2_with (go_at_call 78; refine (fit_any _ _ _ _ M _ hZr).mono ?_; rintro e w3 ⟨n', ao', len', c, rfl, hfit, hb3⟩; obtain ⟨c0, c1, f0, f1⟩ := two_cells (heap_keep hP.out hb3))
        rw [HN.out] at hfit
        refine bodyPost_ret (v := .tuple #[.agg #[.bool n', .slice ao' len' len'], .int .i64 c]) (by simp [results, Tryd.results87, go_sem, c0, c1]) rfl ⟨_, _, _, _, rfl, ?_, ?_⟩
        · exact hfit.set2 (by have := hB1.size; omega) (by show w.heap.size + 1 + 1 < _; omega) (by show w.heap.size + 1 + 1 < _; omega) _ _
        · exact ((hB1.trans (hb3.mono hB1.size)).setCell (by show w.heap.size ≤ w.heap.size + 1 + 1; omega) _).setCell (by show w.heap.size ≤ w.heap.size + 1 + 1; omega) _
      · have hvM : (val M : Int) - (P k : Int) = bop opn (num na A) (num nb B) := by rw [← hback]; unfold back; rw [if_neg hz]
        have HN := hid hvM
        have HZ := hid (val_pos_of (Z := M) (k - 1) hz)
        clear hends hback hvM hval HX HY HA HB hRv hZr
        go_wp2_with (first
          | (go_at_call 113; refine (negate_any _ k k M _ hRw hok hM.out (by omega)).mono ?_; rintro e w2 ⟨N, cn, rfl, hN, hNo, hRN, hv, hg⟩; have HNN := hid (num_neg_of hv HZ.out HN.out); have HNl := hid hN; have hsz2 := hg.size; have hP2 := hid ((hg.block _ (by omega) (by intro h; simp at h; omega)).trans hP.out); have hNr := hRN.whole hNo k (by rw [HNl.out]; exact Nat.le_refl _) (by omega); rw [hN] at hNr; have hB2 := hB1.grown hg (by omega) (by intro k hk; simp at hk; omega); clear hN hv hg)
          | (go_at_call 78; refine (fit_any _ _ _ _ N _ hNr).mono ?_; rintro e w3 ⟨n', ao', len', c, rfl, hfit, hb3⟩; obtain ⟨c0, c1, f0, f1⟩ := two_cells (heap_keep hP2.out hb3)))
        rw [HNN.out] at hfit
        refine bodyPost_ret (v := .tuple #[.agg #[.bool n', .slice ao' len' len'], .int .i64 c]) (by simp [results, Tryd.results87, go_sem, c0, c1]) rfl ⟨_, _, _, _, rfl, ?_, ?_⟩
        · exact hfit.set2 (by omega) (by show w.heap.size + 1 + 1 < _; omega) (by show w.heap.size + 1 + 1 < _; omega) _ _
        · exact ((hB2.trans (hb3.mono (by omega))).setCell (by show w.heap.size ≤ w.heap.size + 1 + 1; omega) _).setCell (by show w.heap.size ≤ w.heap.size + 1 + 1; omega) _
end Go.Proofs.YtldafoojkimdeaaDoor
