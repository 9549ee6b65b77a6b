/- Walks: Gcd where nothing is too long. -/
import Derived.Test.YtldafoojkimdeaaDoorW50
namespace Go.Proofs.YtldafoojkimdeaaDoor
open Go.RowKit Lm

theorem Rd.same {w : World} {ao : Option Addr} {len cap : Nat} {Y Z : List Nat} (h : Rd w ao len cap Y) (k : Rd w ao len cap Z) : Y = Z := by
  have hl : Y.length = Z.length := by rw [h.size, k.size]
  have hd : ∀ i, i < len → dg Y i = dg Z i := by
    intro i hi
    obtain ⟨b, off, e, hc⟩ := h.cells (by omega)
    obtain ⟨b', off', e', hc'⟩ := k.cells (by omega)
    rw [e] at e'
    simp only [Option.some.injEq, Addr.mk.injEq, and_true] at e'
    obtain ⟨e1, e2⟩ := e'
    subst e1 e2
    have := (hc i hi).symm.trans (hc' i hi)
    simp only [Option.some.injEq, Value.int.injEq, true_and] at this
    omega
  refine List.ext_getElem hl ?_
  intro i h1 h2
  have := hd i (by rw [← h.size]; exact h1)
  unfold dg at this
  rw [getD_in _ _ h1, getD_in _ _ h2] at this
  exact this
/-- The number that a slice stands for. -/
noncomputable def rval (y : Value) (w : World) : Nat :=
  match y with
  | .slice ao len cap => by
    classical
    exact if h : ∃ Y, Rd w ao len cap Y then val (Classical.choose h) else 0
  | _ => 0
theorem rval_eq {w : World} {ao : Option Addr} {len cap : Nat} {Y : List Nat} (h : Rd w ao len cap Y) : rval (.slice ao len cap) w = val Y := by
  have hx : ∃ Y, Rd w ao len cap Y := ⟨Y, h⟩
  unfold rval
  simp only
  rw [dif_pos hx, (Classical.choose_spec hx).same h]

theorem gcd_step {x y q r : Nat} (h : x = q * y + r) (hr : r < y) : Nat.gcd y r = Nat.gcd x y := by
  have e : r = x % y := by rw [h, Nat.mul_comm, Nat.mul_add_mod, Nat.mod_eq_of_lt hr]
  rw [e, Nat.gcd_comm x y, Nat.gcd_rec y x, Nat.gcd_comm]

set_option maxRecDepth 100000 in
set_option maxHeartbeats 4000000 in
theorem gcd_good (na : Bool) (aa : Option Addr) (la ca : Nat) (A : List Nat) (nb : Bool) (ab : Option Addr) (lb cb : Nat) (B : List Nat) (w : World) (hA : Rd w aa la ca A) (hB : Rd w ab lb cb B) (hbad : (tooLong A || tooLong B) = false) :
    Calls Tryd.prog 51 #[.agg #[.bool na, .slice aa la ca], .agg #[.bool nb, .slice ab lb cb]] w fun e w' => ∃ n' ao' len' c, e = .returned (.tuple #[.agg #[.bool n', .slice ao' len' len'], .int .i64 c]) ∧ Fits w w' n' ao' len' c ((Nat.gcd (val A) (val B) : Nat) : Int) ∧ Below w.heap.size w w' := by
  have hsA := small_len A (by simp at hbad; exact hbad.1)
  have hsB := small_len B (by simp at hbad; exact hbad.2)
  have HG := hid (show Nat.gcd (val (tl A)) (val (tl B)) = Nat.gcd (val A) (val B) by rw [tl_val, tl_val])
  go_enter Tryd.func51, Tryd.ntmps51
  go_wp2_with (go_at_call 77; refine (long2_any _ na aa la ca A nb ab lb cb B _ ((((hA.alloc _).alloc _).alloc _).alloc _) ((((hB.alloc _).alloc _).alloc _).alloc _) (by simp [go_sem]) (by simp [go_sem]) (by simp [go_sem]) (by simp [go_sem])).mono ?_; rintro e w1 ⟨rfl, hb1⟩; rw [hbad]; obtain ⟨p1, p2, p3, hbw⟩ := hp4 _ _ _ _ _ hb1; obtain ⟨a0, a1, _, _⟩ := two_cells p1; obtain ⟨b0, b1, _, _⟩ := two_cells p2; have hA1 := hA.keep hbw; have hB1 := hB.keep hbw)
  clear hbad
  have hlt1 : w.heap.size + 4 ≤ w1.heap.size := by have := hb1.size; simp at this ⊢; omega
  have HP3 := hid p3
  clear hb1 p1 p2 p3
  go_region_held3 (fun w' => w'.cell? ⟨w.heap.size, 1, none⟩ = some (.slice aa la ca) ∧ w'.cell? ⟨w.heap.size + 1, 1, none⟩ = some (.slice ab lb cb)) (refine ⟨?_, ?_⟩ <;> first | assumption | (simp [go_sem]; assumption))
    (first
      | (go_at_call_of 71 (Value.slice aa la ca); refine (trim_any _ _ _ A _ ?_).mono ?_; (first | exact hA1 | exact hA1.drew); rintro e w5 ⟨rfl, rfl⟩)
      | (go_at_call_of 71 (Value.slice ab lb cb); refine (trim_any _ _ _ B _ ?_).mono ?_; (first | exact hB1 | exact hB1.drew); rintro e w5 ⟨rfl, rfl⟩))
  have hA2 := hA1.tl.drew
  have hB2 := hB1.tl.drew
  have HP4 : Hid (w1.drew.heap[w.heap.size + 2]? = some (.cells #[.bool false, .slice none 0 0] 24 (0, 0))) := HP3
  have hbd : Below w.heap.size w w1.drew := hbw.drew
  have tA := tl_top A
  have tB := tl_top B
  clear HP3 hA1 hB1 hbw a0 a1 b0 b1
  generalize w1.drew = wd at *
  go_wp2_with fail
  go_loopw [6, 7] (fun x y wr => ∃ xo xl xc X yo yl yc Y, x = .slice xo xl xc ∧ y = .slice yo yl yc ∧ Rd wr xo xl xc X ∧ Rd wr yo yl yc Y ∧ Top X ∧ Top Y ∧ xl ≤ 300 ∧ yl ≤ 300 ∧ Hid (Nat.gcd (val X) (val Y) = Nat.gcd (val A) (val B)) ∧
      Hid (wr.heap[w.heap.size + 2]? = some (.cells #[.bool false, .slice none 0 0] 24 (0, 0))) ∧ Below w.heap.size w wr) (fun _ y wr => rval y wr)
  case atStart => exact ⟨_, _, _, tl A, _, _, _, tl B, rfl, rfl, hA2, hB2, tA, tB, by omega, by omega, HG, HP4, hbd⟩
  case round =>
    obtain ⟨xo, xl, xc, X, yo, yl, yc, Y, rfl, rfl, hX, hY, tX, tY, hxl, hyl, hg, hP, hB3⟩ := hrel
    clear hA2 hB2 HP4 hbd tA tB
    by_cases hz : 0 < yl
    · have hY0 : 0 < val Y := by
        rcases Nat.eq_zero_or_pos (val Y) with h | h
        · have e := top_zero tY h
          have := hY.size
          rw [e] at this; simp at this; omega
        · exact h
      have HY0 := hid hY0
      clear hY0
      go_wp2_with (first
        | (go_at_call 94; refine (divide_full _ _ _ X _ _ _ Y _ hX hY tX tY hxl hyl HY0.out).mono ?_; rintro e w5 ⟨qo, ql, qc, ro, rl, rc, rfl, ⟨Q, R, hQ, hR, hv, hlt, hql, hrl⟩, hb5⟩; have HV := hid hv; have HLT := hid hlt; clear hv hlt)
        | (go_at_call 71; refine (trim_any _ _ _ R _ hR).mono ?_; rintro e w6 ⟨rfl, rfl⟩))
      have hY5 := hY.keep hb5
      have hP5 := hid (heap_keep hP.out hb5)
      have hB5 := hB3.trans (hb5.mono hB3.size)
      have hrl2 : (tl R).length ≤ 300 := by have h1 := tl_length_le R; have h2 := hR.size; omega
      have hgs := hid (gcd_step HV.out HLT.out)
      go_roundw
      case rel => exact ⟨_, _, _, Y, _, _, _, tl R, rfl, rfl, hY5, hR.tl, tY, tl_top R, hyl, hrl2, hid (by rw [tl_val, hgs.out, hg.out]), hP5, hB5⟩
      case measure =>
        rw [rval_eq hR.tl, rval_eq hY, tl_val]
        exact HLT.out
    · have hYn : Y = [] := List.eq_nil_of_length_eq_zero (by rw [hY.size]; omega)
      have hgv : num false X = ((Nat.gcd (val A) (val B) : Nat) : Int) := by
        have := hg.out
        rw [hYn, val_nil, Nat.gcd_zero_right] at this
        unfold num; simp [this]
      have HGV := hid hgv
      clear hgv
      go_wp2_with (go_at_call 78; refine (fit_any _ _ _ _ X _ hX).mono ?_; rintro e w3 ⟨n', ao', len', c, rfl, hfit, hb3⟩; obtain ⟨c0, c1, f0, f1⟩ := two_cells (heap_keep hP.out hb3))
      rw [HGV.out] at hfit
      have hs := lt_of_block hP.out
      refine bodyPost_ret (v := .tuple #[.agg #[.bool n', .slice ao' len' len'], .int .i64 c]) (by simp [results, Tryd.results51, go_sem, c0, c1]) rfl ⟨_, _, _, _, rfl, ?_, ?_⟩
      · exact hfit.set2 (by omega) (by show w.heap.size + 1 + 1 < _; omega) (by show w.heap.size + 1 + 1 < _; omega) _ _
      · exact ((hB3.trans (hb3.mono hB3.size)).setCell (by show w.heap.size ≤ w.heap.size + 1 + 1; omega) _).setCell (by show w.heap.size ≤ w.heap.size + 1 + 1; omega) _
end Go.Proofs.YtldafoojkimdeaaDoor
