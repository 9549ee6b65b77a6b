/- Walks: lowDigitsFirst. Walks: slices.Reverse at []byte. -/
import Derived.Test.YtldafoojkimdeaaDoorW12
import Derived.Test.YtldafoojkimdeaaDoorW15
import Derived.Test.YtldafoojkimdeaaDoorW25
namespace Go.Proofs.YtldafoojkimdeaaDoor
open Go.RowKit Lm

/-- The digits of a number, the lowest first; f is how many there may be. -/
def lowD (r : Nat) : Nat → Nat → List Nat
  | 0, _ => []
  | f + 1, v => if v = 0 then [] else v % r :: lowD r f (v / r)
theorem lowD_zero (r f : Nat) : lowD r f 0 = [] := by cases f <;> rfl
theorem lowD_step (r f v : Nat) (h : v ≠ 0) : lowD r (f + 1) v = v % r :: lowD r f (v / r) := by rw [lowD, if_neg h]

/-- A digit's letter. -/
def dch (d : Nat) : Nat := if d < 10 then 48 + d else 87 + d
def chs (E : List Nat) : List Value := E.map fun d : Nat => Value.int .u8 (dch d : Int)

theorem Tryd.info5 : (Tryd.prog.info? 5).map (fun i => (i.zero, i.size, i.bytes)) = some (some (.int .u8 0), 1, 1) := by kernel_rfl

/-- A slice of letters of the call's own that may grow. -/
def GrowB (B : Nat) (w : World) (v : Value) (E : List Nat) : Prop := w.ownsRow B 5 1 v E.length (chs E)

theorem digit_at' : ∀ d : Fin 36, (({ data := #[48, 49, 50, 51, 52, 53, 54, 55, 56, 57, 97, 98, 99, 100, 101, 102, 103, 104, 105, 106, 107, 108, 109, 110, 111, 112, 113, 114, 115, 116, 117, 118, 119, 120, 121, 122] } : ByteArray)[d.1]'(d.2)).toNat = dch d.1 := by decide
theorem digit_at (d : Nat) (h : d < 36) : (({ data := #[48, 49, 50, 51, 52, 53, 54, 55, 56, 57, 97, 98, 99, 100, 101, 102, 103, 104, 105, 106, 107, 108, 109, 110, 111, 112, 113, 114, 115, 116, 117, 118, 119, 120, 121, 122] } : ByteArray)[d]'h).toNat = dch d := digit_at' ⟨d, h⟩

theorem GrowB.ne {B : Nat} {w : World} {v : Value} {E : List Nat} {g : Nat} {Q : List Nat} (h : GrowB B w v E) (hQ : Rw w g Q) : some g ≠ v.ownBlock := by
  rcases h.2 with ⟨rfl, -⟩ | ⟨g', cap, cur, rfl, -, hgb, -⟩
  · simp [Value.ownBlock]
  · intro e
    simp [Value.ownBlock] at e
    subst e
    have := hQ.block
    rw [hgb] at this
    simp at this
theorem GrowB.le {B : Nat} {w : World} {v : Value} {E : List Nat} (h : GrowB B w v E) : ∀ k, v.ownBlock = some k → B ≤ k := by
  rcases h.2 with ⟨rfl, -⟩ | ⟨g', cap, cur, rfl, hB, -⟩
  · simp [Value.ownBlock]
  · intro k e
    simp [Value.ownBlock] at e
    omega
theorem GrowB.keep {B : Nat} {w w' : World} {v : Value} {E : List Nat} (h : GrowB B w v E) (hb : Below w.heap.size w w') : GrowB B w' v E :=
  World.ownsRow.kept h (row := none) ⟨hb.os, hb.tape, hb.output, hb.size, fun k hk _ => hb.block k hk⟩ (by cases v.ownBlock <;> simp)
theorem Rw.grownN {w w' : World} {g : Nat} {Q : List Nat} {row : Option Nat} (h : Rw w g Q) (hg : w.grownBy w' row) (hn : some g ≠ row) : Rw w' g Q :=
  ⟨by rw [hg.block g h.lt hn]; exact h.block⟩

def slen : Value → Nat
  | .slice _ n _ => n
  | _ => 0
theorem GrowB.slen {B : Nat} {w : World} {v : Value} {E : List Nat} (h : GrowB B w v E) : slen v = E.length := by
  rcases h.2 with ⟨rfl, hn⟩ | ⟨g', cap, cur, rfl, -⟩
  · exact hn.symm
  · rfl

theorem low_out {r wd V : Nat} {k x : Nat} (hx : x < r ^ (wd - k)) (hk : k ≤ wd) (h : k = wd ∨ (x = 0 ∧ V = 0)) : x + r ^ (wd - k) * V = V := by
  rcases h with h | ⟨rfl, rfl⟩
  · subst h
    rw [Nat.sub_self, Nat.pow_zero] at hx ⊢
    omega
  · simp
theorem low_more {r f n m : Nat} {E E' F : List Nat} (h : E ++ lowD r f n = F) (hn : n ≠ 0) (hf : n < 2 ^ f) (h' : E' ++ lowD r m 0 = F) : E.length + 1 ≤ E'.length := by
  rw [lowD_zero, List.append_nil] at h'
  cases f with
  | zero => simp at hf; omega
  | succ f =>
    rw [h', ← h, lowD_step _ _ _ hn]
    simp

theorem chs_snoc (E : List Nat) (d : Nat) : chs E ++ [.int .u8 (dch d : Int)] = chs (E ++ [d]) := by simp [chs]

theorem low_go {r k wd x V f : Nat} (h2 : 2 ≤ r) (hk : k < wd) (hx : x < r ^ (wd - k)) (hn : x + r ^ (wd - k) * V ≠ 0) (hf : x + r ^ (wd - k) * V < 2 ^ f) :
    ∃ f', f = f' + 1 ∧ x / r < r ^ (wd - (k + 1)) ∧ x / r + r ^ (wd - (k + 1)) * V < 2 ^ f' ∧ lowD r f (x + r ^ (wd - k) * V) = x % r :: lowD r f' (x / r + r ^ (wd - (k + 1)) * V) := by
  obtain ⟨m, hm⟩ : ∃ m, wd - k = m + 1 := ⟨wd - k - 1, by omega⟩
  have hm' : wd - (k + 1) = m := by omega
  rw [hm] at hx hn hf ⊢
  rw [hm']
  have e1 : x + r ^ (m + 1) * V = x + r * (r ^ m * V) := by rw [Nat.pow_succ]; grind
  have hd : (x + r ^ (m + 1) * V) / r = x / r + r ^ m * V := by rw [e1, Nat.add_mul_div_left _ _ (by omega)]
  have hmo : (x + r ^ (m + 1) * V) % r = x % r := by rw [e1, Nat.add_mul_mod_self_left]
  obtain ⟨f', rfl⟩ : ∃ f', f = f' + 1 := by
    cases f with
    | zero => simp at hf; omega
    | succ f' => exact ⟨f', rfl⟩
  refine ⟨f', rfl, ?_, ?_, ?_⟩
  · rw [Nat.div_lt_iff_lt_mul (by omega), ← Nat.pow_succ]; exact hx
  · rw [← hd, Nat.div_lt_iff_lt_mul (by omega)]
    have : 2 ^ (f' + 1) = 2 ^ f' * 2 := Nat.pow_succ _ _
    have h3 : 2 ^ f' * 2 ≤ 2 ^ f' * r := Nat.mul_le_mul_left _ h2
    omega
  · rw [lowD_step _ _ _ hn, hmo, hd]

set_option maxRecDepth 100000 in
set_option maxHeartbeats 2000000 in
theorem lowDigits_any (ao : Option Addr) (len cap : Nat) (A : List Nat) (r : Nat) (w : World) (hA : Rd w ao len cap A) (tA : Top A) (hl : len ≤ 128) (h2 : 2 ≤ r) (h36 : r ≤ 36) :
    Calls Tryd.prog 106 #[.slice ao len cap, .int .i64 (r : Int)] w fun e w' => ∃ v, e = .returned v ∧ GrowB w.heap.size w' v (lowD r 4096 (val A)) ∧ Below w.heap.size w w' := by
  obtain ⟨i0, hi, hz0, hz1, hz2⟩ := info_parts Tryd.info5
  go_enter Tryd.func106, Tryd.ntmps106
  go_wp2_with (go_at_call 124; refine (groupOf_any r _ h2 h36).mono ?_; rintro e w2 ⟨wd, p, rfl, hp, hw1, hw31, hp1, hpb, rfl⟩; have HP := hid hp; clear hp)
  have hpl : p < 4294967296 := by omega
  go_loopw [0, 7] (fun a b wr => ∃ (ao : Option Addr) (len cap : Nat) (M E : List Nat), a = .slice ao len cap ∧ Rd wr ao len cap M ∧ Top M ∧ len ≤ 128 ∧ GrowB w.heap.size wr b E ∧ E.length ≤ 4096 ∧ Hid (E ++ lowD r (4096 - E.length) (val M) = lowD r 4096 (val A)) ∧ Hid (val M < 2 ^ (4096 - E.length)) ∧ Below w.heap.size w wr) (fun _ b _ => 4096 - slen b)
  case atStart =>
    refine ⟨ao, len, cap, A, [], rfl, hA, tA, hl, World.ownsRow_nil _ _ _ _, Nat.zero_le _, hid rfl, hid ?_, Below.refl _ _⟩
    have h1 := val_lt hA.ok
    rw [P_two] at h1
    exact Nat.lt_of_lt_of_le h1 (Nat.pow_le_pow_right (by decide) (by rw [hA.size, List.length_nil]; omega))
  case round =>
    obtain ⟨ao', len', cap', M, E, rfl, hM, tM, hlen, hG, hE, hlow, hlt, hbel⟩ := hrel
    by_cases h0 : 0 < len'
    · have HM0 : Hid (val M ≠ 0) := hid (fun e => by
        have h3 := top_zero tM e
        have := hM.size
        rw [h3] at this; simp at this; omega)
      go_wp2_with (first
        | (go_at_call 114; refine (divideSmall_any _ _ _ M p _ hM (by omega) (by omega) hpl).mono ?_; rintro e w3 ⟨g, Q, x, rfl, hg, hQ, hQl, hQo, hval, hx, hb3⟩; have hQr := hQ.whole hQo Q.length (Nat.le_refl _) (by omega); have HQL := hid hQl; have HV := hid hval; have hqs : (tl Q).length ≤ 128 := (by have := tl_length_le Q; omega); clear hQl hval)
        | (go_at_call 71; refine (trim_any _ _ _ Q _ hQr).mono ?_; rintro e w5 ⟨rfl, rfl⟩))
      go_loopw [7, 9, 10] (fun b gr i ws => ∃ (k x' : Nat) (E' : List Nat), k ≤ wd ∧ i = .int .i64 (k : Int) ∧ gr = .int .u32 (x' : Int) ∧ x' ≤ 4294967295 ∧ Hid (x' < r ^ (wd - k)) ∧ GrowB w.heap.size ws b E' ∧ E'.length ≤ 4096 ∧ E.length + k ≤ E'.length ∧ Rw ws g Q ∧
          Hid (E' ++ lowD r (4096 - E'.length) (x' + r ^ (wd - k) * val Q) = lowD r 4096 (val A)) ∧ Hid (x' + r ^ (wd - k) * val Q < 2 ^ (4096 - E'.length)) ∧ Below w.heap.size w ws) (fun _ _ i _ => wd - (intOf i).toNat)
      case atStart =>
        have e1 : x + r ^ (wd - 0) * val Q = val M := by rw [HV.out, HP.out, Nat.sub_zero, Nat.mul_comm]; omega
        refine ⟨0, x, E, by omega, rfl, rfl, by omega, hid (by rw [Nat.sub_zero, ← HP.out]; exact hx), hG.keep (Below.mono hb3 (Nat.le_refl _)), hE, by omega, hQ, hid ?_, hid ?_, hbel.trans (Below.mono hb3 hbel.size)⟩
        · rw [e1]; exact hlow.out
        · rw [e1]; exact hlt.out
      case round =>
        obtain ⟨k, x', E', hk, rfl, rfl, hx'b, hx', hG', hE', hEk, hQ', hlow', hlt', hb4⟩ := hrel
        by_cases hkw : k < wd
        · by_cases hx0 : 0 < x'
          · have hm1 : 0 ≤ (x' : Int) % (r : Int) ∧ (x' : Int) % (r : Int) < 36 := ⟨Int.emod_nonneg _ (by omega), Int.lt_of_lt_of_le (Int.emod_lt_of_pos _ (by omega)) (by omega)⟩
            go_wp2_with (at_builtin; refine wpList_append_own _ rfl _ _ 117 rfl w.heap.size 5 i0 (.int .u8 0) 1 1 Tryd.underlying117 hi hz0 hz1 hz2 rfl (by decide) _ _ _ rfl (hG'.alloc _) ⟨wr.heap.size, 0, none⟩ 1 1 [.int .u8 (dch (x' % r) : Int)] rfl rfl ?c1 ?c2 ?c3 ?c4 ?c5 ?_)
            case c1 =>
              intro j u hj
              match j, hj with
              | 0, hj => simp at hj; subst hj; rw [← digit_at _ (Nat.lt_of_lt_of_le (Nat.mod_lt _ (by omega)) h36)]; simp [Addr.add]
            case c2 => intro u hu; simp at hu; subst hu; rfl
            case c3 => unfold maxLen; omega
            case c4 => omega
            case c5 => have := hb4.size; simp; omega
            intro v' w5 hown' hgrow _
            have hb5 : Below w.heap.size w w5 := (hb4.alloc (by have := hb4.size; omega) _).grown hgrow (by have := hb4.size; simp; omega) hG'.le
            have hQ5 : Rw w5 g Q := (hQ'.alloc _).grownN hgrow (hG'.ne hQ')
            clear hgrow
            have hfn : 0 ≤ (x' : Int) / (r : Int) := Int.ediv_nonneg (by omega) (by omega)
            have hfm : (x' : Int) / (r : Int) ≤ 4294967295 := Int.le_trans (Int.ediv_le_self _ (by omega)) (by omega)
            go_wp2
            go_roundw
            case rel =>
              obtain ⟨f', hf', hx6, hn6, hlow6⟩ := low_go h2 hkw hx'.out (by omega) hlt'.out
              have hf6 : 4096 - (E' ++ [x' % r]).length = f' := by simp; omega
              refine ⟨k + 1, x' / r, E' ++ [x' % r], by omega, by go_num, by go_num, by omega, hid hx6, ?_, by simp; omega, by simp; omega, hQ5, hid ?_, hid ?_, hb5⟩
              · unfold GrowB
                rw [chs_snoc] at hown'
                rw [List.length_append]; exact hown'
              · rw [hf6, List.append_assoc, List.singleton_append, ← hlow6]; exact hlow'.out
              · rw [hf6]; exact hn6
            case measure => simp [intOf]; omega
          · have hm1 : 0 ≤ (x' : Int) % (r : Int) ∧ (x' : Int) % (r : Int) < 36 := ⟨Int.emod_nonneg _ (by omega), Int.lt_of_lt_of_le (Int.emod_lt_of_pos _ (by omega)) (by omega)⟩
            by_cases hq0 : 0 < (tl Q).length
            · have HV0 : Hid (val Q ≠ 0) := hid (fun e => by
                have := top_zero (tl_top Q) (by rw [tl_val]; exact e)
                rw [this] at hq0; simp at hq0)
              go_wp2_with (at_builtin; refine wpList_append_own _ rfl _ _ 117 rfl w.heap.size 5 i0 (.int .u8 0) 1 1 Tryd.underlying117 hi hz0 hz1 hz2 rfl (by decide) _ _ _ rfl (hG'.alloc _) ⟨wr.heap.size, 0, none⟩ 1 1 [.int .u8 (dch (x' % r) : Int)] rfl rfl ?c1 ?c2 ?c3 ?c4 ?c5 ?_)
              case c1 =>
                intro j u hj
                match j, hj with
                | 0, hj => simp at hj; subst hj; rw [← digit_at _ (Nat.lt_of_lt_of_le (Nat.mod_lt _ (by omega)) h36)]; simp [Addr.add]
              case c2 => intro u hu; simp at hu; subst hu; rfl
              case c3 => unfold maxLen; omega
              case c4 => omega
              case c5 => have := hb4.size; simp; omega
              intro v' w5 hown' hgrow _
              have hb5 : Below w.heap.size w w5 := (hb4.alloc (by have := hb4.size; omega) _).grown hgrow (by have := hb4.size; simp; omega) hG'.le
              have hQ5 : Rw w5 g Q := (hQ'.alloc _).grownN hgrow (hG'.ne hQ')
              clear hgrow
              have hfn : 0 ≤ (x' : Int) / (r : Int) := Int.ediv_nonneg (by omega) (by omega)
              have hfm : (x' : Int) / (r : Int) ≤ 4294967295 := Int.le_trans (Int.ediv_le_self _ (by omega)) (by omega)
              go_wp2
              go_roundw
              case rel =>
                obtain ⟨f', hf', hx6, hn6, hlow6⟩ := low_go h2 hkw hx'.out (by have : 0 < r ^ (wd - k) * val Q := Nat.mul_pos (Nat.pow_pos (by omega)) (by have := HV0.out; omega); omega) hlt'.out
                have hf6 : 4096 - (E' ++ [x' % r]).length = f' := by simp; omega
                refine ⟨k + 1, x' / r, E' ++ [x' % r], by omega, by go_num, by go_num, by omega, hid hx6, ?_, by simp; omega, by simp; omega, hQ5, hid ?_, hid ?_, hb5⟩
                · unfold GrowB
                  rw [chs_snoc] at hown'
                  rw [List.length_append]; exact hown'
                · rw [hf6, List.append_assoc, List.singleton_append, ← hlow6]; exact hlow'.out
                · rw [hf6]; exact hn6
              case measure => simp [intOf]; omega
            · have HV0 : Hid (val Q = 0) := hid (by
                have h3 : tl Q = [] := List.eq_nil_of_length_eq_zero (by omega)
                rw [← tl_val, h3]; rfl)
              go_wp2
              go_roundw
              case rel =>
                have hn := low_out (V := val Q) hx'.out hk (.inr ⟨by omega, HV0.out⟩)
                refine ⟨some ⟨g, 0, none⟩, (tl Q).length, Q.length, tl Q, E', rfl, (hQ'.whole hQo Q.length (Nat.le_refl _) (by have := HQL.out; omega)).tl, tl_top Q, hqs, hG', hE', hid ?_, hid ?_, hb4⟩
                · rw [tl_val, ← hn]; exact hlow'.out
                · rw [tl_val, ← hn]; exact hlt'.out
              case measure => 
                have hn := low_out (V := val Q) hx'.out hk (.inr ⟨by omega, HV0.out⟩)
                have h9 := hlow'.out
                rw [hn, HV0.out] at h9
                have h8 := low_more hlow.out HM0.out hlt.out h9
                have h7 := hG'.slen
                have h6 := hG.slen
                simp; omega
        · go_wp2
          go_roundw
          case rel =>
            have hn := low_out (V := val Q) hx'.out hk (.inl (by omega))
            refine ⟨some ⟨g, 0, none⟩, (tl Q).length, Q.length, tl Q, E', rfl, (hQ'.whole hQo Q.length (Nat.le_refl _) (by have := HQL.out; omega)).tl, tl_top Q, hqs, hG', hE', hid ?_, hid ?_, hb4⟩
            · rw [tl_val, ← hn]; exact hlow'.out
            · rw [tl_val, ← hn]; exact hlt'.out
          case measure => 
            have h7 := hG'.slen
            have h6 := hG.slen
            simp; omega
    · have HM : Hid (val M = 0) := hid (by
        have h3 : M = [] := List.eq_nil_of_length_eq_zero (by have := hM.size; omega)
        rw [h3]; rfl)
      go_wp2
      go_ret
      refine ⟨u7, rfl, ?_, hbel⟩
      have h9 := hlow.out
      rw [HM.out, lowD_zero, List.append_nil] at h9
      rw [← h9]; exact hG
end Go.Proofs.YtldafoojkimdeaaDoor

namespace Go.Proofs.YtldafoojkimdeaaDoor
open Go.RowKit Lm

def bys (L : List Nat) : List Value := L.map fun x : Nat => Value.int .u8 (x : Int)
theorem bys_len (L : List Nat) : (bys L).length = L.length := by simp [bys]
theorem bys_get (L : List Nat) (i : Nat) (h : i < L.length) : (bys L)[i]? = some (.int .u8 (dg L i : Int)) := by
  unfold bys dg; rw [getD_in _ _ h]; simp [h]
theorem bys_set (L : List Nat) (i : Nat) (x : Nat) : (bys L).set i (.int .u8 (x : Int)) = bys (L.set i x) := by
  unfold bys; rw [List.map_set]

/-- A slice of bytes of the call's own that may grow. -/
def GrowC (B : Nat) (w : World) (v : Value) (L : List Nat) : Prop := w.ownsRow B 5 1 v L.length (bys L)

/-- So it reads when k at each end are exchanged. -/
def Turned (L D : List Nat) (k : Nat) : Prop := D.length = L.length ∧ ∀ t, t < L.length → dg D t = if t < k ∨ L.length - 1 - t < k then dg L (L.length - 1 - t) else dg L t

theorem turned_zero (L : List Nat) : Turned L L 0 := ⟨rfl, fun t _ => by simp⟩
theorem turned_step {L D : List Nat} {k j : Nat} (h : Turned L D k) (hj : k + j + 1 = L.length) (hkj : k < j) : Turned L ((D.set k (dg D j)).set j (dg D k)) (k + 1) := by
  obtain ⟨hl, h⟩ := h
  refine ⟨by simp [hl], fun t ht => ?_⟩
  by_cases h1 : j = t
  · subst h1
    rw [dg_set_self _ _ _ (by simp; omega), h k (by omega), if_neg (by omega), if_pos (by omega)]
    congr 1; omega
  · rw [dg_set_ne _ _ _ _ h1]
    by_cases h2 : k = t
    · subst h2
      rw [dg_set_self _ _ _ (by omega), h j (by omega), if_neg (by omega), if_pos (by omega)]
      congr 1; omega
    · rw [dg_set_ne _ _ _ _ h2, h t ht]
      by_cases h3 : t < k ∨ L.length - 1 - t < k
      · rw [if_pos h3, if_pos (by omega)]
      · rw [if_neg h3, if_neg (by omega)]
theorem turned_end {L D : List Nat} {k : Nat} (h : Turned L D k) (hk : L.length ≤ 2 * k + 1) : D = L.reverse := by
  obtain ⟨hl, h⟩ := h
  apply List.ext_getElem (by simp [hl])
  intro t h1 h2
  have h3 := h t (by omega)
  unfold dg at h3
  rw [getD_in _ _ h1, getD_in _ _ (by omega)] at h3
  rw [h3, List.getElem_reverse]
  by_cases h4 : t < k ∨ L.length - 1 - t < k
  · rw [if_pos h4]
  · rw [if_neg h4, getD_in _ _ (by omega)]
    congr 1; omega

set_option maxRecDepth 100000 in
set_option maxHeartbeats 2000000 in
theorem reverse_any (B : Nat) (v : Value) (L : List Nat) (w : World) (hG : GrowC B w v L) (hl : L.length ≤ 5000) :
    Calls Tryd.prog 107 #[v] w fun e w' => e = .returned (.tuple #[]) ∧ GrowC B w' v L.reverse ∧ Below B w w' := by
  rcases hG.2 with ⟨rfl, hn0⟩ | ⟨g, cap, cur, rfl, hBg, hgb, hnc, hcm, hcs, htk⟩
  · have hL : L = [] := List.eq_nil_of_length_eq_zero hn0
    subst hL
    clear hn0
    go_enter Tryd.func107, Tryd.ntmps107
    go_wp2
    go_loopw [2, 3] (fun i j wr => i = .int .i64 0 ∧ j = .int .i64 (-1) ∧ Hid (wr = w)) (fun i _ _ => 0)
    case atStart => exact ⟨rfl, rfl, hid rfl⟩
    case round =>
      obtain ⟨rfl, rfl, hwr⟩ := hrel
      obtain rfl := hwr.out
      clear hwr
      go_wp2
      go_end0
      exact ⟨rfl, hG, Below.refl _ _⟩
  · clear hgb hnc hcm hcs htk
    go_enter Tryd.func107, Tryd.ntmps107
    go_wp2
    go_loopw [2, 3] (fun i j wr => ∃ (k : Nat) (jz : Int) (D : List Nat), i = .int .i64 (k : Int) ∧ j = .int .i64 jz ∧ jz ≤ (L.length : Int) - 1 - k ∧ (L.length : Int) - 1 - k ≤ jz ∧ Hid (Turned L D k) ∧
        wr.ownsRow B 5 1 (.slice (some ⟨g, 0, none⟩) L.length cap) L.length (bys D) ∧ Below B w wr) (fun i _ _ => L.length - (intOf i).toNat)
    case atStart => exact ⟨0, _, L, rfl, rfl, by omega, by omega, hid (turned_zero L), hG, Below.refl _ _⟩
    case round =>
      obtain ⟨k, jz, D, rfl, rfl, hj1, hj2, hT, hown, hbel⟩ := hrel
      by_cases hlt : (k : Int) < jz
      · obtain ⟨jn, rfl⟩ : ∃ jn : Nat, jz = (jn : Int) := ⟨jz.toNat, by omega⟩
        have hck := hown.cellAt k (by omega)
        have hcj := hown.cellAt jn (by omega)
        rw [bys_get _ _ (by have := hT.out.1; omega)] at hck hcj
        have hfk := hown.frozenAt k
        have hfj := hown.frozenAt jn
        go_wp2_with fail
        go_region
        go_wp2
        go_roundw
        case rel =>
          have h1 := (hown.stored k (Value.int .u8 (dg D jn : Int))).1
          rw [bys_set] at h1
          have h2 := (h1.stored jn (Value.int .u8 (dg D k : Int))).1
          rw [bys_set] at h2
          exact ⟨k + 1, _, _, by go_num, rfl, by omega, by omega, hid (turned_step hT.out (by omega) (by omega)), h2, ((hbel.setCell hBg _).setCell hBg _).drew⟩
        case measure => simp [intOf]; omega
      · go_wp2
        go_end0
        have := turned_end hT.out (by omega)
        subst this
        refine ⟨rfl, ?_, hbel⟩
        unfold GrowC
        rw [List.length_reverse]; exact hown
theorem chs_bys (E : List Nat) : chs E = bys (E.map dch) := by simp [chs, bys, List.map_map, Function.comp_def]
theorem GrowB.bytes {B : Nat} {w : World} {v : Value} {E : List Nat} (h : GrowB B w v E) : GrowC B w v (E.map dch) := by
  unfold GrowC; rw [List.length_map, ← chs_bys]; exact h
end Go.Proofs.YtldafoojkimdeaaDoor
