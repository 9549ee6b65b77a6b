/- Walks: eachVariable at the function that Variables hands on. No condition but those that each theorem names. -/
import Derived.Test.YtpdclfihleoigaaDoorT8
namespace Go.Proofs.YtpdclfihleoigaaDoor
open Go.RowKit Go.Maps

mutual
/-- The variables of a term, behind others. -/
def varsT : Tm → List Int → List Int
  | .mk k _ _ _ v l, S => varsR l (if k = 1 then addN S v else S)
def varsR : List Tm → List Int → List Int
  | [], S => S
  | t :: l, S => varsR l (varsT t S)
end
theorem varsT_args (t : Tm) (S : List Int) : varsT t S = varsR t.args (if t.kind = 1 then addN S t.var else S) := by cases t with
  | mk k n u b v l => rw [varsT]; rfl
mutual
theorem varsT_length : ∀ (t : Tm) (S : List Int), (varsT t S).length ≤ S.length + nodes t
  | .mk k n u b v l, S => by
    have h := varsR_length l (if k = 1 then addN S v else S)
    have h2 := addN_length S v
    simp only [varsT, nodes]
    split at h <;> split <;> simp_all <;> omega
theorem varsR_length : ∀ (l : List Tm) (S : List Int), (varsR l S).length ≤ S.length + nodesL l
  | [], S => by simp [varsR, nodesL]
  | t :: l, S => by
    have h1 := varsT_length t S
    have h2 := varsR_length l (varsT t S)
    simp only [varsR, nodesL]
    omega
end
theorem varsR_take (S : List Int) : ∀ (l : List Tm) (k : Nat) (h : k < l.length), varsR (l.take (k + 1)) S = varsT l[k] (varsR (l.take k) S) := by
  intro l
  induction l generalizing S with
  | nil => intro k h; simp at h
  | cons t l ih =>
    intro k h
    cases k with
    | zero => simp [varsR]
    | succ k =>
      have := ih (varsT t S) k (by simpa using h)
      simpa [varsR] using this
/-- Numbers that 64 bits hold. -/
def VarOk (t : Tm) : Prop := (Lit.int .i64 t.var).wf = true
set_option maxRecDepth 100000 in
set_option maxHeartbeats 4000000 in
theorem each_any (w0 : World) (bo bg bm bn R : Nat) (ho : w0.heap.size ≤ bo) (hm : w0.heap.size ≤ bm) (d : Nat) : ∀ (t : Tm) (p : Option Addr) (cap : Nat) (S : List Int) (w : World), nodes t ≤ d → TmAt w0 t p → AllT VarOk t → Below w0.heap.size w0 w → VarSt w bo bg bm bn R S →
    (S.length + nodes t + 1) * 8 ≤ 140737488351232 →
    Calls Tryd.prog 29 #[t.val p cap, .func (.func 30) #[] #[.pointer (some ⟨bn, 0, none⟩), .pointer (some ⟨bo, 0, none⟩)]] w fun e w' => e = .returned (.tuple #[]) ∧ VarSt w' bo bg bm bn R (varsT t S) ∧ Below w0.heap.size w0 w' ∧ Kp bo bm w w' := by
  induction d with
  | zero => intro t p cap S w h; have := nodes_pos t; omega
  | succ d ih =>
    intro t p cap S w hd hT hA hB hV hl
    obtain ⟨W0, hW0⟩ : ∃ W0, W0 = w.alloc (tobj t p cap) := ⟨_, rfl⟩
    have hbw : Below w.heap.size w W0 := by rw [hW0]; exact (Below.refl w.heap.size w).alloc (Nat.le_refl _) (tobj t p cap)
    have HS := hid (show W0.heap[w.heap.size]? = some (tobj t p cap) by rw [hW0]; exact heap_alloc_new w (tobj t p cap))
    have HB := hid (hB.trans (hbw.mono hB.size))
    have HV := hid (hV.keep hbw)
    have HV0 := hid hV
    have hlen := hT.len
    have hne : ∀ k (h : k < t.args.length), nodes t.args[k] ≤ d := fun k h => by have := nodes_lt h; omega
    have HT := hid hT
    have HNE := hid hne
    have HNA := hid (nodes_args t)
    have HAA := hid (fun k hk => hA.arg k hk)
    have HVO := hid (show (Lit.int .i64 t.var).wf = true from hA.head)
    have HE := hid (varsT_args t S)
    have HTK := hid (fun Z k hk => varsR_take Z t.args k hk)
    have HTL := hid (fun k (hk : k < t.args.length) => nodesL_take t.args k hk)
    have HLE := hid (nodesL_take_le t.args)
    have HVL := hid (fun k Z => varsR_length (t.args.take k) Z)
    obtain ⟨x0, x1, x2, x3, x4, x5⟩ := six_of HS.out
    unfold tobj at hW0
    unfold Tm.val at ih ⊢
    unfold maxLen at hlen
    have IH := hid ih
    clear ih hT hA hne HS hB hV hbw
    have hsz : w.heap.size < W0.heap.size := by rw [hW0]; simp
    have HOB := hid (show W0.heap[w.heap.size]? = some (tobj t p cap) by rw [hW0]; exact heap_alloc_new w (tobj t p cap))
    have hno : w.heap.size ≠ bo := by have := HV0.out.lo; have := HV0.out.lR; omega
    have hnm : w.heap.size ≠ bm := by have := HV0.out.lm; have := HV0.out.lR; omega
    have HK0 := hid (show Kp bo bm w W0 by rw [hW0]; exact Kp.of_below ((Below.refl w.heap.size w).alloc (Nat.le_refl _) (tobj t p cap)))
    have HBX := hid (fun (W : World) (hW : Kp bo bm W0 W) => six_of (hW.block HOB.out hno hnm (fun cur e => by unfold tobj at e; cases e)))
    generalize varsT t S = Z at *
    by_cases hk : t.kind = 1
    · have HE2 := hid (show Z = varsR t.args (addN S t.var) by have h := HE.out; rwa [if_pos hk] at h)
      have hSL := addN_length S t.var
      have C := hid (tell_any bo bg bm bn R S t.var W0 HVO.out HV.out (by omega))
      have hd1 : (t.kind == 1) = true := beq_iff_eq.2 hk
      clear HE hk
      generalize addN S t.var = S1 at *
      go_enter Tryd.func29, Tryd.ntmps29
      go_wp2_with (go_at_call 30; rw [← hW0]; (with_reducible refine C.out.mono ?_); rintro e w1 ⟨rfl, hV1, hb1, hk1⟩; have V1 := hid hV1; have B1 := hid (HB.out.trans (hb1.mono (by omega))); have K1 := hid (HK0.out.trans hk1); have c5 := (HBX.out _ hk1).c5; clear hV1 hb1 hk1 C)
      have BS := hid B1.out
      go_loopw [16] (fun i wr => ∃ k : Nat, k ≤ t.args.length ∧ i = .int .i64 (k : Int) ∧ Hid (VarSt wr bo bg bm bn R (varsR (t.args.take k) S1)) ∧ Hid (Below w0.heap.size w0 wr) ∧ Hid (Kp bo bm w wr)) (fun i _ => t.args.length - (intOf i).toNat)
      case atStart => exact ⟨0, by omega, rfl, hid (by simpa [varsR] using V1.out), B1, K1⟩
      case round =>
        clear V1 B1 K1
        obtain ⟨k, hk, rfl, hV, hBr, hKr⟩ := hrel
        by_cases hlt : k < t.args.length
        · obtain ⟨b, o, hp, q, cq, hs, ht⟩ := HT.out.get k hlt
          subst hp
          have hs2 : Six wr b (o + k * 6) t.args[k] q cq := hs.keep hBr.out
          obtain ⟨y0, y1, y2, y3, y4, y5⟩ := hs2
          have HTT := hid ht
          have HNK := hid (HNE.out k hlt)
          have HAK := hid (HAA.out k hlt)
          have hvl := HVL.out k S1
          have htl := HTL.out k hlt
          have hle := HLE.out (k + 1)
          have hna := HNA.out
          have hbd : ((varsR (t.args.take k) S1).length + nodes t.args[k] + 1) * 8 ≤ 140737488351232 := by omega
          have HBD := hid hbd
          have HTS := hid (HTK.out S1 k hlt)
          have hbz := hid ((Below.refl wr.heap.size wr).alloc (Nat.le_refl _) (tobj t.args[k] q cq))
          clear hs ht hvl htl hle hna hbd
          unfold tobj at hbz
          generalize t.args[k] = u at *
          generalize varsR (t.args.take k) S1 = Sk at *
          have HC := hid (IH.out u q cq Sk _ HNK.out HTT.out HAK.out (hBr.out.trans (hbz.out.mono hBr.out.size)) (hV.out.keep hbz.out) HBD.out)
          go_wp2_with (go_at_call 29; (with_reducible refine HC.out.mono ?_); rintro e w2 ⟨rfl, hV2, hb2, hk2⟩; have V2 := hid hV2; have B2 := hid hb2; have K2 := hid ((hKr.out.trans (Kp.of_below hbz.out)).trans hk2); clear hV2 hb2 hk2)
          go_roundw
          case rel => exact ⟨k + 1, by omega, by go_num, hid (by rw [HTS.out]; exact V2.out), B2, K2⟩
          case measure => simp [intOf]; omega
        · obtain rfl : k = t.args.length := by omega
          clear hlt
          go_wp2_with fail
          go_end0
          exact ⟨rfl, by rw [HE2.out]; have h := hV.out; rwa [List.take_length] at h, hBr.out, hKr.out⟩
    · have HE2 := hid (show Z = varsR t.args S by have h := HE.out; rwa [if_neg hk] at h)
      have hd1 : (t.kind == 1) = false := beq_eq_false_iff_ne.2 hk
      have hSL : S.length ≤ S.length + 1 := Nat.le_succ _
      clear HE hk
      obtain ⟨S1, hS1⟩ : ∃ S1, S1 = S := ⟨_, rfl⟩
      rw [← hS1] at HE2 HV
      have hSL : S1.length ≤ S.length + 1 := by rw [hS1]; exact hSL
      clear hS1
      go_enter Tryd.func29, Tryd.ntmps29
      go_wp2_with fail
      rw [← hW0]
      have V1 := HV
      have B1 := HB
      have K1 := HK0
      go_loopw [16] (fun i wr => ∃ k : Nat, k ≤ t.args.length ∧ i = .int .i64 (k : Int) ∧ Hid (VarSt wr bo bg bm bn R (varsR (t.args.take k) S1)) ∧ Hid (Below w0.heap.size w0 wr) ∧ Hid (Kp bo bm w wr)) (fun i _ => t.args.length - (intOf i).toNat)
      case atStart => exact ⟨0, by omega, rfl, hid (by simpa [varsR] using V1.out), B1, K1⟩
      case round =>
        clear V1 B1 K1
        obtain ⟨k, hk, rfl, hV, hBr, hKr⟩ := hrel
        by_cases hlt : k < t.args.length
        · obtain ⟨b, o, hp, q, cq, hs, ht⟩ := HT.out.get k hlt
          subst hp
          have hs2 : Six wr b (o + k * 6) t.args[k] q cq := hs.keep hBr.out
          obtain ⟨y0, y1, y2, y3, y4, y5⟩ := hs2
          have HTT := hid ht
          have HNK := hid (HNE.out k hlt)
          have HAK := hid (HAA.out k hlt)
          have hvl := HVL.out k S1
          have htl := HTL.out k hlt
          have hle := HLE.out (k + 1)
          have hna := HNA.out
          have hbd : ((varsR (t.args.take k) S1).length + nodes t.args[k] + 1) * 8 ≤ 140737488351232 := by omega
          have HBD := hid hbd
          have HTS := hid (HTK.out S1 k hlt)
          have hbz := hid ((Below.refl wr.heap.size wr).alloc (Nat.le_refl _) (tobj t.args[k] q cq))
          clear hs ht hvl htl hle hna hbd
          unfold tobj at hbz
          generalize t.args[k] = u at *
          generalize varsR (t.args.take k) S1 = Sk at *
          have HC := hid (IH.out u q cq Sk _ HNK.out HTT.out HAK.out (hBr.out.trans (hbz.out.mono hBr.out.size)) (hV.out.keep hbz.out) HBD.out)
          go_wp2_with (go_at_call 29; (with_reducible refine HC.out.mono ?_); rintro e w2 ⟨rfl, hV2, hb2, hk2⟩; have V2 := hid hV2; have B2 := hid hb2; have K2 := hid ((hKr.out.trans (Kp.of_below hbz.out)).trans hk2); clear hV2 hb2 hk2)
          go_roundw
          case rel => exact ⟨k + 1, by omega, by go_num, hid (by rw [HTS.out]; exact V2.out), B2, K2⟩
          case measure => simp [intOf]; omega
        · obtain rfl : k = t.args.length := by omega
          clear hlt
          go_wp2_with fail
          go_end0
          exact ⟨rfl, by rw [HE2.out]; have h := hV.out; rwa [List.take_length] at h, hBr.out, hKr.out⟩
end Go.Proofs.YtpdclfihleoigaaDoor
