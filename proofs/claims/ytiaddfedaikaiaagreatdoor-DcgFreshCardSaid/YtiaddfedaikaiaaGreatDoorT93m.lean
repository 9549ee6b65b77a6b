/- Walk of the document's answer: In: does a number stand in a list? No condition but those that each theorem names. Walks of the document's answer: Vars, AllVars: the variables of terms, each once. No condition but those that each theorem names. Walk: the function that Plain hands on: a variable's new number. No condition but those that each theorem names. -/
import Derived.Test.YtiaddfedaikaiaaGreatDoorT10m
import Derived.Test.YtiaddfedaikaiaaGreatDoorT17m
import Derived.Test.YtiaddfedaikaiaaGreatDoorT56m
namespace Go.Proofs.YtiaddfedaikaiaaGreatDoor
open Go.RowKit

set_option maxRecDepth 100000 in
set_option maxHeartbeats 4000000 in
theorem in_any (S : List Int) (p : Option Addr) (cap : Nat) (n : Int) (base : Nat) (w : World) (h : w.ownsRow base 3 1 (.slice p S.length cap) S.length (ints S)) (hl : S.length ≤ 4611686018427387904) :
    Calls Tryz.prog 29 #[.slice p S.length cap, .int .i64 n] w fun e w' => e = .returned (.bool (decide (n ∈ S))) ∧ Below w.heap.size w w' := by
  have H1 := hid (fun k hk => rowI_get h rfl k hk)
  obtain ⟨r, hr⟩ : ∃ r, r = decide (n ∈ S) := ⟨_, rfl⟩
  rw [← hr]
  have HR := hid (show r = decide (n ∈ S.drop 0) from hr)
  have HB := hid (Below.refl w.heap.size w)
  clear h hr
  go_enter Tryz.func29, Tryz.ntmps29
  go_wp2
  go_loopw [5] (fun i wr => ∃ k : Nat, k ≤ S.length ∧ i = .int .i64 (k : Int) ∧ Hid (r = decide (n ∈ S.drop k)) ∧ Hid (Below w.heap.size w wr)) (fun i _ => S.length - (intOf i).toNat)
  case atStart => exact ⟨0, by omega, rfl, HR, HB⟩
  case round =>
    clear HB HR
    obtain ⟨k, hk, rfl, hR, hB⟩ := hrel
    by_cases hlt : k < S.length
    · obtain ⟨g1, hg1, x1⟩ := H1.out k hlt
      subst hg1
      have y1 := heap_cell_keep hB.out x1
      have HD := hid (hR.out.trans (show decide (n ∈ S.drop k) = decide (n ∈ S[k] :: S.drop (k + 1)) by rw [List.drop_eq_getElem_cons hlt]))
      clear x1 hR
      generalize S[k] = z at *
      by_cases hz : z = n
      · subst hz
        have HT := hid (show r = true by rw [HD.out]; simp)
        clear HD
        go_wp2
        go_ret
        exact ⟨by rw [HT.out]; rfl, hB.out⟩
      · have HN := hid (show r = decide (n ∈ S.drop (k + 1)) by rw [HD.out, decide_eq_decide, List.mem_cons]; exact ⟨fun h => h.resolve_left fun e => hz e.symm, .inr⟩)
        have hq : (z == n) = false := beq_eq_false_iff_ne.2 hz
        clear HD
        go_wp2
        go_roundw
        case rel => exact ⟨k + 1, by omega, by go_num, HN, hB⟩
        case measure => simp [intOf]; omega
    · obtain rfl : k = S.length := by omega
      have HF := hid (show r = false by rw [hR.out, List.drop_length]; simp)
      clear hlt hR
      go_wp2
      go_ret
      exact ⟨by rw [HF.out]; rfl, hB.out⟩
end Go.Proofs.YtiaddfedaikaiaaGreatDoor

namespace Go.Proofs.YtiaddfedaikaiaaGreatDoor
open Go.RowKit

/-- All but rows of ints as it was. -/
structure Kq (w w' : World) : Prop where
  size : w.heap.size ≤ w'.heap.size
  same : ∀ k, k < w.heap.size → (∀ cur, w.heap[k]? ≠ some (.cells cur 3 (0, 0))) → w'.heap[k]? = w.heap[k]?
theorem Kq.refl (w : World) : Kq w w := ⟨Nat.le_refl _, fun _ _ _ => rfl⟩
theorem Kq.trans {a b c : World} (h : Kq a b) (k : Kq b c) : Kq a c :=
  ⟨Nat.le_trans h.size k.size, fun i hi h3 => by
    have e := h.same i hi h3
    exact (k.same i (Nat.lt_of_lt_of_le hi h.size) (fun cur => by rw [e]; exact h3 cur)).trans e⟩
theorem Kq.of_below {w w' : World} (h : Below w.heap.size w w') : Kq w w' := ⟨h.size, fun k hk _ => h.block k hk⟩
theorem Kq.of_row {base n : Nat} {w w' : World} {v : Value} {xs : List Value} (hr : w.ownsRow base 3 1 v n xs) (h : w.grownBy w' v.ownBlock) : Kq w w' :=
  ⟨h.size, fun k hk h3 => h.block k hk (fun e => by
    rcases hr.2 with ⟨rfl, _⟩ | ⟨g, cap, cur, rfl, _, q2, _⟩
    · cases e
    · cases e
      exact h3 cur q2)⟩
theorem Kq.obj {w w' : World} {k : Nat} {t : Tm} {p : Option Addr} {cap : Nat} (h : Kq w w') (hk : w.heap[k]? = some (tobj t p cap)) : w'.heap[k]? = some (tobj t p cap) :=
  (h.same k (lt_of_block hk) (fun cur e => by rw [hk] at e; unfold tobj at e; cases e)).trans hk
theorem row_keep {base n : Nat} {w w' : World} {v : Value} {xs : List Value} (h : w.ownsRow base 3 1 v n xs) (hb : Below w.heap.size w w') : w'.ownsRow base 3 1 v n xs := by
  refine ⟨h.1, ?_⟩
  rcases h.2 with h1 | ⟨g, cap, cur, e, h1, h2, h3⟩
  · exact .inl h1
  · exact .inr ⟨g, cap, cur, e, h1, (hb.block g (lt_of_block h2)).trans h2, h3⟩

set_option maxRecDepth 100000 in
set_option maxHeartbeats 8000000 in
theorem vars_any (w0 : World) (d : Nat) : ∀ (t : Tm) (p : Option Addr) (cap : Nat) (S : List Int) (q : Option Addr) (c : Nat) (w : World), nodes t ≤ d → TmAt w0 t p → Below w0.heap.size w0 w → w.ownsRow w0.heap.size 3 1 (.slice q S.length c) S.length (ints S) →
    (S.length + nodes t) * 8 ≤ 140737488355328 →
    Calls Tryz.prog 28 #[t.val p cap, .slice q S.length c] w fun e w' => ∃ q' c', e = .returned (.slice q' (varsT t S).length c') ∧ w'.ownsRow w0.heap.size 3 1 (.slice q' (varsT t S).length c') (varsT t S).length (ints (varsT t S)) ∧ Below w0.heap.size w0 w' ∧ Kq w w' := by
  induction d with
  | zero => intro t p cap S q c w h; have := nodes_pos t; omega
  | succ d ih =>
    intro t p cap S q c w hd hT hB hS hl
    obtain ⟨W0, hW0⟩ : ∃ W0, W0 = w.alloc (tobj t p cap) := ⟨_, rfl⟩
    have hbw : Below w.heap.size w W0 := by rw [hW0]; exact (Below.refl w.heap.size w).alloc (Nat.le_refl _) (tobj t p cap)
    have PT := hid (show W0.heap[w.heap.size]? = some (tobj t p cap) by rw [hW0]; exact heap_alloc_new w (tobj t p cap))
    have BW := hid (hB.trans (hbw.mono hB.size))
    have HO := hid (show W0.ownsRow w0.heap.size 3 1 (.slice q S.length c) S.length (ints S) by rw [hW0]; exact World.ownsRow.alloc hS _)
    have KW := hid (show Kq w W0 from Kq.of_below hbw)
    have hlen := hT.len
    have HT := hid hT
    have HNE := hid (fun k (h : k < t.args.length) => (show nodes t.args[k] ≤ d by have := nodes_lt h; omega))
    have HE := hid (varsT_args t S)
    have HTK := hid (fun Z k hk => varsR_take Z t.args k hk)
    have HTL := hid (fun k (hk : k < t.args.length) => nodesL_take t.args k hk)
    have HLE := hid (nodesL_take_le t.args)
    have HVL := hid (fun k Z => varsR_length (t.args.take k) Z)
    have hna := nodes_args t
    unfold tobj at hW0
    unfold Tm.val at ih ⊢
    unfold maxLen at hlen
    have IH := hid ih
    clear ih hT hS hB hbw
    generalize varsT t S = Z at *
    obtain ⟨x0, x1, x2, x3, x4, x5⟩ := six_of PT.out
    by_cases hk : t.kind = 1
    · have hd1 : (t.kind == 1) = true := beq_iff_eq.2 hk
      have CI := hid (fun (W : World) (h : W.ownsRow w0.heap.size 3 1 (.slice q S.length c) S.length (ints S)) => in_any S q c t.var w0.heap.size W h (by omega))
      by_cases hm : t.var ∈ S
      · have HE2 := hid (show Z = varsR t.args S by have h := HE.out; rw [if_pos hk] at h; rw [h]; unfold addN; rw [if_pos hm])
        rw [decide_eq_true hm] at CI
        clear HE hk hm
        go_enter Tryz.func28, Tryz.ntmps28
        go_wp2_with (first
          | (go_at_call 29; rw [← hW0]; (with_reducible refine (CI.out _ HO.out).mono ?_); rintro e w1 ⟨rfl, hb1⟩; replace PT := hid (obj_keep PT.out hb1); replace BW := hid (BW.out.trans (hb1.mono BW.out.size)); replace KW := hid (KW.out.trans (Kq.of_below hb1)); replace HO := hid (row_keep HO.out hb1); clear hb1 CI hW0; clear x0 x1 x2 x3 x4 x5; obtain ⟨x0, x1, x2, x3, x4, x5⟩ := six_of PT.out)
          | fail)
        clear x0 x1 x2 x3 x4 x5 hd1
        obtain ⟨q1, c1, eq1, ec1⟩ : ∃ q1 c1, q1 = q ∧ c1 = c := ⟨_, _, rfl, rfl⟩
        subst eq1 ec1
        have HO1 := hid (show w1.ownsRow w0.heap.size 3 1 (.slice q1 (varsR (t.args.take 0) S).length c1) (varsR (t.args.take 0) S).length (ints (varsR (t.args.take 0) S)) by simpa [varsR] using HO.out)
        go_loopw [1, 6] (fun s i wr => ∃ (k : Nat) (q2 : Option Addr) (c2 : Nat), k ≤ t.args.length ∧ s = .slice q2 (varsR (t.args.take k) S).length c2 ∧ i = .int .i64 (k : Int) ∧ Hid (wr.ownsRow w0.heap.size 3 1 (.slice q2 (varsR (t.args.take k) S).length c2) (varsR (t.args.take k) S).length (ints (varsR (t.args.take k) S))) ∧ Hid (wr.heap[w.heap.size]? = some (tobj t p cap)) ∧ Hid (Below w0.heap.size w0 wr) ∧ Hid (Kq w wr)) (fun _ i _ => t.args.length - (intOf i).toNat)
        case atStart => exact ⟨0, q1, c1, by omega, by simp [varsR], rfl, HO1, PT, BW, KW⟩
        case round =>
          clear HO1 HO PT BW KW
          obtain ⟨k, q2, c2, hk, rfl, rfl, HO, PT, BW, KW⟩ := hrel
          obtain ⟨x0, x1, x2, x3, x4, x5⟩ := six_of PT.out
          by_cases hlt : k < t.args.length
          · obtain ⟨b, o, hp, e1, f1, hs, ht⟩ := HT.out.get k hlt
            subst hp
            have hs2 : Six wr b (o + k * 6) t.args[k] e1 f1 := hs.keep BW.out
            obtain ⟨y0, y1, y2, y3, y4, y5⟩ := hs2
            have HNX := hid (HTK.out S k hlt)
            have hvl := HVL.out k S
            have htl := HTL.out k hlt
            have hle := HLE.out (k + 1)
            have HC := hid (IH.out t.args[k] e1 f1 (varsR (t.args.take k) S) q2 c2 wr (HNE.out k hlt) ht BW.out HO.out (by omega))
            clear hs ht hvl htl hle
            rw [← HNX.out] at HC
            generalize varsR (t.args.take k) S = Y at *
            generalize t.args[k] = t1 at *
            go_wp2_with (first
              | (go_at_call 28; (with_reducible refine HC.out.mono ?_); rintro e w2 ⟨q3, c3, rfl, ho3, hb3, hk3⟩; have HO3 := hid ho3; have PT3 := hid (hk3.obj PT.out); have B3 := hid hb3; have K3 := hid (KW.out.trans hk3); clear ho3 hb3 hk3 HC)
              | fail)
            go_roundw
            case rel => exact ⟨k + 1, q3, c3, by omega, rfl, by go_num, HO3, PT3, B3, K3⟩
            case measure => simp [intOf]; omega
          · obtain rfl : k = t.args.length := by omega
            have HZ := hid (show Z = varsR (t.args.take t.args.length) S by rw [HE2.out, List.take_length])
            rw [← HZ.out] at HO
            rw [← HZ.out]
            clear hlt HZ
            go_wp2_with fail
            go_ret
            exact ⟨q2, c2, rfl, HO.out, BW.out, KW.out⟩
      · have HE2 := hid (show Z = varsR t.args (S ++ [t.var]) by have h := HE.out; rw [if_pos hk] at h; rw [h]; unfold addN; rw [if_neg hm])
        rw [decide_eq_false hm] at CI
        have hSL : (S ++ [t.var]).length = S.length + 1 := by simp
        have hnp := nodes_args t
        have hL1 : (varsR (t.args.take 0) (S ++ [t.var])).length = S.length + 1 := by simp [varsR]
        obtain ⟨S1, hS1⟩ : ∃ S1, S1 = S ++ [t.var] := ⟨_, rfl⟩
        have HS1 := hid (show ints S ++ [.int .i64 t.var] = ints S1 by rw [hS1]; unfold ints; simp)
        rw [← hS1] at HE2 hSL hL1
        clear hS1
        have hBl := Nat.le_refl w0.heap.size
        clear HE hk hm
        go_enter Tryz.func28, Tryz.ntmps28
        go_upto_region 4 with (first
          | (go_at_call 29; rw [← hW0]; (with_reducible refine (CI.out _ HO.out).mono ?_); rintro e w1 ⟨rfl, hb1⟩; replace PT := hid (obj_keep PT.out hb1); replace BW := hid (BW.out.trans (hb1.mono BW.out.size)); replace KW := hid (KW.out.trans (Kq.of_below hb1)); replace HO := hid (row_keep HO.out hb1); clear hb1 CI hW0; clear x0 x1 x2 x3 x4 x5; obtain ⟨x0, x1, x2, x3, x4, x5⟩ := six_of PT.out)
          | fail)
        go_wp2_with (first
          | (at_builtin; refine wpList_appI rfl _ _ rfl ?_; refine ⟨w0.heap.size, _, _, t.var, 1, _, rfl, World.ownsRow.alloc HO.out _, ⟨w1.heap.size, rfl, heap_alloc_new w1 _⟩, by unfold maxLen; omega, by omega, by simp; have := BW.out.size; omega, ?_⟩; intro v' w5 hown' hgrow; obtain ⟨q1, c1, rfl⟩ := rowI_form hown'; have HO5 := hid hown'; have G5 := hid hgrow; clear hown' hgrow; rw [← hL1])
          | fail)
        have KA := hid (show Kq w1 (w1.alloc (.cells #[.int .i64 t.var] 3)) from Kq.of_below ((Below.refl _ _).alloc (Nat.le_refl _) _))
        have K5 := hid (KA.out.trans (Kq.of_row (World.ownsRow.alloc HO.out _) G5.out))
        have PT5 := hid (K5.out.obj PT.out)
        have KW5 := hid (KW.out.trans K5.out)
        have BW5 := hid (show Below w0.heap.size w0 w5 from (BW.out.trans (((Below.refl w1.heap.size w1).alloc (Nat.le_refl _) (.cells #[.int .i64 t.var] 3)).mono BW.out.size)).grown G5.out (by have := BW.out.size; simp; omega) (fun x e => by have := ownBlock_le HO.out e; omega))
        have HOS := hid (show w5.ownsRow w0.heap.size 3 1 (.slice q1 S1.length c1) S1.length (ints S1) by have h := HO5.out; rw [HS1.out] at h; rwa [hSL])
        clear x0 x1 x2 x3 x4 x5 hd1 HO5 G5 KA K5 PT KW BW HO HS1 hL1
        obtain ⟨w6, hw6⟩ : ∃ w6, w6 = w5 := ⟨_, rfl⟩
        rw [← hw6] at PT5 KW5 BW5 HOS ⊢
        clear hw6
        have PT := PT5
        have KW := KW5
        have BW := BW5
        have HO := HOS
        clear PT5 KW5 BW5 HOS
        have HO1 := hid (show w6.ownsRow w0.heap.size 3 1 (.slice q1 (varsR (t.args.take 0) S1).length c1) (varsR (t.args.take 0) S1).length (ints (varsR (t.args.take 0) S1)) by simpa [varsR] using HO.out)
        go_loopw [1, 6] (fun s i wr => ∃ (k : Nat) (q2 : Option Addr) (c2 : Nat), k ≤ t.args.length ∧ s = .slice q2 (varsR (t.args.take k) S1).length c2 ∧ i = .int .i64 (k : Int) ∧ Hid (wr.ownsRow w0.heap.size 3 1 (.slice q2 (varsR (t.args.take k) S1).length c2) (varsR (t.args.take k) S1).length (ints (varsR (t.args.take k) S1))) ∧ Hid (wr.heap[w.heap.size]? = some (tobj t p cap)) ∧ Hid (Below w0.heap.size w0 wr) ∧ Hid (Kq w wr)) (fun _ i _ => t.args.length - (intOf i).toNat)
        case atStart => exact ⟨0, q1, c1, by omega, by simp [varsR], rfl, HO1, PT, BW, KW⟩
        case round =>
          clear HO1 HO PT BW KW
          obtain ⟨k, q2, c2, hk, rfl, rfl, HO, PT, BW, KW⟩ := hrel
          obtain ⟨x0, x1, x2, x3, x4, x5⟩ := six_of PT.out
          by_cases hlt : k < t.args.length
          · obtain ⟨b, o, hp, e1, f1, hs, ht⟩ := HT.out.get k hlt
            subst hp
            have hs2 : Six wr b (o + k * 6) t.args[k] e1 f1 := hs.keep BW.out
            obtain ⟨y0, y1, y2, y3, y4, y5⟩ := hs2
            have HNX := hid (HTK.out S1 k hlt)
            have hvl := HVL.out k S1
            have htl := HTL.out k hlt
            have hle := HLE.out (k + 1)
            have HC := hid (IH.out t.args[k] e1 f1 (varsR (t.args.take k) S1) q2 c2 wr (HNE.out k hlt) ht BW.out HO.out (by omega))
            clear hs ht hvl htl hle
            rw [← HNX.out] at HC
            generalize varsR (t.args.take k) S1 = Y at *
            generalize t.args[k] = t1 at *
            go_wp2_with (first
              | (go_at_call 28; (with_reducible refine HC.out.mono ?_); rintro e w2 ⟨q3, c3, rfl, ho3, hb3, hk3⟩; have HO3 := hid ho3; have PT3 := hid (hk3.obj PT.out); have B3 := hid hb3; have K3 := hid (KW.out.trans hk3); clear ho3 hb3 hk3 HC)
              | fail)
            go_roundw
            case rel => exact ⟨k + 1, q3, c3, by omega, rfl, by go_num, HO3, PT3, B3, K3⟩
            case measure => simp [intOf]; omega
          · obtain rfl : k = t.args.length := by omega
            have HZ := hid (show Z = varsR (t.args.take t.args.length) S1 by rw [HE2.out, List.take_length])
            rw [← HZ.out] at HO
            rw [← HZ.out]
            clear hlt HZ
            go_wp2_with fail
            go_ret
            exact ⟨q2, c2, rfl, HO.out, BW.out, KW.out⟩
    · have HE2 := hid (show Z = varsR t.args S by have h := HE.out; rwa [if_neg hk] at h)
      have hd1 : (t.kind == 1) = false := beq_eq_false_iff_ne.2 hk
      clear HE hk
      go_enter Tryz.func28, Tryz.ntmps28
      go_upto_region 5 with fail
      rw [← hW0]
      obtain ⟨w1, hw1⟩ : ∃ w1, w1 = W0 := ⟨_, rfl⟩
      rw [← hw1] at PT BW KW HO x0 x1 x2 x3 x4 x5 ⊢
      clear hw1 hW0
      go_wp2_with fail
      clear x0 x1 x2 x3 x4 x5 hd1
      obtain ⟨q1, c1, eq1, ec1⟩ : ∃ q1 c1, q1 = q ∧ c1 = c := ⟨_, _, rfl, rfl⟩
      subst eq1 ec1
      have HO1 := hid (show w1.ownsRow w0.heap.size 3 1 (.slice q1 (varsR (t.args.take 0) S).length c1) (varsR (t.args.take 0) S).length (ints (varsR (t.args.take 0) S)) by simpa [varsR] using HO.out)
      go_loopw [1, 6] (fun s i wr => ∃ (k : Nat) (q2 : Option Addr) (c2 : Nat), k ≤ t.args.length ∧ s = .slice q2 (varsR (t.args.take k) S).length c2 ∧ i = .int .i64 (k : Int) ∧ Hid (wr.ownsRow w0.heap.size 3 1 (.slice q2 (varsR (t.args.take k) S).length c2) (varsR (t.args.take k) S).length (ints (varsR (t.args.take k) S))) ∧ Hid (wr.heap[w.heap.size]? = some (tobj t p cap)) ∧ Hid (Below w0.heap.size w0 wr) ∧ Hid (Kq w wr)) (fun _ i _ => t.args.length - (intOf i).toNat)
      case atStart => exact ⟨0, q1, c1, by omega, by simp [varsR], rfl, HO1, PT, BW, KW⟩
      case round =>
        clear HO1 HO PT BW KW
        obtain ⟨k, q2, c2, hk, rfl, rfl, HO, PT, BW, KW⟩ := hrel
        obtain ⟨x0, x1, x2, x3, x4, x5⟩ := six_of PT.out
        by_cases hlt : k < t.args.length
        · obtain ⟨b, o, hp, e1, f1, hs, ht⟩ := HT.out.get k hlt
          subst hp
          have hs2 : Six wr b (o + k * 6) t.args[k] e1 f1 := hs.keep BW.out
          obtain ⟨y0, y1, y2, y3, y4, y5⟩ := hs2
          have HNX := hid (HTK.out S k hlt)
          have hvl := HVL.out k S
          have htl := HTL.out k hlt
          have hle := HLE.out (k + 1)
          have HC := hid (IH.out t.args[k] e1 f1 (varsR (t.args.take k) S) q2 c2 wr (HNE.out k hlt) ht BW.out HO.out (by omega))
          clear hs ht hvl htl hle
          rw [← HNX.out] at HC
          generalize varsR (t.args.take k) S = Y at *
          generalize t.args[k] = t1 at *
          go_wp2_with (first
            | (go_at_call 28; (with_reducible refine HC.out.mono ?_); rintro e w2 ⟨q3, c3, rfl, ho3, hb3, hk3⟩; have HO3 := hid ho3; have PT3 := hid (hk3.obj PT.out); have B3 := hid hb3; have K3 := hid (KW.out.trans hk3); clear ho3 hb3 hk3 HC)
            | fail)
          go_roundw
          case rel => exact ⟨k + 1, q3, c3, by omega, rfl, by go_num, HO3, PT3, B3, K3⟩
          case measure => simp [intOf]; omega
        · obtain rfl : k = t.args.length := by omega
          have HZ := hid (show Z = varsR (t.args.take t.args.length) S by rw [HE2.out, List.take_length])
          rw [← HZ.out] at HO
          rw [← HZ.out]
          clear hlt HZ
          go_wp2_with fail
          go_ret
          exact ⟨q2, c2, rfl, HO.out, BW.out, KW.out⟩
end Go.Proofs.YtiaddfedaikaiaaGreatDoor

namespace Go.Proofs.YtiaddfedaikaiaaGreatDoor
open Go.RowKit Go.Maps

/-- What a numbering keeps. -/
structure NumSt (w : World) (bn bg bm : Nat) (S : List Int) : Prop where
  fn : w.cell? ⟨bn, 0, none⟩ = some (.func (.func 141) #[] #[.pointer (some ⟨bg, 0, none⟩)])
  gg : w.cell? ⟨bg, 0, none⟩ = some (.map (some bm))
  num : Nums w bm S
theorem NumSt.keep {w w' : World} {bn bg bm : Nat} {S : List Int} (h : NumSt w bn bg bm S) (hb : Below w.heap.size w w') : NumSt w' bn bg bm S :=
  ⟨heap_cell_keep hb h.fn, heap_cell_keep hb h.gg, h.num.keep hb⟩
end Go.Proofs.YtiaddfedaikaiaaGreatDoor
