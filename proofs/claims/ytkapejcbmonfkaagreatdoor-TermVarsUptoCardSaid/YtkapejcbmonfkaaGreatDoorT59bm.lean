/- Walk of the document's answer: In: does a number stand in a list? No condition but those that each theorem names. Walks of the document's answer: Vars, AllVars: the variables of terms, each once. No condition but those that each theorem names. Walk of the document's answer: AllVars: the variables of some terms, each once. No condition but those that each theorem names. Walk: the function that Plain hands on: a variable's new number. No condition but those that each theorem names. Numbers for variables: plain. No condition but those that each theorem names. Walk: fill at the function that Plain hands on. No condition but those that each theorem names. Walk: Plain of terms that may be. No condition but those that each theorem names. Walk: again: a list of trees is written over by its owner, and another one is not touched; lists of up to 1048576. No condition but those that each theorem names. -/
import Derived.Test.YtkapejcbmonfkaaGreatDoorT10m
import Derived.Test.YtkapejcbmonfkaaGreatDoorT17m
import Derived.Test.YtkapejcbmonfkaaGreatDoorT56m
import Derived.Test.YtkapejcbmonfkaaGreatDoorT80m
import Derived.Test.YtkapejcbmonfkaaGreatDoorT67m
namespace Go.Proofs.YtkapejcbmonfkaaGreatDoor
open Go.RowKit

set_option maxRecDepth 100000 in
set_option maxHeartbeats 4000000 in
theorem in_any (S : List Int) (p : Option Addr) (cap : Nat) (n : Int) (base : Nat) (w : World) (h : w.ownsRow base 3 1 (.slice p S.length cap) S.length (ints S)) (hl : S.length ≤ 4611686018427387904) :
    Calls Tryz.prog 89 #[.slice p S.length cap, .int .i64 n] w fun e w' => e = .returned (.bool (decide (n ∈ S))) ∧ Below w.heap.size w w' := by
  have H1 := hid (fun k hk => rowI_get h rfl k hk)
  obtain ⟨r, hr⟩ : ∃ r, r = decide (n ∈ S) := ⟨_, rfl⟩
  rw [← hr]
  have HR := hid (show r = decide (n ∈ S.drop 0) from hr)
  have HB := hid (Below.refl w.heap.size w)
  clear h hr
  go_enter Tryz.func89, Tryz.ntmps89
  go_wp2
  go_loopw [5] (fun i wr => ∃ k : Nat, k ≤ S.length ∧ i = .int .i64 (k : Int) ∧ Hid (r = decide (n ∈ S.drop k)) ∧ Hid (Below w.heap.size w wr)) (fun i _ => S.length - (intOf i).toNat)
  case atStart => exact ⟨0, by omega, rfl, HR, HB⟩
  case round =>
    clear HB HR
    obtain ⟨k, hk, rfl, hR, hB⟩ := hrel
    by_cases hlt : k < S.length
    · obtain ⟨g1, hg1, x1⟩ := H1.out k hlt
      subst hg1
      have y1 := heap_cell_keep hB.out x1
      have HD := hid (hR.out.trans (show decide (n ∈ S.drop k) = decide (n ∈ S[k] :: S.drop (k + 1)) by rw [List.drop_eq_getElem_cons hlt]))
      clear x1 hR
      generalize S[k] = z at *
      by_cases hz : z = n
      · subst hz
        have HT := hid (show r = true by rw [HD.out]; simp)
        clear HD
        go_wp2
        go_ret
        exact ⟨by rw [HT.out]; rfl, hB.out⟩
      · have HN := hid (show r = decide (n ∈ S.drop (k + 1)) by rw [HD.out, decide_eq_decide, List.mem_cons]; exact ⟨fun h => h.resolve_left fun e => hz e.symm, .inr⟩)
        have hq : (z == n) = false := beq_eq_false_iff_ne.2 hz
        clear HD
        go_wp2
        go_roundw
        case rel => exact ⟨k + 1, by omega, by go_num, HN, hB⟩
        case measure => simp [intOf]; omega
    · obtain rfl : k = S.length := by omega
      have HF := hid (show r = false by rw [hR.out, List.drop_length]; simp)
      clear hlt hR
      go_wp2
      go_ret
      exact ⟨by rw [HF.out]; rfl, hB.out⟩
end Go.Proofs.YtkapejcbmonfkaaGreatDoor

namespace Go.Proofs.YtkapejcbmonfkaaGreatDoor
open Go.RowKit

/-- All but rows of ints as it was. -/
structure Kq (w w' : World) : Prop where
  size : w.heap.size ≤ w'.heap.size
  same : ∀ k, k < w.heap.size → (∀ cur, w.heap[k]? ≠ some (.cells cur 3 (0, 0))) → w'.heap[k]? = w.heap[k]?
theorem Kq.refl (w : World) : Kq w w := ⟨Nat.le_refl _, fun _ _ _ => rfl⟩
theorem Kq.trans {a b c : World} (h : Kq a b) (k : Kq b c) : Kq a c :=
  ⟨Nat.le_trans h.size k.size, fun i hi h3 => by
    have e := h.same i hi h3
    exact (k.same i (Nat.lt_of_lt_of_le hi h.size) (fun cur => by rw [e]; exact h3 cur)).trans e⟩
theorem Kq.of_below {w w' : World} (h : Below w.heap.size w w') : Kq w w' := ⟨h.size, fun k hk _ => h.block k hk⟩
theorem Kq.of_row {base n : Nat} {w w' : World} {v : Value} {xs : List Value} (hr : w.ownsRow base 3 1 v n xs) (h : w.grownBy w' v.ownBlock) : Kq w w' :=
  ⟨h.size, fun k hk h3 => h.block k hk (fun e => by
    rcases hr.2 with ⟨rfl, _⟩ | ⟨g, cap, cur, rfl, _, q2, _⟩
    · cases e
    · cases e
      exact h3 cur q2)⟩
theorem Kq.obj {w w' : World} {k : Nat} {t : Tm} {p : Option Addr} {cap : Nat} (h : Kq w w') (hk : w.heap[k]? = some (tobj t p cap)) : w'.heap[k]? = some (tobj t p cap) :=
  (h.same k (lt_of_block hk) (fun cur e => by rw [hk] at e; unfold tobj at e; cases e)).trans hk
theorem row_keep {base n : Nat} {w w' : World} {v : Value} {xs : List Value} (h : w.ownsRow base 3 1 v n xs) (hb : Below w.heap.size w w') : w'.ownsRow base 3 1 v n xs := by
  refine ⟨h.1, ?_⟩
  rcases h.2 with h1 | ⟨g, cap, cur, e, h1, h2, h3⟩
  · exact .inl h1
  · exact .inr ⟨g, cap, cur, e, h1, (hb.block g (lt_of_block h2)).trans h2, h3⟩

set_option maxRecDepth 100000 in
set_option maxHeartbeats 8000000 in
theorem vars_any (w0 : World) (d : Nat) : ∀ (t : Tm) (p : Option Addr) (cap : Nat) (S : List Int) (q : Option Addr) (c : Nat) (w : World), nodes t ≤ d → TmAt w0 t p → Below w0.heap.size w0 w → w.ownsRow w0.heap.size 3 1 (.slice q S.length c) S.length (ints S) →
    (S.length + nodes t) * 8 ≤ 140737488355328 →
    Calls Tryz.prog 54 #[t.val p cap, .slice q S.length c] w fun e w' => ∃ q' c', e = .returned (.slice q' (varsT t S).length c') ∧ w'.ownsRow w0.heap.size 3 1 (.slice q' (varsT t S).length c') (varsT t S).length (ints (varsT t S)) ∧ Below w0.heap.size w0 w' ∧ Kq w w' := by
  induction d with
  | zero => intro t p cap S q c w h; have := nodes_pos t; omega
  | succ d ih =>
    intro t p cap S q c w hd hT hB hS hl
    obtain ⟨W0, hW0⟩ : ∃ W0, W0 = w.alloc (tobj t p cap) := ⟨_, rfl⟩
    have hbw : Below w.heap.size w W0 := by rw [hW0]; exact (Below.refl w.heap.size w).alloc (Nat.le_refl _) (tobj t p cap)
    have PT := hid (show W0.heap[w.heap.size]? = some (tobj t p cap) by rw [hW0]; exact heap_alloc_new w (tobj t p cap))
    have BW := hid (hB.trans (hbw.mono hB.size))
    have HO := hid (show W0.ownsRow w0.heap.size 3 1 (.slice q S.length c) S.length (ints S) by rw [hW0]; exact World.ownsRow.alloc hS _)
    have KW := hid (show Kq w W0 from Kq.of_below hbw)
    have hlen := hT.len
    have HT := hid hT
    have HNE := hid (fun k (h : k < t.args.length) => (show nodes t.args[k] ≤ d by have := nodes_lt h; omega))
    have HE := hid (varsT_args t S)
    have HTK := hid (fun Z k hk => varsR_take Z t.args k hk)
    have HTL := hid (fun k (hk : k < t.args.length) => nodesL_take t.args k hk)
    have HLE := hid (nodesL_take_le t.args)
    have HVL := hid (fun k Z => varsR_length (t.args.take k) Z)
    have hna := nodes_args t
    unfold tobj at hW0
    unfold Tm.val at ih ⊢
    unfold maxLen at hlen
    have IH := hid ih
    clear ih hT hS hB hbw
    generalize varsT t S = Z at *
    obtain ⟨x0, x1, x2, x3, x4, x5⟩ := six_of PT.out
    by_cases hk : t.kind = 1
    · have hd1 : (t.kind == 1) = true := beq_iff_eq.2 hk
      have CI := hid (fun (W : World) (h : W.ownsRow w0.heap.size 3 1 (.slice q S.length c) S.length (ints S)) => in_any S q c t.var w0.heap.size W h (by omega))
      by_cases hm : t.var ∈ S
      · have HE2 := hid (show Z = varsR t.args S by have h := HE.out; rw [if_pos hk] at h; rw [h]; unfold addN; rw [if_pos hm])
        rw [decide_eq_true hm] at CI
        clear HE hk hm
        go_enter Tryz.func54, Tryz.ntmps54
        go_wp2_with (first
          | (go_at_call 89; rw [← hW0]; (with_reducible refine (CI.out _ HO.out).mono ?_); rintro e w1 ⟨rfl, hb1⟩; replace PT := hid (obj_keep PT.out hb1); replace BW := hid (BW.out.trans (hb1.mono BW.out.size)); replace KW := hid (KW.out.trans (Kq.of_below hb1)); replace HO := hid (row_keep HO.out hb1); clear hb1 CI hW0; clear x0 x1 x2 x3 x4 x5; obtain ⟨x0, x1, x2, x3, x4, x5⟩ := six_of PT.out)
          | fail)
        clear x0 x1 x2 x3 x4 x5 hd1
        obtain ⟨q1, c1, eq1, ec1⟩ : ∃ q1 c1, q1 = q ∧ c1 = c := ⟨_, _, rfl, rfl⟩
        subst eq1 ec1
        have HO1 := hid (show w1.ownsRow w0.heap.size 3 1 (.slice q1 (varsR (t.args.take 0) S).length c1) (varsR (t.args.take 0) S).length (ints (varsR (t.args.take 0) S)) by simpa [varsR] using HO.out)
        go_loopw [1, 6] (fun s i wr => ∃ (k : Nat) (q2 : Option Addr) (c2 : Nat), k ≤ t.args.length ∧ s = .slice q2 (varsR (t.args.take k) S).length c2 ∧ i = .int .i64 (k : Int) ∧ Hid (wr.ownsRow w0.heap.size 3 1 (.slice q2 (varsR (t.args.take k) S).length c2) (varsR (t.args.take k) S).length (ints (varsR (t.args.take k) S))) ∧ Hid (wr.heap[w.heap.size]? = some (tobj t p cap)) ∧ Hid (Below w0.heap.size w0 wr) ∧ Hid (Kq w wr)) (fun _ i _ => t.args.length - (intOf i).toNat)
        case atStart => exact ⟨0, q1, c1, by omega, by simp [varsR], rfl, HO1, PT, BW, KW⟩
        case round =>
          clear HO1 HO PT BW KW
          obtain ⟨k, q2, c2, hk, rfl, rfl, HO, PT, BW, KW⟩ := hrel
          obtain ⟨x0, x1, x2, x3, x4, x5⟩ := six_of PT.out
          by_cases hlt : k < t.args.length
          · obtain ⟨b, o, hp, e1, f1, hs, ht⟩ := HT.out.get k hlt
            subst hp
            have hs2 : Six wr b (o + k * 6) t.args[k] e1 f1 := hs.keep BW.out
            obtain ⟨y0, y1, y2, y3, y4, y5⟩ := hs2
            have HNX := hid (HTK.out S k hlt)
            have hvl := HVL.out k S
            have htl := HTL.out k hlt
            have hle := HLE.out (k + 1)
            have HC := hid (IH.out t.args[k] e1 f1 (varsR (t.args.take k) S) q2 c2 wr (HNE.out k hlt) ht BW.out HO.out (by omega))
            clear hs ht hvl htl hle
            rw [← HNX.out] at HC
            generalize varsR (t.args.take k) S = Y at *
            generalize t.args[k] = t1 at *
            go_wp2_with (first
              | (go_at_call 54; (with_reducible refine HC.out.mono ?_); rintro e w2 ⟨q3, c3, rfl, ho3, hb3, hk3⟩; have HO3 := hid ho3; have PT3 := hid (hk3.obj PT.out); have B3 := hid hb3; have K3 := hid (KW.out.trans hk3); clear ho3 hb3 hk3 HC)
              | fail)
            go_roundw
            case rel => exact ⟨k + 1, q3, c3, by omega, rfl, by go_num, HO3, PT3, B3, K3⟩
            case measure => simp [intOf]; omega
          · obtain rfl : k = t.args.length := by omega
            have HZ := hid (show Z = varsR (t.args.take t.args.length) S by rw [HE2.out, List.take_length])
            rw [← HZ.out] at HO
            rw [← HZ.out]
            clear hlt HZ
            go_wp2_with fail
            go_ret
            exact ⟨q2, c2, rfl, HO.out, BW.out, KW.out⟩
      · have HE2 := hid (show Z = varsR t.args (S ++ [t.var]) by have h := HE.out; rw [if_pos hk] at h; rw [h]; unfold addN; rw [if_neg hm])
        rw [decide_eq_false hm] at CI
        have hSL : (S ++ [t.var]).length = S.length + 1 := by simp
        have hnp := nodes_args t
        have hL1 : (varsR (t.args.take 0) (S ++ [t.var])).length = S.length + 1 := by simp [varsR]
        obtain ⟨S1, hS1⟩ : ∃ S1, S1 = S ++ [t.var] := ⟨_, rfl⟩
        have HS1 := hid (show ints S ++ [.int .i64 t.var] = ints S1 by rw [hS1]; unfold ints; simp)
        rw [← hS1] at HE2 hSL hL1
        clear hS1
        have hBl := Nat.le_refl w0.heap.size
        clear HE hk hm
        go_enter Tryz.func54, Tryz.ntmps54
        go_upto_region 4 with (first
          | (go_at_call 89; rw [← hW0]; (with_reducible refine (CI.out _ HO.out).mono ?_); rintro e w1 ⟨rfl, hb1⟩; replace PT := hid (obj_keep PT.out hb1); replace BW := hid (BW.out.trans (hb1.mono BW.out.size)); replace KW := hid (KW.out.trans (Kq.of_below hb1)); replace HO := hid (row_keep HO.out hb1); clear hb1 CI hW0; clear x0 x1 x2 x3 x4 x5; obtain ⟨x0, x1, x2, x3, x4, x5⟩ := six_of PT.out)
          | fail)
        go_wp2_with (first
          | (at_builtin; refine wpList_appI rfl _ _ rfl ?_; refine ⟨w0.heap.size, _, _, t.var, 1, _, rfl, World.ownsRow.alloc HO.out _, ⟨w1.heap.size, rfl, heap_alloc_new w1 _⟩, by unfold maxLen; omega, by omega, by simp; have := BW.out.size; omega, ?_⟩; intro v' w5 hown' hgrow; obtain ⟨q1, c1, rfl⟩ := rowI_form hown'; have HO5 := hid hown'; have G5 := hid hgrow; clear hown' hgrow; rw [← hL1])
          | fail)
        have KA := hid (show Kq w1 (w1.alloc (.cells #[.int .i64 t.var] 3)) from Kq.of_below ((Below.refl _ _).alloc (Nat.le_refl _) _))
        have K5 := hid (KA.out.trans (Kq.of_row (World.ownsRow.alloc HO.out _) G5.out))
        have PT5 := hid (K5.out.obj PT.out)
        have KW5 := hid (KW.out.trans K5.out)
        have BW5 := hid (show Below w0.heap.size w0 w5 from (BW.out.trans (((Below.refl w1.heap.size w1).alloc (Nat.le_refl _) (.cells #[.int .i64 t.var] 3)).mono BW.out.size)).grown G5.out (by have := BW.out.size; simp; omega) (fun x e => by have := ownBlock_le HO.out e; omega))
        have HOS := hid (show w5.ownsRow w0.heap.size 3 1 (.slice q1 S1.length c1) S1.length (ints S1) by have h := HO5.out; rw [HS1.out] at h; rwa [hSL])
        clear x0 x1 x2 x3 x4 x5 hd1 HO5 G5 KA K5 PT KW BW HO HS1 hL1
        obtain ⟨w6, hw6⟩ : ∃ w6, w6 = w5 := ⟨_, rfl⟩
        rw [← hw6] at PT5 KW5 BW5 HOS ⊢
        clear hw6
        have PT := PT5
        have KW := KW5
        have BW := BW5
        have HO := HOS
        clear PT5 KW5 BW5 HOS
        have HO1 := hid (show w6.ownsRow w0.heap.size 3 1 (.slice q1 (varsR (t.args.take 0) S1).length c1) (varsR (t.args.take 0) S1).length (ints (varsR (t.args.take 0) S1)) by simpa [varsR] using HO.out)
        go_loopw [1, 6] (fun s i wr => ∃ (k : Nat) (q2 : Option Addr) (c2 : Nat), k ≤ t.args.length ∧ s = .slice q2 (varsR (t.args.take k) S1).length c2 ∧ i = .int .i64 (k : Int) ∧ Hid (wr.ownsRow w0.heap.size 3 1 (.slice q2 (varsR (t.args.take k) S1).length c2) (varsR (t.args.take k) S1).length (ints (varsR (t.args.take k) S1))) ∧ Hid (wr.heap[w.heap.size]? = some (tobj t p cap)) ∧ Hid (Below w0.heap.size w0 wr) ∧ Hid (Kq w wr)) (fun _ i _ => t.args.length - (intOf i).toNat)
        case atStart => exact ⟨0, q1, c1, by omega, by simp [varsR], rfl, HO1, PT, BW, KW⟩
        case round =>
          clear HO1 HO PT BW KW
          obtain ⟨k, q2, c2, hk, rfl, rfl, HO, PT, BW, KW⟩ := hrel
          obtain ⟨x0, x1, x2, x3, x4, x5⟩ := six_of PT.out
          by_cases hlt : k < t.args.length
          · obtain ⟨b, o, hp, e1, f1, hs, ht⟩ := HT.out.get k hlt
            subst hp
            have hs2 : Six wr b (o + k * 6) t.args[k] e1 f1 := hs.keep BW.out
            obtain ⟨y0, y1, y2, y3, y4, y5⟩ := hs2
            have HNX := hid (HTK.out S1 k hlt)
            have hvl := HVL.out k S1
            have htl := HTL.out k hlt
            have hle := HLE.out (k + 1)
            have HC := hid (IH.out t.args[k] e1 f1 (varsR (t.args.take k) S1) q2 c2 wr (HNE.out k hlt) ht BW.out HO.out (by omega))
            clear hs ht hvl htl hle
            rw [← HNX.out] at HC
            generalize varsR (t.args.take k) S1 = Y at *
            generalize t.args[k] = t1 at *
            go_wp2_with (first
              | (go_at_call 54; (with_reducible refine HC.out.mono ?_); rintro e w2 ⟨q3, c3, rfl, ho3, hb3, hk3⟩; have HO3 := hid ho3; have PT3 := hid (hk3.obj PT.out); have B3 := hid hb3; have K3 := hid (KW.out.trans hk3); clear ho3 hb3 hk3 HC)
              | fail)
            go_roundw
            case rel => exact ⟨k + 1, q3, c3, by omega, rfl, by go_num, HO3, PT3, B3, K3⟩
            case measure => simp [intOf]; omega
          · obtain rfl : k = t.args.length := by omega
            have HZ := hid (show Z = varsR (t.args.take t.args.length) S1 by rw [HE2.out, List.take_length])
            rw [← HZ.out] at HO
            rw [← HZ.out]
            clear hlt HZ
            go_wp2_with fail
            go_ret
            exact ⟨q2, c2, rfl, HO.out, BW.out, KW.out⟩
    · have HE2 := hid (show Z = varsR t.args S by have h := HE.out; rwa [if_neg hk] at h)
      have hd1 : (t.kind == 1) = false := beq_eq_false_iff_ne.2 hk
      clear HE hk
      go_enter Tryz.func54, Tryz.ntmps54
      go_upto_region 5 with fail
      rw [← hW0]
      obtain ⟨w1, hw1⟩ : ∃ w1, w1 = W0 := ⟨_, rfl⟩
      rw [← hw1] at PT BW KW HO x0 x1 x2 x3 x4 x5 ⊢
      clear hw1 hW0
      go_wp2_with fail
      clear x0 x1 x2 x3 x4 x5 hd1
      obtain ⟨q1, c1, eq1, ec1⟩ : ∃ q1 c1, q1 = q ∧ c1 = c := ⟨_, _, rfl, rfl⟩
      subst eq1 ec1
      have HO1 := hid (show w1.ownsRow w0.heap.size 3 1 (.slice q1 (varsR (t.args.take 0) S).length c1) (varsR (t.args.take 0) S).length (ints (varsR (t.args.take 0) S)) by simpa [varsR] using HO.out)
      go_loopw [1, 6] (fun s i wr => ∃ (k : Nat) (q2 : Option Addr) (c2 : Nat), k ≤ t.args.length ∧ s = .slice q2 (varsR (t.args.take k) S).length c2 ∧ i = .int .i64 (k : Int) ∧ Hid (wr.ownsRow w0.heap.size 3 1 (.slice q2 (varsR (t.args.take k) S).length c2) (varsR (t.args.take k) S).length (ints (varsR (t.args.take k) S))) ∧ Hid (wr.heap[w.heap.size]? = some (tobj t p cap)) ∧ Hid (Below w0.heap.size w0 wr) ∧ Hid (Kq w wr)) (fun _ i _ => t.args.length - (intOf i).toNat)
      case atStart => exact ⟨0, q1, c1, by omega, by simp [varsR], rfl, HO1, PT, BW, KW⟩
      case round =>
        clear HO1 HO PT BW KW
        obtain ⟨k, q2, c2, hk, rfl, rfl, HO, PT, BW, KW⟩ := hrel
        obtain ⟨x0, x1, x2, x3, x4, x5⟩ := six_of PT.out
        by_cases hlt : k < t.args.length
        · obtain ⟨b, o, hp, e1, f1, hs, ht⟩ := HT.out.get k hlt
          subst hp
          have hs2 : Six wr b (o + k * 6) t.args[k] e1 f1 := hs.keep BW.out
          obtain ⟨y0, y1, y2, y3, y4, y5⟩ := hs2
          have HNX := hid (HTK.out S k hlt)
          have hvl := HVL.out k S
          have htl := HTL.out k hlt
          have hle := HLE.out (k + 1)
          have HC := hid (IH.out t.args[k] e1 f1 (varsR (t.args.take k) S) q2 c2 wr (HNE.out k hlt) ht BW.out HO.out (by omega))
          clear hs ht hvl htl hle
          rw [← HNX.out] at HC
          generalize varsR (t.args.take k) S = Y at *
          generalize t.args[k] = t1 at *
          go_wp2_with (first
            | (go_at_call 54; (with_reducible refine HC.out.mono ?_); rintro e w2 ⟨q3, c3, rfl, ho3, hb3, hk3⟩; have HO3 := hid ho3; have PT3 := hid (hk3.obj PT.out); have B3 := hid hb3; have K3 := hid (KW.out.trans hk3); clear ho3 hb3 hk3 HC)
            | fail)
          go_roundw
          case rel => exact ⟨k + 1, q3, c3, by omega, rfl, by go_num, HO3, PT3, B3, K3⟩
          case measure => simp [intOf]; omega
        · obtain rfl : k = t.args.length := by omega
          have HZ := hid (show Z = varsR (t.args.take t.args.length) S by rw [HE2.out, List.take_length])
          rw [← HZ.out] at HO
          rw [← HZ.out]
          clear hlt HZ
          go_wp2_with fail
          go_ret
          exact ⟨q2, c2, rfl, HO.out, BW.out, KW.out⟩
end Go.Proofs.YtkapejcbmonfkaaGreatDoor

namespace Go.Proofs.YtkapejcbmonfkaaGreatDoor
open Go.RowKit

set_option maxRecDepth 100000 in
set_option maxHeartbeats 8000000 in
theorem allVars_any (l : List Tm) (p : Option Addr) (cap : Nat) (w : World) (hl : ListAt w l p) (hlm : l.length ≤ 4398046511104) (hsz : nodesL l * 8 ≤ 140737488355328) :
    Calls Tryz.prog 14 #[.slice p l.length cap] w fun e w' => ∃ q c, e = .returned (.slice q (varsR l []).length c) ∧ w'.ownsRow w.heap.size 3 1 (.slice q (varsR l []).length c) (varsR l []).length (ints (varsR l [])) ∧ Below w.heap.size w w' := by
  have HL := hid hl
  have HO := hid (show w.ownsRow w.heap.size 3 1 (.slice none (varsR (l.take 0) []).length 0) (varsR (l.take 0) []).length (ints (varsR (l.take 0) [])) from World.ownsRow_nil _ _ _ _)
  have BW := hid (Below.refl w.heap.size w)
  have HTK := hid (fun k hk => varsR_take [] l k hk)
  have HTL := hid (fun k (hk : k < l.length) => nodesL_take l k hk)
  have HLE := hid (nodesL_take_le l)
  have HVL := hid (fun k => varsR_length (l.take k) [])
  clear hl
  obtain ⟨Z, hZ⟩ : ∃ Z, Z = varsR l [] := ⟨_, rfl⟩
  rw [← hZ]
  have HZ := hid (show Z = varsR (l.take l.length) [] by rw [hZ, List.take_length])
  clear hZ
  go_enter Tryz.func14, Tryz.ntmps14
  go_wp2_with fail
  go_loopw [3, 4] (fun s i wr => ∃ (k : Nat) (q2 : Option Addr) (c2 : Nat), k ≤ l.length ∧ s = .slice q2 (varsR (l.take k) []).length c2 ∧ i = .int .i64 (k : Int) ∧ Hid (wr.ownsRow w.heap.size 3 1 (.slice q2 (varsR (l.take k) []).length c2) (varsR (l.take k) []).length (ints (varsR (l.take k) []))) ∧ Hid (Below w.heap.size w wr)) (fun _ i _ => l.length - (intOf i).toNat)
  case atStart => exact ⟨0, none, 0, by omega, by simp [varsR], rfl, HO, BW⟩
  case round =>
    clear HO BW
    obtain ⟨k, q2, c2, hk, rfl, rfl, HO, BW⟩ := hrel
    by_cases hlt : k < l.length
    · obtain ⟨b, o, hp, e1, f1, hs, ht⟩ := HL.out.get k hlt
      subst hp
      have hs2 : Six wr b (o + k * 6) l[k] e1 f1 := hs.keep BW.out
      obtain ⟨y0, y1, y2, y3, y4, y5⟩ := hs2
      have HNX := hid (HTK.out k hlt)
      have hvl := HVL.out k
      have htl := HTL.out k hlt
      have hle := HLE.out (k + 1)
      simp only [List.length_nil] at hvl
      have HC := hid (show Calls Tryz.prog 54 #[l[k].val e1 f1, .slice q2 (varsR (l.take k) []).length c2] wr _ from vars_any w (nodes l[k]) l[k] e1 f1 (varsR (l.take k) []) q2 c2 wr (Nat.le_refl _) ht BW.out HO.out (by omega))
      unfold Tm.val at HC
      clear hs ht hvl htl hle
      rw [← HNX.out] at HC
      generalize varsR (l.take k) [] = Y at *
      generalize l[k] = t1 at *
      go_wp2_with (first
        | (go_at_call 54; (with_reducible refine HC.out.mono ?_); rintro e w2 ⟨q3, c3, rfl, ho3, hb3, hk3⟩; have HO3 := hid ho3; have B3 := hid hb3; clear ho3 hb3 hk3 HC)
        | fail)
      go_roundw
      case rel => exact ⟨k + 1, q3, c3, by omega, rfl, by go_num, HO3, B3⟩
      case measure => simp [intOf]; omega
    · obtain rfl : k = l.length := by omega
      rw [← HZ.out] at HO
      rw [← HZ.out]
      clear hlt HZ
      go_wp2_with fail
      go_ret
      exact ⟨q2, c2, rfl, HO.out, BW.out⟩
end Go.Proofs.YtkapejcbmonfkaaGreatDoor

namespace Go.Proofs.YtkapejcbmonfkaaGreatDoor
open Go.RowKit Go.Maps

/-- What a numbering keeps. -/
structure NumSt (w : World) (bn bg bm : Nat) (S : List Int) : Prop where
  fn : w.cell? ⟨bn, 0, none⟩ = some (.func (.func 90) #[] #[.pointer (some ⟨bg, 0, none⟩)])
  gg : w.cell? ⟨bg, 0, none⟩ = some (.map (some bm))
  num : Nums w bm S
theorem NumSt.keep {w w' : World} {bn bg bm : Nat} {S : List Int} (h : NumSt w bn bg bm S) (hb : Below w.heap.size w w') : NumSt w' bn bg bm S :=
  ⟨heap_cell_keep hb h.fn, heap_cell_keep hb h.gg, h.num.keep hb⟩
theorem NumSt.nn {w : World} {bn bg bm : Nat} {S : List Int} (h : NumSt w bn bg bm S) : bn ≠ bm := nums_ne h.num h.fn
theorem NumSt.ng {w : World} {bn bg bm : Nat} {S : List Int} (h : NumSt w bn bg bm S) : bg ≠ bm := nums_ne h.num h.gg
theorem cell_lt {w : World} {b o : Nat} {v : Value} (h : w.cell? ⟨b, o, none⟩ = some v) : b < w.heap.size := by
  rcases Nat.lt_or_ge b w.heap.size with h1 | h1
  · exact h1
  · simp [World.cell?, h1] at h
set_option maxRecDepth 100000 in
set_option maxHeartbeats 4000000 in
theorem plain1_any (bn bg bm : Nat) (S : List Int) (n : Int) (w : World) (hN : NumSt w bn bg bm S) (hw : (Lit.int .i64 n).wf = true) (hl : S.length < 140737488355328) :
    Calls Tryz.prog 60 #[.int .i64 n, .pointer (some ⟨bn, 0, none⟩)] w fun e w' => e = .returned ((leaf 1 ⟨#[]⟩ ⟨#[]⟩ ((S.idxOf n : Nat) : Int)).val none 0) ∧ NumSt w' bn bg bm (addN S n) ∧ Chg [bm] w w' := by
  have hnn := hN.nn
  have hng := hN.ng
  have hml := hN.num.lt
  have hnl := cell_lt hN.fn
  have hgl := cell_lt hN.gg
  obtain ⟨W0, hW0⟩ : ∃ W0, W0 = w.alloc (.cells #[.int .i64 0, .string ⟨#[]⟩, .string ⟨#[]⟩, .int .u64 0, .int .i64 0, .slice none 0 0] 25) := ⟨_, rfl⟩
  have B0 := hid (show Below w.heap.size w W0 by rw [hW0]; exact (Below.refl _ _).alloc (Nat.le_refl _) _)
  have R0 := hid (show W0.heap[w.heap.size]? = some (.cells #[.int .i64 0, .string ⟨#[]⟩, .string ⟨#[]⟩, .int .u64 0, .int .i64 0, .slice none 0 0] 25 (0, 0)) by rw [hW0]; exact heap_alloc_new w _)
  have N0 := hid (hN.keep B0.out)
  have C := hid (number_any bg bm S n W0 hw N0.out.gg N0.out.num hl)
  have c0 := N0.out.fn
  generalize S.idxOf n = ix at *
  clear hN
  have CV := hid (fun (W : World) => (show Calls Tryz.prog 61 #[.int .i64 (ix : Int)] W fun e w' => e = .returned (.agg #[.int .i64 1, .string ⟨#[]⟩, .string ⟨#[]⟩, .int .u64 0, .int .i64 (ix : Int), .slice none 0 0]) ∧ Below W.heap.size W w' from variable_any (ix : Int) W))
  go_enter Tryz.func60, Tryz.ntmps60
  go_upto_region 1 with fail
  rw [← hW0]
  clear hW0
  go_wp2_with (first
    | (go_at_call 90; (with_reducible refine C.out.mono ?_); rintro e w1 ⟨rfl, hN1, hg1⟩; have N1 := hid (show NumSt w1 bn bg bm (addN S n) from ⟨hg1.cell N0.out.fn (fun e => hnn (Option.some.inj e)), hg1.cell N0.out.gg (fun e => hng (Option.some.inj e)), hN1⟩); have R1 := hid ((hg1.block w.heap.size (lt_of_block R0.out) (fun e => by have := Option.some.inj e; omega)).trans R0.out); have C1 := hid (show Chg [bm] w w1 from (Chg.of_below B0.out).trans (Chg.of_grown hg1 (fun x e => by cases e; simp))); clear hN1 hg1 C)
    | (go_at_call 61; (with_reducible refine (CV.out w1).mono ?_); rintro e w2 ⟨rfl, hb2⟩; have N2 := hid (N1.out.keep hb2); have R2 := hid ((hb2.block _ (lt_of_block R1.out)).trans R1.out); have C2 := hid (show Chg [bm] w w2 from C1.out.trans (Chg.of_below hb2)); have hz2 := hb2.size; have hz1 := C1.out.size; clear hb2; obtain ⟨⟨z0, z1, z2, z3, z4, z5⟩, ⟨f0, f1, f2, f3, f4, f5⟩⟩ := six_free R2.out)
    | fail)
  have hgr := set6_grown w2 w.heap.size (.int .i64 1) (.string ⟨#[]⟩) (.string ⟨#[]⟩) (.int .u64 0) (.int .i64 (ix : Int)) (.slice none 0 0)
  have h6 := set6 R2.out (.int .i64 1) (.string ⟨#[]⟩) (.string ⟨#[]⟩) (.int .u64 0) (.int .i64 (ix : Int)) (.slice none 0 0)
  exact bodyPost_ret (results_tm rfl _ _ w.heap.size (leaf 1 ⟨#[]⟩ ⟨#[]⟩ (ix : Int)) none 0 (by rfl) h6) rfl ⟨rfl, ⟨hgr.cell N2.out.fn (fun e => by have h : bn = w.heap.size := Option.some.inj e; omega), hgr.cell N2.out.gg (fun e => by have h : bg = w.heap.size := Option.some.inj e; omega), N2.out.num.kept hgr (fun e => by have := Option.some.inj e; omega)⟩, C2.out.grown hgr (fun x e => by cases e; exact .inl (Nat.le_refl _))⟩
end Go.Proofs.YtkapejcbmonfkaaGreatDoor

namespace Go.Proofs.YtkapejcbmonfkaaGreatDoor
open Go.RowKit

/-- Numbers for some variables. -/
def bindsZ (Z : List Int) : List Bnd := (List.range Z.length).map fun i => (Z.getD i 0, leaf 1 ⟨#[]⟩ ⟨#[]⟩ (i : Int))
theorem bindsZ_length (Z : List Int) : (bindsZ Z).length = Z.length := by simp [bindsZ]
theorem bindsZ_get (Z : List Int) (k : Nat) (h : k < (bindsZ Z).length) : (bindsZ Z)[k] = (Z[k]'(by rwa [bindsZ_length] at h), leaf 1 ⟨#[]⟩ ⟨#[]⟩ (k : Int)) := by
  have h' : k < Z.length := by rwa [bindsZ_length] at h
  simp [bindsZ, h']
/-- Some terms with their variables numbered anew. -/
def plainD (l : List Tm) : List Tm := l.map (instT (bindsZ (varsR l [])))
theorem leaf_cp (v : Int) : AllT CpOk (leaf 1 ⟨#[]⟩ ⟨#[]⟩ v) := by
  unfold leaf AllT AllR
  exact ⟨⟨fun _ => ⟨rfl, rfl, rfl, rfl⟩, by simp [Tm.args]⟩, trivial⟩
theorem len_nodesL : ∀ (l : List Tm), l.length ≤ nodesL l
  | [] => by simp [nodesL]
  | t :: l => by have := len_nodesL l; have := nodes_pos t; simp only [nodesL, List.length_cons]; omega
theorem lookB_from (l : List Bnd) (v : Int) : ∀ (k : Nat), k ≤ l.length → (∀ j (h : j < l.length), j < k → l[j].1 ≠ v) → lookB l v = lookB (l.drop k) v
  | 0, _, _ => by rw [List.drop_zero]
  | k + 1, hk, h => by
    rw [lookB_from l v k (by omega) fun j hj hjk => h j hj (by omega), lookB_drop l v k (by omega), if_neg (h k (by omega) (by omega))]
theorem lookB_at (l : List Bnd) (v : Int) (k : Nat) (hk : k < l.length) (h : ∀ j (h : j < l.length), j < k → l[j].1 ≠ v) (he : l[k].1 = v) : lookB l v = some l[k].2 := by
  rw [lookB_from l v k (by omega) h, lookB_drop l v k hk, if_pos he]
theorem instV_mem (Z : List Int) (v : Int) (h : v ∈ Z) : instV (bindsZ Z) v = leaf 1 ⟨#[]⟩ ⟨#[]⟩ ((Z.idxOf v : Nat) : Int) := by
  have hlt := List.idxOf_lt_length_of_mem h
  have hlb : Z.idxOf v < (bindsZ Z).length := by rw [bindsZ_length]; exact hlt
  have e := lookB_at (bindsZ Z) v (Z.idxOf v) hlb (fun j hj hjk => by
    rw [bindsZ_get Z j hj]
    intro e
    have hj' : j < Z.length := by rwa [bindsZ_length] at hj
    have h9 := List.not_of_lt_findIdx (p := (· == v)) (xs := Z) (i := j) hjk
    simp only [beq_eq_false_iff_ne, ne_eq] at h9
    exact h9 e) (by rw [bindsZ_get Z _ hlb]; exact List.getElem_idxOf hlt)
  unfold instV
  rw [e, bindsZ_get Z _ hlb]
theorem addN_idx (Z : List Int) (v : Int) : v ∈ addN Z v ∧ (addN Z v).idxOf v = Z.idxOf v := by
  unfold addN
  by_cases h : v ∈ Z
  · rw [if_pos h]; exact ⟨h, rfl⟩
  · rw [if_neg h]
    refine ⟨by simp, ?_⟩
    rw [List.idxOf_append, if_neg h, List.idxOf_eq_length h]
    simp
theorem instV_bindsZ (Zf Z : List Int) (v : Int) (h : addN Z v <+: Zf) : instV (bindsZ Zf) v = leaf 1 ⟨#[]⟩ ⟨#[]⟩ ((Z.idxOf v : Nat) : Int) := by
  obtain ⟨r, rfl⟩ := h
  obtain ⟨h1, h2⟩ := addN_idx Z v
  rw [instV_mem _ v (List.mem_append_left _ h1), List.idxOf_append, if_pos h1, h2]
theorem addN_prefix (Z : List Int) (v : Int) : Z <+: addN Z v := by
  unfold addN
  split
  · exact List.prefix_rfl
  · exact List.prefix_append _ _
mutual
theorem varsT_prefix : ∀ (t : Tm) (Z : List Int), Z <+: varsT t Z
  | .mk k n u b v l, Z => by
    rw [varsT]
    refine List.IsPrefix.trans ?_ (varsR_prefix l _)
    split
    · exact addN_prefix Z v
    · exact List.prefix_rfl
theorem varsR_prefix : ∀ (l : List Tm) (Z : List Int), Z <+: varsR l Z
  | [], Z => by rw [varsR]; exact List.prefix_rfl
  | t :: l, Z => by rw [varsR]; exact (varsT_prefix t Z).trans (varsR_prefix l _)
end
theorem varsR_append : ∀ (a b : List Tm) (Z : List Int), varsR (a ++ b) Z = varsR b (varsR a Z)
  | [], b, Z => by rw [List.nil_append, varsR]
  | t :: a, b, Z => by rw [List.cons_append, varsR, varsR_append a b, varsR]
theorem varsR_take_prefix (l : List Tm) (k : Nat) (Z : List Int) : varsR (l.take k) Z <+: varsR l Z := by
  have h : varsR l Z = varsR (l.drop k) (varsR (l.take k) Z) := by rw [← varsR_append, List.take_append_drop]
  rw [h]
  exact varsR_prefix _ _
theorem varsT_ge (t : Tm) (Z : List Int) : Z.length ≤ (varsT t Z).length := (varsT_prefix t Z).length_le
end Go.Proofs.YtkapejcbmonfkaaGreatDoor

namespace Go.Proofs.YtkapejcbmonfkaaGreatDoor
open Go.RowKit Go.Maps

set_option maxRecDepth 100000 in
set_option maxHeartbeats 16000000 in
theorem fillN_any (w0 : World) (bn bg bm : Nat) (hbm : w0.heap.size ≤ bm) (Zf : List Int) (hZf : Zf.length < 140737488355328) (d : Nat) : ∀ (t : Tm) (p : Option Addr) (cap : Nat) (Z : List Int) (w : World), nodes t ≤ d → TmAt w0 t p → AllT CpOk t → AllT DomA t → Below w0.heap.size w0 w → NumSt w bn bg bm Z → varsT t Z <+: Zf →
    Calls Tryz.prog 59 #[t.val p cap, .func (.func 60) #[] #[.pointer (some ⟨bn, 0, none⟩)]] w fun e w' => ∃ q c S, e = .returned ((instT (bindsZ Zf) t).val q c) ∧ MineT w' (instT (bindsZ Zf) t) q c S ∧ (∀ k ∈ S, w.heap.size ≤ k) ∧ NumSt w' bn bg bm (varsT t Z) ∧ Chg [bm] w w' := by
  induction d with
  | zero => intro t p cap w h; have := nodes_pos t; omega
  | succ d ih =>
    intro t p cap Z w hd hT hC hA hB0 hP hpre
    have HB0 := hid hB0
    have HPRE := hid hpre
    have hml := hP.num.lt
    have hnl := cell_lt hP.fn
    have hgl := cell_lt hP.gg
    have hnn := hP.nn
    have hng := hP.ng
    have BW0 := hid (fun (W : World) (h : Chg [bm] w W) => (Chg.low hB0 h (fun x hx => by simp at hx; omega) : Below w0.heap.size w0 W))
    have HIV := hid (fun (Z' : List Int) (v : Int) (h : addN Z' v <+: Zf) => instV_bindsZ Zf Z' v h)
    clear hB0 hpre
    obtain ⟨l, hl⟩ : ∃ l, l = bindsZ Zf := ⟨_, rfl⟩
    rw [← hl] at HIV ⊢
    have IHl := ih
    rw [← hl] at IHl
    have HA := hid hA
    have HP := hid hP
    have hva : (Lit.int .i64 t.var).wf = true := hA.head.var
    have HVA := hid hva
    clear hA hP hva
    have IH := hid IHl
    clear IHl hl
    have HT := hid hT
    have HC := hid hC
    have hlt := hT.len
    unfold maxLen at hlt
    by_cases h1 : t.kind = 1
    · obtain ⟨a1, a2, a3, a4⟩ := hC.head.1 h1
      have ht : t = leaf 1 ⟨#[]⟩ ⟨#[]⟩ t.var := by
        cases t; simp only [Tm.kind, Tm.name, Tm.num, Tm.bits, Tm.args, Tm.var] at *; subst h1 a1 a2 a3 a4; rfl
      have hvt : varsT t Z = addN Z t.var := by rw [varsT_args, if_pos h1, a4]; simp [varsR]
      have hI : instT l t = leaf 1 ⟨#[]⟩ ⟨#[]⟩ ((Z.idxOf t.var : Nat) : Int) := (instT_var h1).trans (HIV.out Z t.var (by rw [← hvt]; exact HPRE.out))
      have hzl : Z.length < 140737488355328 := by
        have h8 := HPRE.out.length_le
        have h9 := varsT_ge t Z
        omega
      have HF := hid (fun (W : World) (h : Below w.heap.size w W) => plain1_any bn bg bm Z t.var W (HP.out.keep h) HVA.out hzl)
      rw [hI, hvt]
      generalize t.var = v at *
      generalize Z.idxOf v = ix at *
      generalize addN Z v = Z2 at *
      subst ht
      rw [show (leaf 1 ⟨#[]⟩ ⟨#[]⟩ (ix : Int)).val none 0 = .agg #[.int .i64 1, .string ⟨#[]⟩, .string ⟨#[]⟩, .int .u64 0, .int .i64 (ix : Int), .slice none 0 0] from rfl] at HF
      clear ih IH HT HC hT hC a1 a2 a3 a4 h1 hlt HA hI HIV HPRE hvt BW0 HB0
      show Calls Tryz.prog 59 #[.agg #[.int .i64 1, .string ⟨#[]⟩, .string ⟨#[]⟩, .int .u64 0, .int .i64 v, .slice p 0 cap], .func (.func 60) #[] #[.pointer (some ⟨bn, 0, none⟩)]] w _
      go_enter Tryz.func59, Tryz.ntmps59
      go_wp2_with (go_at_call 60; (with_reducible refine (HF.out _ (((Below.refl _ _).alloc (Nat.le_refl _) _).alloc (by simp) _)).mono ?_); rintro e w2 ⟨rfl, hn2, hc2⟩; have HN2 := hid hn2; have hg := heap_alloc_new (w.alloc (tobj (leaf 1 ⟨#[]⟩ ⟨#[]⟩ v) p cap)) (tobj (leaf 0 ⟨#[]⟩ ⟨#[]⟩ 0) none 0); rw [World.size_alloc] at hg; have HG := hid (show w2.heap[w.heap.size + 1]? = some (.cells #[.int .i64 0, .string ⟨#[]⟩, .string ⟨#[]⟩, .int .u64 0, .int .i64 0, .slice none 0 0] 25 (0, 0)) from (Chg.same hc2 _ (by simp) (by simp; omega)).trans hg); have B2 := hid (show Chg [bm] w w2 from (Chg.of_below (((Below.refl w.heap.size w).alloc (Nat.le_refl _) _).alloc (by simp) _)).trans hc2); obtain ⟨⟨z0, z1, z2, z3, z4, z5⟩, ⟨f0, f1, f2, f3, f4, f5⟩⟩ := six_free HG.out; clear hg hn2 hc2)
      have hgr := set6_grown w2 (w.heap.size + 1) (.int .i64 1) (.string ⟨#[]⟩) (.string ⟨#[]⟩) (.int .u64 0) (.int .i64 (ix : Int)) (.slice none 0 0)
      have h6 := set6 HG.out (.int .i64 1) (.string ⟨#[]⟩) (.string ⟨#[]⟩) (.int .u64 0) (.int .i64 (ix : Int)) (.slice none 0 0)
      exact bodyPost_ret (results_tm rfl _ _ (w.heap.size + 1) (leaf 1 ⟨#[]⟩ ⟨#[]⟩ (ix : Int)) none 0 (by rfl) h6) rfl ⟨none, 0, [], rfl, leaf_mine _ _ _ _ _, (fun k hk => by cases hk), ⟨hgr.cell HN2.out.fn (fun e => by have h : bn = w.heap.size + 1 := Option.some.inj e; omega), hgr.cell HN2.out.gg (fun e => by have h : bg = w.heap.size + 1 := Option.some.inj e; omega), HN2.out.num.kept hgr (fun e => by have h : bm = w.heap.size + 1 := Option.some.inj e; omega)⟩, B2.out.grown hgr (fun x e => by cases e; exact .inl (by omega))⟩
    · have hq1 : (t.kind == 1) = false := beq_eq_false_iff_ne.2 h1
      have hI : instT l t = .mk t.kind t.name t.num t.bits t.var (t.args.map (instT l)) := instT_not h1
      rw [hI]
      clear hI
      have hvt : varsT t Z = varsR t.args Z := by rw [varsT_args, if_neg h1]
      have HPK := hid (fun k => (show varsR (t.args.take k) Z <+: Zf from (varsR_take_prefix t.args k Z).trans (by rw [← hvt]; exact HPRE.out)))
      have HVK := hid (fun k (hk : k < t.args.length) => varsR_take Z t.args k hk)
      rw [hvt]
      clear hvt HIV HPRE
      have HUV := hid (show ∀ q c, (Tm.mk t.kind t.name t.num t.bits t.var (t.args.map (instT l))).val q c = t.val q c from fun q c => by
        show Value.agg #[.int .i64 t.kind, .string t.name, .string t.num, .int .u64 t.bits, .int .i64 t.var, .slice q (t.args.map (instT l)).length c] = _
        rw [List.length_map]; rfl)
      simp only [HUV.out]
      by_cases hn : t.args.length = 0
      · have ha : t.args = [] := List.length_eq_zero_iff.1 hn
        have hm : ∀ W, MineT W (Tm.mk t.kind t.name t.num t.bits t.var (t.args.map (instT l))) none 0 [] := fun W => by
          unfold MineT; simp only [ha, List.map_nil]; exact ⟨by simp, .inl (by simp)⟩
        have HM := hid hm
        have HN := hid hn
        have HV := hid (show t.val none 0 = .agg #[.int .i64 t.kind, .string t.name, .string t.num, .int .u64 t.bits, .int .i64 t.var, .slice none 0 0] by unfold Tm.val; rw [hn])
        unfold Tm.val
        rw [hn]
        have hvz : varsR t.args Z = Z := by rw [ha]; rfl
        rw [hvz]
        clear IH ih HT HC hT hC hlt h1 hm ha hn HA HVA HPK HVK hvz BW0 HB0
        go_enter Tryz.func59, Tryz.ntmps59
        go_wp2_with fail
        refine wp_loop_rounds 1 ?_
        rw [rounds_succ]
        go_wp2
        have hg := heap_alloc_new (w.alloc (.cells #[.int .i64 t.kind, .string t.name, .string t.num, .int .u64 t.bits, .int .i64 t.var, .slice none 0 0] 25)) (.cells #[.int .i64 t.kind, .string t.name, .string t.num, .int .u64 t.bits, .int .i64 t.var, .slice none 0 0] 25)
        rw [World.size_alloc] at hg
        have hg2 : ((w.alloc (.cells #[.int .i64 t.kind, .string t.name, .string t.num, .int .u64 t.bits, .int .i64 t.var, .slice none 0 0] 25)).alloc (.cells #[.int .i64 t.kind, .string t.name, .string t.num, .int .u64 t.bits, .int .i64 t.var, .slice none 0 0] 25)).heap[w.heap.size + 1]? = some (tobj t none 0) := by
          unfold tobj; rw [HN.out]; exact hg
        refine bodyPost_ret ((results_tm rfl _ _ (w.heap.size + 1) t none 0 (by rfl) hg2).trans (by rw [HV.out])) rfl ⟨none, 0, [], rfl, HM.out _, by simp, HP.out.keep (((Below.refl _ _).alloc (Nat.le_refl _) _).alloc (by simp) _), Chg.of_below (((Below.refl _ _).alloc (Nat.le_refl _) _).alloc (by simp) _)⟩
      · have hn0 : (0 : Int) < (t.args.length : Int) := by omega
        have hz := hC.head.2
        obtain ⟨i0, hi, hz0, hz1, hz2⟩ := info_parts infoTerm
        obtain ⟨W0, hW0⟩ : ∃ W0, W0 = (w.alloc (.cells #[.int .i64 t.kind, .string t.name, .string t.num, .int .u64 t.bits, .int .i64 t.var, .slice none 0 0] 25)).alloc (tobj (leaf 0 ⟨#[]⟩ ⟨#[]⟩ 0) none 0) := ⟨_, rfl⟩
        have hs0 : W0.heap.size = w.heap.size + 2 := by rw [hW0]; simp
        have hB := hid (show Below w.heap.size w W0 by rw [hW0]; exact ((Below.refl w.heap.size w).alloc (Nat.le_refl _) _).alloc (by simp) _)
        obtain ⟨w1, hrun, hown, hgrow⟩ := run_make_full (P := Tryz.prog) W0 W0.heap.size 23 25 i0 (.agg #[.int .i64 0, .string ⟨#[]⟩, .string ⟨#[]⟩, .int .u64 0, .int .i64 0, .slice none 0 0]) 6 Tryz.underlying23 hi hz0 hz1 .i64 .i64 t.args.length (by rw [hz2]; omega) (by unfold maxLen; omega) (Nat.le_refl _)
        rw [hW0] at hrun
        rw [show tobj (leaf 0 ⟨#[]⟩ ⟨#[]⟩ 0) none 0 = .cells #[.int .i64 0, .string ⟨#[]⟩, .string ⟨#[]⟩, .int .u64 0, .int .i64 0, .slice none 0 0] 25 from rfl] at hrun
        have hne : ∀ k, k ≠ W0.heap.size → w1.heap[k]? = W0.heap[k]? ∨ W0.heap.size ≤ k := fun k _ => by
          by_cases h : k < W0.heap.size
          · exact .inl (hgrow.block k h (by simp))
          · exact .inr (by omega)
        have hg0 : w1.heap[w.heap.size]? = some (.cells #[.int .i64 t.kind, .string t.name, .string t.num, .int .u64 t.bits, .int .i64 t.var, .slice none 0 0] 25 (0, 0)) := by
          refine (hgrow.block _ (by omega) (by simp)).trans ?_
          rw [hW0]
          exact (heap_alloc_old (w.alloc _) _ (by simp)).trans (heap_alloc_new w _)
        have hg1 : w1.heap[w.heap.size + 1]? = some (.cells #[.int .i64 0, .string ⟨#[]⟩, .string ⟨#[]⟩, .int .u64 0, .int .i64 0, .slice none 0 0] 25 (0, 0)) := by
          refine (hgrow.block _ (by omega) (by simp)).trans ?_
          rw [hW0]
          have h := heap_alloc_new (w.alloc (.cells #[.int .i64 t.kind, .string t.name, .string t.num, .int .u64 t.bits, .int .i64 t.var, .slice none 0 0] 25)) (tobj (leaf 0 ⟨#[]⟩ ⟨#[]⟩ 0) none 0)
          rw [World.size_alloc] at h
          exact h
        obtain ⟨cur, hgb, hcs⟩ : ∃ cur, w1.heap[w.heap.size + 1 + 1]? = some (.cells cur 25 (0, 0)) ∧ cur.size = t.args.length * 6 := by
          rcases hown.2 with ⟨h', _⟩ | ⟨g', cap', cur, h', _, hg, _, _, hs, _⟩
          · simp at h'
          · simp only [Value.slice.injEq, Option.some.injEq, Addr.mk.injEq, and_true, true_and] at h'
            obtain ⟨rfl, rfl⟩ := h'
            rw [hs0] at hg
            exact ⟨cur, hg, hs⟩
        have hB1 := hid (show Below w.heap.size w w1 from hB.out.trans (((Below.refl _ _).grown hgrow (Nat.le_refl _) (by intro k hk; simp at hk)).mono hB.out.size))
        have hsz1 : w.heap.size + 1 + 1 < w1.heap.size := lt_of_block hgb
        obtain ⟨⟨z0, z1, z2, z3, z4, z5⟩, ⟨f0, f1, f2, f3, f4, f5⟩⟩ := six_free hg0
        have HG0 := hid hg0
        have HG1 := hid hg1
        have HGB := hid hgb
        unfold Tm.val
        clear ih hne hg0 hg1 hgb hown hgrow hi hz0 hz1 hz2 hW0 hT hC hB
        go_enter Tryz.func59, Tryz.ntmps59
        go_wp2_with fail
        obtain ⟨W2, hW2⟩ : ∃ W2, W2 = w1.setCell ⟨w.heap.size, 5, none⟩ (.slice (some ⟨w.heap.size + 1 + 1, 0, none⟩) t.args.length t.args.length) := ⟨_, rfl⟩
        rw [← hW2]
        have hg0 := heap_setCell_same w1 w.heap.size 5 _ _ (.slice (some ⟨w.heap.size + 1 + 1, 0, none⟩) t.args.length t.args.length) HG0.out
        have hoth : ∀ k, k ≠ w.heap.size → W2.heap[k]? = w1.heap[k]? := fun k hk => by rw [hW2]; exact heap_setCell_other w1 ⟨w.heap.size, 5, none⟩ k _ (fun e => hk e)
        rw [← hW2] at hg0
        have P0 := hid (show W2.heap[w.heap.size]? = some (tobj t (some ⟨w.heap.size + 1 + 1, 0, none⟩) t.args.length) from hg0)
        have P1 := hid ((hoth (w.heap.size + 1) (by omega)).trans HG1.out)
        have PB := hid ((hoth (w.heap.size + 1 + 1) (by omega)).trans HGB.out)
        have B2 := hid (show Below w.heap.size w W2 by rw [hW2]; exact hB1.out.setCell (Nat.le_refl _) _)
        have hcs' := hid hcs
        have hdec : decide (0 < t.args.length) = true := decide_eq_true (by omega)
        (try simp only [hdec])
        clear hdec
        clear hg0 hoth HG0 HG1 HGB z0 z1 z2 z3 z4 z5 f0 f1 f2 f3 f4 f5 hrun hW2 hB1 hsz1 hcs
        go_loopw [27] (fun i wr => ∃ (k : Nat) (S : List Nat) (arr : Array Value), k ≤ t.args.length ∧ i = .int .i64 (k : Int) ∧ Hid (wr.heap[w.heap.size]? = some (tobj t (some ⟨w.heap.size + 1 + 1, 0, none⟩) t.args.length)) ∧ Hid (wr.heap[w.heap.size + 1]? = some (.cells #[.int .i64 0, .string ⟨#[]⟩, .string ⟨#[]⟩, .int .u64 0, .int .i64 0, .slice none 0 0] 25 (0, 0))) ∧ Hid (wr.heap[w.heap.size + 1 + 1]? = some (.cells arr 25 (0, 0))) ∧ Hid (arr.size = t.args.length * 6) ∧ Hid (MineR wr ((t.args.take k).map (instT l)) (w.heap.size + 1 + 1) 0 S) ∧ Hid (∀ x ∈ S, w.heap.size + 1 + 1 < x) ∧ Hid (NumSt wr bn bg bm (varsR (t.args.take k) Z)) ∧ Hid (Chg [bm] w wr)) (fun i _ => t.args.length - (intOf i).toNat)
        case atStart => exact ⟨0, [], cur, by omega, rfl, P0, P1, PB, hcs', hid (by rw [List.take_zero, List.map_nil]; unfold MineR; rfl), hid (by simp), hid (HP.out.keep B2.out), hid (Chg.of_below B2.out)⟩
        case round =>
          clear P0 P1 PB B2 hcs'
          obtain ⟨k, S, arr, hk, rfl, P0, P1, PB, hcs, HM, HS, HNr, hBr⟩ := hrel
          by_cases hlt : k < t.args.length
          · have hk0 : (0 : Int) ≤ (k : Int) := by omega
            have hk1 : (k : Int) < (t.args.length : Int) := by omega
            obtain ⟨b, o, rfl, e1, c1, hs0, ht1⟩ := HT.out.get k hlt
            have hs1 := hs0.keep (BW0.out wr hBr.out)
            clear hs0
            have HCALL := hid (fun (W : World) (h : Below wr.heap.size wr W) => IH.out t.args[k] e1 c1 (varsR (t.args.take k) Z) W (by have := nodes_lt hlt; omega) ht1 (HC.out.arg k hlt) (HA.out.arg k hlt) ((BW0.out wr hBr.out).trans (h.mono (BW0.out wr hBr.out).size)) (HNr.out.keep h) (by rw [← HVK.out k hlt]; exact HPK.out (k + 1)))
            have HZ2 := hid (HVK.out k hlt)
            have HTK := hid (show (t.args.take (k + 1)).map (instT l) = (t.args.take k).map (instT l) ++ [instT l t.args[k]] by rw [← List.take_append_getElem hlt, List.map_append]; rfl)
            clear ht1
            generalize t.args[k] = t1 at *
            generalize instT l t1 = u1 at *
            rw [← HZ2.out] at HCALL
            clear HZ2
            unfold Tm.val at HCALL
            obtain ⟨x0, x1, x2, x3, x4, x5⟩ := hs1
            go_wp2_with fail
            obtain ⟨Wp, hWp⟩ : ∃ Wp, Wp = wr.alloc (tobj t1 e1 c1) := ⟨_, rfl⟩
            have hWp' := hWp
            unfold tobj at hWp'
            rw [← hWp']
            have BP := hid (show Below wr.heap.size wr Wp by rw [hWp]; exact (Below.refl _ _).alloc (Nat.le_refl _) _)
            have hsp : Wp.heap.size = wr.heap.size + 1 := by rw [hWp]; simp
            have hp6 := six_of (show Wp.heap[wr.heap.size]? = some (tobj t1 e1 c1) by rw [hWp]; exact heap_alloc_new wr _)
            have hlw : w.heap.size + 1 + 1 < wr.heap.size := lt_of_block PB.out
            have SX := hid (show ∀ W : World, Chg [w.heap.size + 1 + 1, bm] Wp W → W.cell? ⟨w.heap.size, 5, none⟩ = some (.slice (some ⟨w.heap.size + 1 + 1, 0, none⟩) t.args.length t.args.length) ∧ W.cell? ⟨wr.heap.size, 0, none⟩ = some (.int .i64 t1.kind) ∧ W.cell? ⟨wr.heap.size, 1, none⟩ = some (.string t1.name) ∧ W.cell? ⟨wr.heap.size, 2, none⟩ = some (.string t1.num) ∧ W.cell? ⟨wr.heap.size, 3, none⟩ = some (.int .u64 t1.bits) ∧ W.cell? ⟨wr.heap.size, 4, none⟩ = some (.int .i64 t1.var) ∧ W.cell? ⟨wr.heap.size, 5, none⟩ = some (.slice e1 t1.args.length c1) from fun W h =>
              have q := fun j (v : Value) (hh : Wp.cell? ⟨wr.heap.size, j, none⟩ = some v) => ((World.cell?_of_block (a := ⟨wr.heap.size, j, none⟩) (Chg.same h wr.heap.size (by omega) (by simp; omega))).trans hh : W.cell? ⟨wr.heap.size, j, none⟩ = some v)
              ⟨(six_of ((Chg.same h w.heap.size (by omega) (by simp; omega)).trans ((BP.out.block _ (by omega)).trans P0.out))).c5, q _ _ hp6.c0, q _ _ hp6.c1, q _ _ hp6.c2, q _ _ hp6.c3, q _ _ hp6.c4, q _ _ hp6.c5⟩)
            clear x0 x1 x2 x3 x4 x5 hp6 hWp hWp'
            have sd := SX.out Wp.drew (Chg.of_below (Below.refl _ _).drew)
            refine wp_region_held_drew (S := fun W => W.cell? ⟨w.heap.size, 5, none⟩ = some (.slice (some ⟨w.heap.size + 1 + 1, 0, none⟩) t.args.length t.args.length) ∧ W.cell? ⟨wr.heap.size, 0, none⟩ = some (.int .i64 t1.kind) ∧ W.cell? ⟨wr.heap.size, 1, none⟩ = some (.string t1.name) ∧ W.cell? ⟨wr.heap.size, 2, none⟩ = some (.string t1.num) ∧ W.cell? ⟨wr.heap.size, 3, none⟩ = some (.int .u64 t1.bits) ∧ W.cell? ⟨wr.heap.size, 4, none⟩ = some (.int .i64 t1.var) ∧ W.cell? ⟨wr.heap.size, 5, none⟩ = some (.slice e1 t1.args.length c1)) (by kernel_rfl) sd (fun hHeld => ?_)
            refine' wpAnyH_take (i := 0) (v := (.pointer (some ⟨w.heap.size, 5, none⟩))) rfl (by decide +kernel) (by decide +kernel) (by decide +kernel) (fun _ _ _ h => h) (Or.inl ⟨by rfl, ?hyA0⟩) (by assumption) ?restA0
            case hyA0 => (intro w5 hSw; (try dsimp only at hSw); go_simp; try with_reducible rfl)
            case' restA0 => (try simp only [Act.put, List.setIfInBounds_toArray, List.set_cons_zero, List.set_cons_succ])
            refine' wpAnyH_take (i := 1) (v := (.slice (some ⟨w.heap.size + 1 + 1, 0, none⟩) t.args.length t.args.length)) rfl (by decide +kernel) (by decide +kernel) (by decide +kernel) (fun _ _ _ h => h) (Or.inl ⟨by rfl, ?hyA1⟩) (by assumption) ?restA1
            case hyA1 => (intro w5 hSw; (try dsimp only at hSw); go_simp; try with_reducible rfl)
            case' restA1 => (try simp only [Act.put, List.setIfInBounds_toArray, List.set_cons_zero, List.set_cons_succ])
            refine' wpAnyH_take (i := 2) (v := (.int .i64 (k : Int))) rfl (by decide +kernel) (by decide +kernel) (by decide +kernel) (fun _ _ _ h => h) (Or.inl ⟨by rfl, ?hyA2⟩) (by assumption) ?restA2
            case hyA2 => (intro w5 hSw; (try dsimp only at hSw); go_simp; try with_reducible rfl)
            case' restA2 => (try simp only [Act.put, List.setIfInBounds_toArray, List.set_cons_zero, List.set_cons_succ])
            refine' wpAnyH_take (i := 3) (v := (.agg #[.int .i64 t1.kind, .string t1.name, .string t1.num, .int .u64 t1.bits, .int .i64 t1.var, .slice e1 t1.args.length c1])) rfl (by decide +kernel) (by decide +kernel) (by decide +kernel) (fun _ _ _ h => h) (Or.inl ⟨by rfl, ?hyA3⟩) (by assumption) ?restA3
            case hyA3 => (intro w5 hSw; (try dsimp only at hSw); go_simp; try with_reducible rfl)
            case' restA3 => (try simp only [Act.put, List.setIfInBounds_toArray, List.set_cons_zero, List.set_cons_succ])
            refine' wpAnyH_take (i := 4) (v := (.func (.func 60) #[] #[.pointer (some ⟨bn, 0, none⟩)])) rfl (by decide +kernel) (by decide +kernel) (by decide +kernel) (fun _ _ _ h => h) (Or.inl ⟨by rfl, ?hyA4⟩) (by assumption) ?restA4
            case hyA4 => (intro w5 hSw; (try dsimp only at hSw); go_simp; try with_reducible rfl)
            case' restA4 => (try simp only [Act.put, List.setIfInBounds_toArray, List.set_cons_zero, List.set_cons_succ])

            refine wpAnyH_ready (rs := [5]) (by decide +kernel) (by simp) ?_
            refine AllReadyH.cons rfl (fun K hK => ?_) AllReadyH.nil
            go_simp
            (with_reducible refine (HCALL.out _ BP.out.drew).mono ?_)
            rintro e w2 ⟨q2, c2, S1, rfl, hm, hS1, hn2, hc2⟩
            have hsd : Wp.drew.heap.size = Wp.heap.size := rfl
            have HH2 := hid (show Chg [w.heap.size + 1 + 1, bm] Wp w2 from (Chg.of_below (Below.refl _ _).drew).trans (hc2.mono (by intro x hx; simp at hx; simp [hx])))
            have BR2 := hid (show Chg [bm] wr w2 from (Chg.of_below BP.out.drew).trans hc2)
            have HN2 := hid hn2
            have PB2 := hid ((Chg.same BR2.out _ hlw (by simp; omega)).trans PB.out)
            have hz2 := hc2.size
            have ha6 : k * 6 + 6 ≤ arr.size := by have := hcs.out; omega
            have f2 : ∀ j, w2.frozen? ⟨w.heap.size + 1 + 1, j, none⟩ = false := fun j => by simp [World.frozen?, PB2.out]
            have g2 : ∀ j, j < 6 → ∃ v, w2.cell? ⟨w.heap.size + 1 + 1, k * 6 + j, none⟩ = some v := fun j hj => ⟨arr[k * 6 + j], by rw [cells_of PB2.out]; exact Array.getElem?_eq_getElem (by omega)⟩
            obtain ⟨v0, y0'⟩ := g2 0 (by omega)
            have y0 : w2.cell? ⟨w.heap.size + 1 + 1, k * 6, none⟩ = some v0 := y0'
            obtain ⟨v1, y1⟩ := g2 1 (by omega)
            obtain ⟨v2, y2⟩ := g2 2 (by omega)
            obtain ⟨v3, y3⟩ := g2 3 (by omega)
            obtain ⟨v4, y4⟩ := g2 4 (by omega)
            obtain ⟨v5, y5⟩ := g2 5 (by omega)
            have r0 := f2 (k * 6)
            have r1 := f2 (k * 6 + 1)
            have r2 := f2 (k * 6 + 2)
            have r3 := f2 (k * 6 + 3)
            have r4 := f2 (k * 6 + 4)
            have r5 := f2 (k * 6 + 5)
            have HMM := hid hm
            have HS1 := hid hS1
            clear f2 g2 hc2 hn2 hm hS1 y0'
            have s2 := SX.out w2 HH2.out
            refine hK.out _ _ s2 (fun hHeld => ?_)
            clear hK K
            (try simp only [Act.put, List.setIfInBounds_toArray, List.set_cons_zero, List.set_cons_succ])
            refine wpAnyH_ready (rs := [6]) (by decide +kernel) (by simp) ?_
            refine AllReadyH.cons rfl (fun K hK => ?_) AllReadyH.nil
            go_simp
            refine hK.out _ _ s2 (fun hHeld => ?_)
            clear hK K
            (try simp only [Act.put, List.setIfInBounds_toArray, List.set_cons_zero, List.set_cons_succ])
            refine wpAnyH_ready (rs := [7]) (by decide +kernel) (by simp) ?_
            refine AllReadyH.cons rfl (fun K hK => ?_) AllReadyH.nil
            go_simp
            obtain ⟨W9, h9⟩ : ∃ W9, W9 = (((((w2.setCell ⟨w.heap.size + 1 + 1, k * 6, none⟩ (.int .i64 u1.kind)).setCell ⟨w.heap.size + 1 + 1, k * 6 + 1, none⟩ (.string u1.name)).setCell ⟨w.heap.size + 1 + 1, k * 6 + 2, none⟩ (.string u1.num)).setCell ⟨w.heap.size + 1 + 1, k * 6 + 3, none⟩ (.int .u64 u1.bits)).setCell ⟨w.heap.size + 1 + 1, k * 6 + 4, none⟩ (.int .i64 u1.var)).setCell ⟨w.heap.size + 1 + 1, k * 6 + 5, none⟩ (.slice q2 u1.args.length c2) := ⟨_, rfl⟩
            rw [← h9]
            obtain ⟨gr9, arr', e9, es, eo, d0, d1, d2, d3, d4, d5⟩ := put6 PB2.out ha6 _ _ _ _ _ _ W9 h9
            have H9 := hid (HH2.out.trans (Chg.of_grown gr9 (fun x e => by cases e; simp)))
            have G9 := hid gr9
            have E9 := hid e9
            refine hK.out _ _ (SX.out W9 H9.out) (fun hHeld => ?_)
            clear hK K
            (try simp only [Act.put, List.setIfInBounds_toArray, List.set_cons_zero, List.set_cons_succ])
            refine wpAnyH_done (by kernel_rfl) ?_ _
            have c9 := fun j => cells_of E9.out j
            have N0 := hid (c9 (k * 6) |>.trans d0)
            have N1 := hid (c9 (k * 6 + 1) |>.trans d1)
            have N2 := hid (c9 (k * 6 + 2) |>.trans d2)
            have N3 := hid (c9 (k * 6 + 3) |>.trans d3)
            have N4 := hid (c9 (k * 6 + 4) |>.trans d4)
            have N5 := hid (c9 (k * 6 + 5) |>.trans d5)
            have ES := hid (es.trans hcs.out)
            have EO := hid eo
            have HA2 := hid (cells_of PB2.out)
            have HA9 := hid c9
            clear h9 gr9 e9 es eo d0 d1 d2 d3 d4 d5 c9 y0 y1 y2 y3 y4 y5 r0 r1 r2 r3 r4 r5 hHeld s2 sd
            go_wp2
            go_roundw
            case rel =>
              have hold : ∀ x, x ≠ w.heap.size + 1 + 1 → x ≠ bm → x < wr.heap.size → W9.heap[x]? = wr.heap[x]? := fun x hx hx2 hl => (G9.out.block x (by have := BR2.out.size; omega) (fun e => hx (Option.some.inj e))).trans (Chg.same BR2.out x hl (by simpa using hx2))
              have hnew : ∀ x ∈ S1, W9.heap[x]? = w2.heap[x]? := fun x hx => G9.out.block x (HMM.out.lt x hx) (fun e => by have := HS1.out x hx; have := Option.some.inj e; omega)
              have hlo : ∀ x ∈ S, x ≠ w.heap.size + 1 + 1 ∧ x ≠ bm ∧ x < wr.heap.size := fun x hx => ⟨by have := HS.out x hx; omega, by have := HS.out x hx; omega, HM.out.lt x hx⟩
              refine ⟨k + 1, S ++ S1, arr', by omega, by go_num, hid ((hold _ (by omega) (by omega) (by omega)).trans P0.out), hid ((hold _ (by omega) (by omega) (by omega)).trans P1.out), E9, ES, hid ?_, hid ?_, hid ⟨G9.out.cell HN2.out.fn (fun e => by have h : bn = w.heap.size + 1 + 1 := Option.some.inj e; omega), G9.out.cell HN2.out.gg (fun e => by have h : bg = w.heap.size + 1 + 1 := Option.some.inj e; omega), HN2.out.num.kept G9.out (fun e => by have h : bm = w.heap.size + 1 + 1 := Option.some.inj e; omega)⟩, hid ?_⟩
              · rw [HTK.out]
                refine MineR.snoc (HM.out.cells (fun j hj => ?_) fun x hx => hold x (hlo x hx).1 (hlo x hx).2.1 (hlo x hx).2.2) ?_ (HMM.out.same hnew) fun x hx h1 => ?_
                · have hj' : j < k * 6 := by simp at hj; omega
                  rw [HA9.out, EO.out _ (by omega), ← HA2.out]
                  exact World.cell?_of_block (a := ⟨w.heap.size + 1 + 1, 0 + j, none⟩) (Chg.same BR2.out _ hlw (by simp; omega))
                · have hl : 0 + ((t.args.take k).map (instT l)).length * 6 = k * 6 := by simp; omega
                  rw [hl]
                  exact ⟨N0.out, N1.out, N2.out, N3.out, N4.out, N5.out⟩
                · have := (hlo x hx).2.2
                  have := HS1.out x h1
                  omega
              · intro x hx
                rcases List.mem_append.1 hx with h | h
                · exact HS.out x h
                · have := HS1.out x h; omega
              · exact (hBr.out.trans BR2.out).grown G9.out (fun x e => by cases e; exact .inl (by omega))
            case measure => simp [intOf]; omega
          · obtain rfl : k = t.args.length := by omega
            obtain ⟨⟨z0, z1, z2, z3, z4, z5⟩, ⟨f0, f1, f2, f3, f4, f5⟩⟩ := six_free P1.out
            obtain ⟨x0, x1, x2, x3, x4, x5⟩ := six_of P0.out
            have hMT : MineR wr (t.args.map (instT l)) (w.heap.size + 1 + 1) 0 S := by have h := HM.out; rwa [List.take_length] at h
            have HMT := hid hMT
            have HNE := hid (show NumSt wr bn bg bm (varsR t.args Z) by have h := HNr.out; rwa [List.take_length] at h)
            clear hMT HM
            go_wp2
            have h1 := set6 P1.out (.int .i64 t.kind) (.string t.name) (.string t.num) (.int .u64 t.bits) (.int .i64 t.var) (.slice (some ⟨w.heap.size + 1 + 1, 0, none⟩) t.args.length t.args.length)
            have hgr := set6_grown wr (w.heap.size + 1) (.int .i64 t.kind) (.string t.name) (.string t.num) (.int .u64 t.bits) (.int .i64 t.var) (.slice (some ⟨w.heap.size + 1 + 1, 0, none⟩) t.args.length t.args.length)
            refine bodyPost_ret (results_tm rfl _ _ (w.heap.size + 1) t (some ⟨w.heap.size + 1 + 1, 0, none⟩) t.args.length (by rfl) h1) rfl ⟨some ⟨w.heap.size + 1 + 1, 0, none⟩, t.args.length, (w.heap.size + 1 + 1) :: S, rfl, ?_, ?_, ⟨hgr.cell HNE.out.fn (fun e => by have h : bn = w.heap.size + 1 := Option.some.inj e; omega), hgr.cell HNE.out.gg (fun e => by have h : bg = w.heap.size + 1 := Option.some.inj e; omega), HNE.out.num.kept hgr (fun e => by have h : bm = w.heap.size + 1 := Option.some.inj e; omega)⟩, hBr.out.grown hgr (fun x e => by cases e; exact .inl (by omega))⟩
            · have hoth : ∀ x, x < wr.heap.size → x ≠ w.heap.size + 1 → _ := fun x hx hne => hgr.block x hx (fun e => hne (Option.some.inj e))
              have hb := (hoth (w.heap.size + 1 + 1) (lt_of_block PB.out) (by omega)).trans PB.out
              have hr := HMT.out.same (hoth (w.heap.size + 1 + 1) (lt_of_block PB.out) (by omega)) (fun x hx => hoth x (HMT.out.lt x hx) (by have := HS.out x hx; omega))
              have hl4 : t.args.length ≤ 64 := hz
              unfold MineT
              refine ⟨by rw [List.length_map]; omega, .inr ⟨_, arr, S, rfl, rfl, hb, hcs.out, ⟨by rw [List.length_map]; exact Nat.le_refl _, by unfold maxLen; omega⟩, fun h => by have := HS.out _ h; omega, hr⟩⟩
            · intro x hx
              rcases List.mem_cons.1 hx with rfl | hx
              · omega
              · have := HS.out x hx; omega
end Go.Proofs.YtkapejcbmonfkaaGreatDoor

namespace Go.Proofs.YtkapejcbmonfkaaGreatDoor
open Go.RowKit Go.Maps

set_option maxRecDepth 100000 in
set_option maxHeartbeats 16000000 in
theorem plain_good (l : List Tm) (p : Option Addr) (cap : Nat) (w : World) (hl : ListAt w l p) (hX : Utf w) (hD : AllR DomA l) (hsz : nodesL l ≤ 1048576) (he : checksErr vName numOk bitsOk l = 0) :
    Calls Tryz.prog 18 #[.slice p l.length cap] w fun e w' => ∃ q c S, e = .returned (.tuple #[.slice q l.length c, .int .i64 0]) ∧ ListM w' q l.length c (plainD l) S ∧ (∀ x ∈ foot q S, w.heap.size ≤ x) ∧ Below w.heap.size w w' := by
  have hln := len_nodesL l
  have hzl : (varsR l []).length ≤ 1048576 := by have := varsR_length l []; simp only [List.length_nil] at this; omega
  have C := checks_any vName numOk bitsOk DomA l p cap w (by unfold maxLen; omega) hl (oracleA _ hX) hD
  rw [he] at C
  have HC := hid C
  have HL := hid hl
  have HVK := hid (fun k (hk : k < l.length) => varsR_take [] l k hk)
  have HPK := hid (fun k => varsR_take_prefix l k [])
  have HCP := hid (fun k (hk : k < l.length) => (checks_each he hD k hk).good.cp)
  have HDA := hid (fun k (hk : k < l.length) => hD.get (l := l) k hk)
  obtain ⟨P, hP⟩ : ∃ P, P = plainD l := ⟨_, rfl⟩
  rw [← hP]
  have HP := hid (show P = l.map (instT (bindsZ (varsR l []))) from hP)
  have hmm := @run_makeMap Tryz.prog
  clear C he hl hX hD hP
  obtain ⟨i0, hi, hz0, hz1, hz2⟩ := info_parts infoTerm
  go_enter Tryz.func18, Tryz.ntmps18
  go_upto_region 5 with (first
    | (go_at_call 46; (with_reducible refine HC.out.mono ?_); rintro e w1 ⟨rfl, hb1⟩; have B1 := hid hb1; clear hb1 HC)
    | (go_at_call 56; (with_reducible refine (numbering_any _).mono ?_); rintro e w2 ⟨rfl, hw2⟩; have HW2 := hid hw2; clear hw2)
    | fail)
  obtain ⟨W3, hW3⟩ : ∃ W3, W3 = w2.alloc (.cells #[.func (.func 90) #[] #[.pointer (some ⟨w1.heap.size + 1, 0, none⟩)]] 79) := ⟨_, rfl⟩
  rw [← hW3]
  have e2 := HW2.out
  have hs2 : w2.heap.size = w1.heap.size + 2 := by rw [e2]; simp
  have n1 := Nums.made w1
  have g1 := World.alloc_heap_new (w1.alloc (.map #[] 0)) (.cells #[.map (some w1.heap.size)] 117)
  rw [← e2, World.size_alloc] at g1
  have hb3 : Below w2.heap.size w2 W3 := by rw [hW3]; exact (Below.refl _ _).alloc (Nat.le_refl _) _
  have hb2 : Below w1.heap.size w1 w2 := by rw [e2]; exact ((Below.refl _ _).alloc (Nat.le_refl _) _).alloc (by simp) _
  have hb13 : Below w1.heap.size w1 W3 := hb2.trans (hb3.mono (by omega))
  have V0 : NumSt W3 w2.heap.size (w1.heap.size + 1) w1.heap.size [] := by
    refine ⟨?_, ?_, ?_⟩
    · rw [hW3]; exact (cells_of (World.alloc_heap_new w2 _) 0).trans rfl
    · exact heap_cell_keep hb3 ((cells_of g1 0).trans rfl)
    · refine Nums.keep ?_ hb3
      rw [e2]
      exact n1.keep ((Below.refl _ _).alloc (Nat.le_refl _) _)
  obtain ⟨bm, hbm⟩ : ∃ bm, bm = w1.heap.size := ⟨_, rfl⟩
  obtain ⟨bn, hbn⟩ : ∃ bn, bn = w2.heap.size := ⟨_, rfl⟩
  have hwb : w.heap.size ≤ bm := by have := B1.out.size; omega
  have hs3 : W3.heap.size = bn + 1 := by rw [hW3, hbn]; simp
  have hbnm : bm + 2 ≤ bn ∧ bn ≤ bm + 2 := by omega
  rw [← hbm, ← hbn] at V0
  rw [← hbn]
  have HV0 := hid V0
  have BW := hid (B1.out.trans (hb13.mono B1.out.size))
  clear V0 hb13 hb2 hb3 g1 n1 hs2 e2 hW3 HW2 B1 hbm hbn
  obtain ⟨w4, hrun, hown, hgrow⟩ := run_make_full (P := Tryz.prog) W3 W3.heap.size 23 25 i0 (.agg #[.int .i64 0, .string ⟨#[]⟩, .string ⟨#[]⟩, .int .u64 0, .int .i64 0, .slice none 0 0]) 6 Tryz.underlying23 hi hz0 hz1 .i64 .i64 l.length (by rw [hz2]; omega) (by unfold maxLen; omega) (Nat.le_refl _)
  obtain ⟨Bk, hBk⟩ : ∃ Bk, Bk = W3.heap.size := ⟨_, rfl⟩
  obtain ⟨cur, hgb, hcs⟩ : ∃ cur, w4.heap[Bk]? = some (.cells cur 25 (0, 0)) ∧ cur.size = l.length * 6 := by
    rcases hown.2 with ⟨h', _⟩ | ⟨g', cap', cur, h', _, hg, _, _, hs, _⟩
    · simp at h'
    · simp only [Value.slice.injEq, Option.some.injEq, Addr.mk.injEq, and_true, true_and] at h'
      obtain ⟨h1, rfl⟩ := h'
      rw [← h1, ← hBk] at hg
      exact ⟨cur, hg, hs⟩
  have PB := hid hgb
  have hcs' := hid hcs
  have HV4 := hid (show NumSt w4 bn (bm + 1) bm [] from ⟨hgrow.cell HV0.out.fn (by simp), hgrow.cell HV0.out.gg (by simp), HV0.out.num.kept hgrow (by simp)⟩)
  have BW4 := hid (show Below w.heap.size w w4 from BW.out.trans (((Below.refl _ _).grown hgrow (Nat.le_refl _) (by intro k hk; simp at hk)).mono BW.out.size))
  rw [← hBk] at hrun
  have hBm : bm + 2 < Bk := by omega
  have hBn : bn < Bk := by omega
  clear hown hgrow hgb hcs HV0 BW hi hz0 hz1 hz2 hBk hs3 hbnm
  go_wp2_with fail
  clear hrun
  go_loopw [20] (fun i wr => ∃ (k : Nat) (S : List Nat) (arr : Array Value), k ≤ l.length ∧ i = .int .i64 (k : Int) ∧ Hid (wr.heap[Bk]? = some (.cells arr 25 (0, 0))) ∧ Hid (arr.size = l.length * 6) ∧ Hid (MineR wr (P.take k) Bk 0 S) ∧ Hid (∀ x ∈ S, Bk < x) ∧ Hid (NumSt wr bn (bm + 1) bm (varsR (l.take k) [])) ∧ Hid (Below w.heap.size w wr)) (fun i _ => l.length - (intOf i).toNat)
  case atStart => exact ⟨0, [], cur, by omega, rfl, PB, hcs', hid (by rw [List.take_zero]; unfold MineR; rfl), hid (by simp), hid (by simpa [varsR] using HV4.out), BW4⟩
  case round =>
    clear PB hcs' HV4 BW4
    obtain ⟨k, S, arr, hk, rfl, PB, hcs, HM, HS, HN, BW⟩ := hrel
    by_cases hlt : k < l.length
    · have hk0 : (0 : Int) ≤ (k : Int) := by omega
      have hk1 : (k : Int) < (l.length : Int) := by omega
      obtain ⟨b, o, hp, e1, c1, hs, ht⟩ := HL.out.get k hlt
      subst hp
      have hs2 : Six wr b (o + k * 6) l[k] e1 c1 := hs.keep BW.out
      obtain ⟨x0, x1, x2, x3, x4, x5⟩ := hs2
      have hkP : k < P.length := by rw [HP.out]; simpa using hlt
      have HTK := hid (show P.take (k + 1) = P.take k ++ [instT (bindsZ (varsR l [])) l[k]] by
        rw [← List.take_append_getElem hkP]
        simp only [HP.out, List.getElem_map])
      have HCALL := hid (fun (W : World) (h : Below wr.heap.size wr W) => fillN_any w bn (bm + 1) bm hwb (varsR l []) (by omega) (nodes l[k]) l[k] e1 c1 (varsR (l.take k) []) W (Nat.le_refl _) ht (HCP.out k hlt) (HDA.out k hlt) (BW.out.trans (h.mono BW.out.size)) (HN.out.keep h) (by rw [← HVK.out k hlt]; exact HPK.out (k + 1)))
      have HZ2 := hid (HVK.out k hlt)
      clear hs ht hkP
      generalize instT (bindsZ (varsR l [])) l[k] = u1 at *
      rw [← HZ2.out] at HCALL
      clear HZ2
      generalize l[k] = t1 at *
      unfold Tm.val at HCALL
      obtain ⟨Wp, hWp⟩ : ∃ Wp, Wp = wr.alloc (.cells #[.int .i64 t1.kind, .string t1.name, .string t1.num, .int .u64 t1.bits, .int .i64 t1.var, .slice e1 t1.args.length c1] 25) := ⟨_, rfl⟩
      have BP := hid (show Below wr.heap.size wr Wp by rw [hWp]; exact (Below.refl _ _).alloc (Nat.le_refl _) _)
      have hlw : Bk < wr.heap.size := lt_of_block PB.out
      go_wp2_with (first
        | (go_at_call 59; rw [← hWp]; (with_reducible refine (HCALL.out _ BP.out).mono ?_); rintro e w2 ⟨q2, c2, S1, rfl, hm, hS1, hn2, hc2⟩; have BR2 := hid (show Chg [bm] wr w2 from (Chg.of_below BP.out).trans hc2); have PB2 := hid ((Chg.same BR2.out _ hlw (by simp; omega)).trans PB.out); have HN2 := hid hn2; have HMM := hid hm; have HS1 := hid hS1; have hzp := BP.out.size; clear hm hS1 hn2 hc2 hWp HCALL x0 x1 x2 x3 x4 x5; have ha6 : k * 6 + 6 ≤ arr.size := (by have := hcs.out; omega); have f2 : ∀ j, w2.frozen? ⟨Bk, j, none⟩ = false := (fun j => by simp [World.frozen?, PB2.out]); have g2 : ∀ j, j < 6 → ∃ v, w2.cell? ⟨Bk, k * 6 + j, none⟩ = some v := (fun j hj => ⟨arr[k * 6 + j], by rw [cells_of PB2.out]; exact Array.getElem?_eq_getElem (by omega)⟩); obtain ⟨v0, y0'⟩ := g2 0 (by omega); have y0 : w2.cell? ⟨Bk, k * 6, none⟩ = some v0 := y0'; obtain ⟨v1, y1⟩ := g2 1 (by omega); obtain ⟨v2, y2⟩ := g2 2 (by omega); obtain ⟨v3, y3⟩ := g2 3 (by omega); obtain ⟨v4, y4⟩ := g2 4 (by omega); obtain ⟨v5, y5⟩ := g2 5 (by omega); have r0 := f2 (k * 6); have r1 := f2 (k * 6 + 1); have r2 := f2 (k * 6 + 2); have r3 := f2 (k * 6 + 3); have r4 := f2 (k * 6 + 4); have r5 := f2 (k * 6 + 5); clear f2 g2 y0')
        | fail)
      obtain ⟨W9, h9⟩ : ∃ W9, W9 = (((((w2.setCell ⟨Bk, k * 6, none⟩ (.int .i64 u1.kind)).setCell ⟨Bk, k * 6 + 1, none⟩ (.string u1.name)).setCell ⟨Bk, k * 6 + 2, none⟩ (.string u1.num)).setCell ⟨Bk, k * 6 + 3, none⟩ (.int .u64 u1.bits)).setCell ⟨Bk, k * 6 + 4, none⟩ (.int .i64 u1.var)).setCell ⟨Bk, k * 6 + 5, none⟩ (.slice q2 u1.args.length c2) := ⟨_, rfl⟩
      rw [← h9]
      obtain ⟨gr9, arr', e9, es, eo, d0, d1, d2, d3, d4, d5⟩ := put6 PB2.out ha6 _ _ _ _ _ _ W9 h9
      have G9 := hid gr9
      have E9 := hid e9
      have c9 := fun j => cells_of E9.out j
      have N0 := hid (c9 (k * 6) |>.trans d0)
      have N1 := hid (c9 (k * 6 + 1) |>.trans d1)
      have N2 := hid (c9 (k * 6 + 2) |>.trans d2)
      have N3 := hid (c9 (k * 6 + 3) |>.trans d3)
      have N4 := hid (c9 (k * 6 + 4) |>.trans d4)
      have N5 := hid (c9 (k * 6 + 5) |>.trans d5)
      have ES := hid (es.trans hcs.out)
      have EO := hid eo
      have HA2 := hid (cells_of PB2.out)
      have HA9 := hid c9
      clear h9 gr9 e9 es eo d0 d1 d2 d3 d4 d5 c9 y0 y1 y2 y3 y4 y5 r0 r1 r2 r3 r4 r5
      go_roundw
      case rel =>
        have hgl := cell_lt HN.out.gg
        have hold : ∀ x, x ≠ Bk → x ≠ bm → x < wr.heap.size → W9.heap[x]? = wr.heap[x]? := fun x hx hx2 hl => (G9.out.block x (by have := BR2.out.size; omega) (fun e => hx (Option.some.inj e))).trans (Chg.same BR2.out x hl (by simpa using hx2))
        have hnew : ∀ x ∈ S1, W9.heap[x]? = w2.heap[x]? := fun x hx => G9.out.block x (HMM.out.lt x hx) (fun e => by have := HS1.out x hx; have := Option.some.inj e; omega)
        have hlo : ∀ x ∈ S, x ≠ Bk ∧ x ≠ bm ∧ x < wr.heap.size := fun x hx => ⟨by have := HS.out x hx; omega, by have := HS.out x hx; omega, HM.out.lt x hx⟩
        refine ⟨k + 1, S ++ S1, arr', by omega, by go_num, E9, ES, hid ?_, hid ?_, hid ⟨G9.out.cell HN2.out.fn (fun e => by have h : bn = Bk := Option.some.inj e; omega), G9.out.cell HN2.out.gg (fun e => by have h : bm + 1 = Bk := Option.some.inj e; omega), HN2.out.num.kept G9.out (fun e => by have h : bm = Bk := Option.some.inj e; omega)⟩, hid ?_⟩
        · rw [HTK.out]
          refine MineR.snoc (HM.out.cells (fun j hj => ?_) fun x hx => hold x (hlo x hx).1 (hlo x hx).2.1 (hlo x hx).2.2) ?_ (HMM.out.same hnew) fun x hx h1 => ?_
          · have hj' : j < k * 6 := by have h8 : (P.take k).length ≤ k := by simp; omega
                                       omega
            rw [HA9.out, EO.out _ (by omega), ← HA2.out]
            exact World.cell?_of_block (a := ⟨Bk, 0 + j, none⟩) (Chg.same BR2.out _ hlw (by simp; omega))
          · have hl : 0 + (P.take k).length * 6 = k * 6 := by rw [List.length_take, HP.out]; simp; omega
            rw [hl]
            exact ⟨N0.out, N1.out, N2.out, N3.out, N4.out, N5.out⟩
          · have := (hlo x hx).2.2
            have := HS1.out x h1
            omega
        · intro x hx
          rcases List.mem_append.1 hx with h | h
          · exact HS.out x h
          · have := HS1.out x h; omega
        · exact (Chg.low BW.out BR2.out (fun x hx => by simp at hx; omega)).grown G9.out (by have := BR2.out.size; have := BW.out.size; omega) (fun x e => by cases e; omega)
      case measure => simp [intOf]; omega
    · obtain rfl : k = l.length := by omega
      have hlP : P.length = l.length := by rw [HP.out]; simp
      have HMP := hid (show MineR wr P Bk 0 S by have h := HM.out; rwa [← hlP, List.take_length] at h)
      have HLP := hid hlP
      clear HM hlt hlP
      go_wp2_with fail
      go_ret2
      refine ⟨some ⟨Bk, 0, none⟩, l.length, S, rfl, ⟨HLP.out.symm, .inr ⟨Bk, arr, rfl, PB.out, hcs.out, Nat.le_refl _, by unfold maxLen; omega⟩, fun g e => ?_, fun x hx => ?_⟩, fun x hx => ?_, BW.out⟩
      · have e : Bk = g := by simpa using e
        subst e
        exact ⟨fun h => by have := HS.out _ h; omega, HMP.out⟩
      · rcases List.mem_cons.1 hx with rfl | hx
        · exact lt_of_block PB.out
        · exact HMP.out.lt x hx
      · rcases List.mem_cons.1 hx with rfl | hx
        · omega
        · have := HS.out x hx; omega
end Go.Proofs.YtkapejcbmonfkaaGreatDoor

namespace Go.Proofs.YtkapejcbmonfkaaGreatDoor
open Go.RowKit

/-- append of some to a row whose block one owns, whatever it holds. -/
theorem wpList_app_rowW (W : World) {ops : Array Oper} {rest : List Oper} {o : Oper} {a : Act} {Q : Exit → Act → World → Prop} (hgd : o.guard = none) (s x : Operand)
    (ho : o.op = .call { callee := .builtin .append, args := #[s, x], argTypes := #[23, 23] })
    (h : ∃ (q : Option Addr) (n c : Nat) (b m : Nat) (cs : Array Value), a.eval s = .slice q n c ∧ a.eval x = .slice (some ⟨b, 0, none⟩) m m ∧ W.heap[b]? = some (.cells cs 25 (0, 0)) ∧ cs.size = m * 6 ∧ (∀ u ∈ cs.toList, u.oneCell' = true) ∧ 0 < m ∧ n + m ≤ 2000000 ∧
      ((q = none ∧ n = 0 ∧ c = 0) ∨ ∃ g arr, q = some ⟨g, 0, none⟩ ∧ W.heap[g]? = some (.cells arr 25 (0, 0)) ∧ arr.size = c * 6 ∧ n ≤ c ∧ c ≤ maxLen) ∧
      ∀ g c' w5 arr', W.grownBy w5 (Value.slice q n c).ownBlock → ((Value.slice q n c).ownBlock = some g ∨ g = W.heap.size) → w5.heap[g]? = some (.cells arr' 25 (0, 0)) → arr'.size = c' * 6 → n + m ≤ c' → c' ≤ maxLen → wpList Tryz.prog ops Q rest (a.put o.dst (.slice (some ⟨g, 0, none⟩) (n + m) c')) w5) : wpList Tryz.prog ops Q (o :: rest) a W := by
  obtain ⟨q, n, c, b, m, cs, hs, hx, hb, hcs, h1, hm, hnm, hq, hk⟩ := h
  obtain ⟨i0, hi, hz0, hz1, hz2⟩ := info_parts infoTerm
  have hown : ∃ xs, W.ownsRow 0 25 6 (.slice q n c) n xs := by
    rcases hq with ⟨rfl, rfl, rfl⟩ | ⟨g, arr, rfl, hg, ha, hn, hc⟩
    · exact ⟨[], World.ownsRow_nil _ _ _ _⟩
    · exact ⟨arr.toList.take (n * 6), by simp; omega, .inr ⟨g, c, arr, rfl, Nat.zero_le _, hg, hn, hc, ha, rfl⟩⟩
  obtain ⟨xs, hown⟩ := hown
  obtain ⟨g, c', w5, hr, h2, h3, h4, _⟩ := run_append_lies (P := Tryz.prog) W 23 o.type 0 25 i0 (.agg #[.int .i64 0, .string ⟨#[]⟩, .string ⟨#[]⟩, .int .u64 0, .int .i64 0, .slice none 0 0]) 6 80 Tryz.underlying23 hi hz0 hz1 hz2 rfl (by decide) (.slice q n c) n xs hown ⟨b, 0, none⟩ m m cs.toList (by simpa using hcs) (World.news_of_block hb) h1 hm (by unfold maxLen; omega) (by omega) (Nat.zero_le _) W.heap.size rfl
  refine wpList_plain hgd fun K hK => ?_
  unfold Oper.wp execOp
  simp only [ho, resolve, invoke, builtin, Sem.run_bind, Sem.run_pure, Result.andThen_ok, List.map_toArray, List.map_cons, List.map_nil, hs, hx, hr]
  rcases h2.2 with ⟨e, _⟩ | ⟨g', cap', cur, e, _, hg, hnc, hcm, hcu, _⟩
  · simp at e
  · simp only [Value.slice.injEq, Option.some.injEq, Addr.mk.injEq, and_true, true_and] at e
    obtain ⟨rfl, rfl⟩ := e
    exact hK _ _ (hk g c' w5 cur h3 h4 hg hcu hnc hcm)
set_option maxRecDepth 100000 in
set_option maxHeartbeats 8000000 in
theorem againW_any (l lb lw : List Tm) (q pb pw : Option Addr) (n c cb cw : Nat) (S : List Nat) (w : World) (hA : ListM w q n c l S) (hln : n ≤ 1048576) (hlb : lb.length ≤ maxLen) (hlw : lw.length ≤ maxLen)
    (hb : ∀ W, Chg (foot q S) w W → ListAt W lb pb) (hw : ∀ W, Chg (foot q S) w W → ListAt W lw pw) (ha : ListAt w l q) :
    Calls Tryz.prog 19 #[.slice q n c, .slice pb lb.length cb, .slice pw lw.length cw] w fun e w' => e = .returned (.bool (eqL l lw && eqL lb lw)) ∧ Chg (foot q S) w w' := by
  have HB := hid hb
  have HW := hid hw
  have HL := hid hA.len
  have HM := hid hA.mine
  have HR := hid hA.row
  have HLT := hid hA.lt
  have hn : (n : Int) ≤ 1048576 := by omega
  have CA := hid (show Calls Tryz.prog 39 #[.slice q n c, .slice pw lw.length cw] w fun e w' => e = .returned (.bool (eqL l lw)) ∧ Below w.heap.size w w' by
    have h := sameList_any l lw q pw c cw w ha (hw w (Chg.refl _ _)) (by have := HL.out; unfold maxLen; omega) hlw
    rwa [← HL.out] at h)
  have CB := hid (fun W (h : Chg (foot q S) w W) => sameList_any lb lw pb pw cb cw W (hb W h) (hw W h) hlb hlw)
  generalize eqL l lw = r1 at *
  generalize eqL lb lw = r2 at *
  clear hA hb hw ha hlb hlw
  obtain ⟨FA, hFA⟩ : ∃ FA, FA = foot q S := ⟨_, rfl⟩
  rw [← hFA] at HB HW HLT CB ⊢
  have HF := hid hFA
  clear hFA
  go_enter Tryz.func19, Tryz.ntmps19
  go_wp2_with (first
    | (go_at_call 39; (with_reducible refine CA.out.mono ?_); rintro e w1 ⟨rfl, hb1⟩; have B1 := hid hb1; clear hb1 CA)
    | fail)
  have C1 := hid (show Chg FA w w1 from Chg.of_below B1.out)
  have R1 := hid (show RowOk w1 q n c by
    rcases HR.out with h | ⟨g, arr, e, h1, h2⟩
    · exact .inl h
    · exact .inr ⟨g, arr, e, (B1.out.block g (lt_of_block h1)).trans h1, h2⟩)
  have M1 := hid (show ∀ g, q = some ⟨g, 0, none⟩ → ∃ S2, MineR w1 (l.drop 0) g (0 * 6) S2 ∧ ∀ x ∈ S2, x ∈ S from fun g e => ⟨S, by
    rw [Nat.zero_mul]
    have hg : g < w.heap.size := HLT.out g (by rw [HF.out, e]; simp [foot])
    exact (HM.out g e).2.same (B1.out.block g hg) fun x hx => B1.out.block x (HLT.out x (by rw [HF.out, e]; simp [foot, hx])), fun x hx => hx⟩)
  go_loopw [8] (fun i wr => ∃ (k : Nat), k ≤ n ∧ i = .int .i64 (k : Int) ∧ Hid (RowOk wr q n c) ∧ Hid (∀ g, q = some ⟨g, 0, none⟩ → ∃ S2, MineR wr (l.drop k) g (k * 6) S2 ∧ ∀ x ∈ S2, x ∈ S) ∧ Hid (Chg FA w wr)) (fun i _ => n - (intOf i).toNat)
  case atStart => exact ⟨0, by omega, rfl, R1, M1, C1⟩
  case round =>
    clear R1 M1 C1
    obtain ⟨k, hk, rfl, R1, M1, C1⟩ := hrel
    by_cases hlk : k < n
    · have hk0 : (0 : Int) ≤ (k : Int) := by omega
      have hk1 : (k : Int) < (n : Int) := by omega
      rcases R1.out with ⟨-, h0, -⟩ | ⟨g, arr, rfl, hg, hsz, hnc, hcm⟩
      · omega
      obtain ⟨S2, hR, hS2⟩ := M1.out g rfl
      have hkl : k < l.length := by have := HL.out; omega
      obtain ⟨p1, c1, SA, SB, rfl, hd, hs1, hm1, hr1⟩ := MineR.head k hkl hR
      have hgS := hid (HM.out g rfl).1
      have HCALL := hid (marked_any (nodes l[k]) l[k] p1 c1 SA ⟨#[109, 105, 110, 101]⟩ wr (Nat.le_refl _) hm1)
      have HD := hid hd
      have HR1 := hid hr1
      have HTL := hid (And.intro hm1.lt hr1.lt)
      have HSS := hid hS2
      have PB := hid hg
      have HSZ := hid hsz
      have HNC := hid (And.intro hnc hcm)
      clear hd hr1 hm1 hR hS2 hg hsz hnc hcm
      generalize l[k] = t1 at *
      unfold Tm.val at HCALL
      obtain ⟨g0, g1, g2, g3, g4, g5⟩ := hs1
      go_wp2_with (first
        | (go_at_call 26; (with_reducible refine HCALL.out.mono ?_); rintro e w2 ⟨⟨v, rfl⟩, hc2⟩; have C2 := hid hc2; have hbA : g ∉ SA := (fun h => hgS.out (HSS.out g (by simp [h]))); have QB := hid ((hc2.same _ (lt_of_block PB.out) hbA).trans PB.out); clear hc2 g0 g1 g2 g3 g4 g5; have ha6 : k * 6 + 6 ≤ arr.size := (by have := HSZ.out; have := HNC.out.1; omega); have f2 : ∀ j, w2.frozen? ⟨g, j, none⟩ = false := fun j => (by simp [World.frozen?, QB.out]); have g2 : ∀ j, j < 6 → ∃ v, w2.cell? ⟨g, k * 6 + j, none⟩ = some v := fun j hj => ⟨arr[k * 6 + j], by rw [cells_of QB.out]; exact Array.getElem?_eq_getElem (by omega)⟩; obtain ⟨v0, y0'⟩ := g2 0 (by omega); have y0 : w2.cell? ⟨g, k * 6, none⟩ = some v0 := y0'; obtain ⟨v1, y1⟩ := g2 1 (by omega); obtain ⟨v2, y2⟩ := g2 2 (by omega); obtain ⟨v3, y3⟩ := g2 3 (by omega); obtain ⟨v4, y4⟩ := g2 4 (by omega); obtain ⟨v5, y5⟩ := g2 5 (by omega); have r0 := f2 (k * 6); have r1 := f2 (k * 6 + 1); have r2 := f2 (k * 6 + 2); have r3 := f2 (k * 6 + 3); have r4 := f2 (k * 6 + 4); have r5 := f2 (k * 6 + 5); have HA6 := hid ha6; clear f2 g2 y0' ha6)
        | fail)
      go_roundw
      case rel =>
        obtain ⟨W9, h9⟩ : ∃ W9, W9 = (((((w2.setCell ⟨g, k * 6, none⟩ (.int .i64 (-1))).setCell ⟨g, k * 6 + 1, none⟩ (.string ⟨#[]⟩)).setCell ⟨g, k * 6 + 2, none⟩ (.string ⟨#[]⟩)).setCell ⟨g, k * 6 + 3, none⟩ (.int .u64 0)).setCell ⟨g, k * 6 + 4, none⟩ (.int .i64 0)).setCell ⟨g, k * 6 + 5, none⟩ (.slice none 0 0) := ⟨_, rfl⟩
        rw [← h9]
        obtain ⟨gr9, arr', e9, es, eo, -⟩ := put6 QB.out HA6.out _ _ _ _ _ _ W9 h9
        have hold : ∀ x, x < w2.heap.size → x ≠ g → W9.heap[x]? = w2.heap[x]? := fun x hx hne => gr9.block x hx (fun e => hne (Option.some.inj e))
        refine ⟨k + 1, by omega, by go_num, hid (.inr ⟨g, arr', rfl, e9, es.trans HSZ.out, HNC.out.1, HNC.out.2⟩), hid (fun g' e => ?_), hid ?_⟩
        · cases e
          refine ⟨SB, HR1.out.cells (fun j hj => ?_) fun x hx => ?_, fun x hx => HSS.out x (by simp [hx])⟩
          · rw [cells_of e9, eo _ (by omega), ← cells_of QB.out, show (k + 1) * 6 + j = k * 6 + 6 + j by omega]
            exact World.cell?_of_block (a := ⟨g, k * 6 + 6 + j, none⟩) (C2.out.same g (lt_of_block PB.out) (fun h => hgS.out (HSS.out g (by simp [h]))))
          · have hl := HTL.out.2 x hx
            exact (hold x (Nat.lt_of_lt_of_le hl C2.out.size) (fun e => hgS.out (HSS.out g (by rw [← e]; simp [hx])))).trans (C2.out.same x hl fun h => HD.out x h hx)
        · have hin : ∀ x ∈ SA, x ∈ FA := fun x hx => by rw [HF.out]; exact List.mem_cons_of_mem _ (HSS.out x (by simp [hx]))
          exact (C1.out.trans (C2.out.mono hin)).grown gr9 (fun x e => by cases e; right; rw [HF.out]; simp [foot])
      case measure => simp [intOf]; omega
    · obtain rfl : k = n := by omega
      clear M1
      go_wp2_with fail
      have R1' := hid (show RowOk wr q (k + 0) c from R1.out)
      have O1 := hid (show ∀ g, q = some ⟨g, 0, none⟩ → w.heap.size ≤ g ∨ g ∈ FA from fun g e => .inr (by rw [HF.out, e]; simp [foot]))
      obtain ⟨ws, rfl⟩ : ∃ ws : World, ws = wr := ⟨_, rfl⟩
      go_loopw [0, 9] (fun a i wr => ∃ (j : Nat) (q' : Option Addr) (c' : Nat), j ≤ 5 ∧ i = .int .i64 (j : Int) ∧ a = .slice q' (k + j) c' ∧ Hid (RowOk wr q' (k + j) c') ∧ Hid (∀ g, q' = some ⟨g, 0, none⟩ → w.heap.size ≤ g ∨ g ∈ FA) ∧ Hid (Chg FA w wr)) (fun _ i _ => 5 - (intOf i).toNat)
      case atStart => exact ⟨0, q, c, by omega, rfl, rfl, R1', O1, C1⟩
      case round =>
        clear R1' O1 C1 R1
        obtain ⟨j, q', c', hj, rfl, rfl, R1, O1, C1⟩ := hrel
        by_cases hj5 : j < 5
        · have hj0 : (j : Int) < 5 := by omega
          go_wp2_with (at_builtin; refine wpList_app_rowW _ rfl _ _ rfl ?_; refine ⟨q', k + j, c', wr.heap.size, 1, #[.int .i64 (-2), .string ⟨#[]⟩, .string ⟨#[]⟩, .int .u64 0, .int .i64 0, .slice none 0 0], rfl, rfl, World.alloc_heap_new wr _, rfl, by intro u hu; simp at hu; rcases hu with rfl | rfl | rfl | rfl | rfl | rfl <;> rfl, by decide, by omega, ?_, ?_⟩; exact (R1.out.imp id (fun ⟨g, arr, e, h1, h2⟩ => ⟨g, arr, e, (heap_alloc_old wr _ (lt_of_block h1)).trans h1, h2⟩)); intro g c5 w5 arr' hgrow hat hg ha hn hc; have C5 := hid (show Chg FA w w5 from (C1.out.trans (Chg.of_below ((Below.refl wr.heap.size wr).alloc (Nat.le_refl _) _))).grown hgrow (fun x e => O1.out x (R1.out.at_ e))); have R5 := hid (show RowOk w5 (some ⟨g, 0, none⟩) (k + (j + 1)) c5 from .inr ⟨g, arr', rfl, hg, ha, by omega, hc⟩); have O5 := hid (show ∀ g', (some (⟨g, 0, none⟩ : Addr)) = some ⟨g', 0, none⟩ → w.heap.size ≤ g' ∨ g' ∈ FA from fun g' e => (by cases e; exact hat.elim (fun h => O1.out g (R1.out.at_ h)) (fun h => .inl (by rw [h, World.size_alloc]; have := C1.out.size; omega)))); clear hgrow hat hg ha hn hc)
          go_roundw
          case rel => exact ⟨j + 1, some ⟨g, 0, none⟩, c5, by omega, by go_num, rfl, R5, O5, C5⟩
          case measure => simp [intOf]; omega
        · obtain rfl : j = 5 := by omega
          have CC := hid (CB.out wr C1.out)
          clear CB
          cases r1
          · go_wp2_with fail
            go_ret
            exact ⟨rfl, C1.out⟩
          · go_wp2_with (go_at_call 39; (with_reducible refine CC.out.mono ?_); rintro e w6 ⟨rfl, hb6⟩; have B6 := hid hb6; clear hb6)
            go_ret
            exact ⟨rfl, C1.out.trans (Chg.of_below B6.out)⟩
end Go.Proofs.YtkapejcbmonfkaaGreatDoor
