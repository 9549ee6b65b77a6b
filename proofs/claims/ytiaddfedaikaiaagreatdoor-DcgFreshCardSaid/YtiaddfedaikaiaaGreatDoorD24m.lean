/- Walk: body, of whatever term may be. No condition but those that the theorem names. Walk: rule, of what is no rule. No condition but those that the theorem names. Walks: the function that Body hands made. No condition but those that each theorem names. -/
import Derived.Test.YtiaddfedaikaiaaGreatDoorD15m
import Derived.Test.YtiaddfedaikaiaaGreatDoorD17m
import Derived.Test.YtiaddfedaikaiaaGreatDoorD19m
import Derived.Test.YtiaddfedaikaiaaGreatDoorD21m
namespace Go.Proofs.YtiaddfedaikaiaaGreatDoor
open Go.RowKit

theorem BodyAt.ok {bx d : Nat} {t f e g : Tm} {n m : Int} {w w' : World} {x : Ending} (h : bodyN d t f e n = .ok g m) (hx : ∃ q c', x = .returned (g.val q c') ∧ TmAt w' g q ∧ Box1 w' bx m ∧ But1 bx w w') : BodyAt bx t f e d n w x w' := by
  unfold BodyAt
  rw [h]
  exact hx
theorem BodyAt.ball {bx d : Nat} {t f e b : Tm} {n : Int} {w w' : World} {x : Ending} (h : bodyN d t f e n = .ball b) (hx : ∃ k, x = .panicked [{ v := .iface 105 (.pointer (some ⟨k, 0, none⟩)), recovered := false }] ∧ BallAt w' k b ∧ But1 bx w w') : BodyAt bx t f e d n w x w' := by
  unfold BodyAt
  rw [h]
  exact hx
theorem BodyAt.ok0 {bx d : Nat} {t f e g : Tm} {n : Int} {w w' : World} {x : Ending} (h : bodyN d t f e n = .ok g n) (hb : Box1 w bx n) (hx : ∃ q c', x = .returned (g.val q c') ∧ TmAt w' g q ∧ Below w.heap.size w w') : BodyAt bx t f e d n w x w' := by
  obtain ⟨q, c', h1, h2, h3⟩ := hx
  exact .ok h ⟨q, c', h1, h2, hb.keep h3, But1.of_below hb h3⟩
theorem BodyAt.ball0 {bx d : Nat} {t f e b : Tm} {n : Int} {w w' : World} {x : Ending} (h : bodyN d t f e n = .ball b) (hb : Box1 w bx n) (hx : ∃ k, x = .panicked [{ v := .iface 105 (.pointer (some ⟨k, 0, none⟩)), recovered := false }] ∧ BallAt w' k b ∧ Below w.heap.size w w') : BodyAt bx t f e d n w x w' := by
  obtain ⟨k, h1, h2, h3⟩ := hx
  exact .ball h ⟨k, h1, h2, But1.of_below hb h3⟩
theorem isOf_some {w : World} {t : Tm} {p : Option Addr} {s : ByteArray} {k : Nat} (hT : TmAt w t p) (h : isOfT t s (k + 1 : Nat) = true) : ∃ b o, p = some ⟨b, o, none⟩ := by
  have hl := isOfT_len (k := k + 1) h
  obtain ⟨b, o, e, -⟩ := hT.get 0 (by omega)
  exact ⟨b, o, e⟩
theorem body_any (bx : Nat) : ∀ d, BodyIH bx d
  | 0 => fun t f e n p pf pe c cf ce w hd => by have := nodes_pos t; omega
  | d + 1 => fun t f e n p pf pe c cf ce w hd hT hF hE hg hgf hge hX hn hbx h0 hmx => by
    have IH := body_any bx d
    have hU := hX w (But1.refl hbx)
    by_cases hk : t.kind = 1
    · exact (body_var t f e p pf pe c cf ce _ w hT hF hE hg hgf hge hU hn hk).mono fun x w' h => .ok0 (by simp [bodyN, hk]) hbx h
    cases i1 : isOfT t nComma 2 with
    | true =>
      obtain ⟨b, o, rfl⟩ := isOf_some (k := 1) hT i1
      cases ho : bodyN d (argT t 0) f (vrT n) (n + 1) with
      | ball bb => exact (body_row_ball1 t f e pf pe b o c cf ce bx d n w hT hF hE hg hgf hge hX hbx h0 hmx IH hd hn hk (.inl i1) bb ho).mono fun x w' h => .ball (by simp [bodyN, hk, i1, ho]) h
      | ok ga n1 =>
        cases ho2 : bodyN d (argT t 1) (vrT n) e n1 with
        | ball bb => exact (body_row_ball2 t f e pf pe b o c cf ce bx d n w hT hF hE hg hgf hge hX hbx h0 hmx IH hd hn hk (.inl i1) ga n1 bb ho ho2).mono fun x w' h => .ball (by simp [bodyN, hk, i1, ho, ho2]) h
        | ok gb n2 => exact (body_row_ok t f e pf pe b o c cf ce bx d n w hT hF hE hg hgf hge hX hbx h0 hmx IH hd hn hk (.inl i1) ga gb n1 n2 ho ho2).mono fun x w' h => .ok (by simp [bodyN, hk, i1, ho, ho2]) h
    | false =>
    cases i2 : isOfT t nArrow 2 with
    | true =>
      obtain ⟨b, o, rfl⟩ := isOf_some (k := 1) hT i2
      cases ho : bodyN d (argT t 0) f (vrT n) (n + 1) with
      | ball bb => exact (body_row_ball1 t f e pf pe b o c cf ce bx d n w hT hF hE hg hgf hge hX hbx h0 hmx IH hd hn hk (.inr ⟨i1, i2⟩) bb ho).mono fun x w' h => .ball (by simp [bodyN, hk, i1, i2, ho]) h
      | ok ga n1 =>
        cases ho2 : bodyN d (argT t 1) (vrT n) e n1 with
        | ball bb => exact (body_row_ball2 t f e pf pe b o c cf ce bx d n w hT hF hE hg hgf hge hX hbx h0 hmx IH hd hn hk (.inr ⟨i1, i2⟩) ga n1 bb ho ho2).mono fun x w' h => .ball (by simp [bodyN, hk, i1, i2, ho, ho2]) h
        | ok gb n2 => exact (body_row_ok t f e pf pe b o c cf ce bx d n w hT hF hE hg hgf hge hX hbx h0 hmx IH hd hn hk (.inr ⟨i1, i2⟩) ga gb n1 n2 ho ho2).mono fun x w' h => .ok (by simp [bodyN, hk, i1, i2, ho, ho2]) h
    | false =>
    cases i3 : isOfT t nSemi 2 with
    | true =>
      obtain ⟨b, o, rfl⟩ := isOf_some (k := 1) hT i3
      cases ho : bodyN d (argT t 0) f e n with
      | ball bb => exact (body_alt_ball1 t f e pf pe b o c cf ce bx d n w hT hF hE hg hgf hge hX hbx h0 hmx IH hd hn hk i1 i2 (.inl i3) bb ho).mono fun x w' h => .ball (by simp [bodyN, hk, i1, i2, i3, ho]) h
      | ok ga n1 =>
        cases ho2 : bodyN d (argT t 1) f e n1 with
        | ball bb => exact (body_alt_ball2 t f e pf pe b o c cf ce bx d n w hT hF hE hg hgf hge hX hbx h0 hmx IH hd hn hk i1 i2 (.inl i3) ga n1 bb ho ho2).mono fun x w' h => .ball (by simp [bodyN, hk, i1, i2, i3, ho, ho2]) h
        | ok gb n2 => exact (body_alt_ok t f e pf pe b o c cf ce bx d n w hT hF hE hg hgf hge hX hbx h0 hmx IH hd hn hk i1 i2 (.inl i3) ga gb n1 n2 ho ho2).mono fun x w' h => .ok (by simp [bodyN, hk, i1, i2, i3, ho, ho2]) h
    | false =>
    cases i4 : isOfT t nBar 2 with
    | true =>
      obtain ⟨b, o, rfl⟩ := isOf_some (k := 1) hT i4
      cases ho : bodyN d (argT t 0) f e n with
      | ball bb => exact (body_alt_ball1 t f e pf pe b o c cf ce bx d n w hT hF hE hg hgf hge hX hbx h0 hmx IH hd hn hk i1 i2 (.inr ⟨i3, i4⟩) bb ho).mono fun x w' h => .ball (by simp [bodyN, hk, i1, i2, i3, i4, ho]) h
      | ok ga n1 =>
        cases ho2 : bodyN d (argT t 1) f e n1 with
        | ball bb => exact (body_alt_ball2 t f e pf pe b o c cf ce bx d n w hT hF hE hg hgf hge hX hbx h0 hmx IH hd hn hk i1 i2 (.inr ⟨i3, i4⟩) ga n1 bb ho ho2).mono fun x w' h => .ball (by simp [bodyN, hk, i1, i2, i3, i4, ho, ho2]) h
        | ok gb n2 => exact (body_alt_ok t f e pf pe b o c cf ce bx d n w hT hF hE hg hgf hge hX hbx h0 hmx IH hd hn hk i1 i2 (.inr ⟨i3, i4⟩) ga gb n1 n2 ho ho2).mono fun x w' h => .ok (by simp [bodyN, hk, i1, i2, i3, i4, ho, ho2]) h
    | false =>
    cases i5 : isOfT t nNot 1 with
    | true =>
      obtain ⟨b, o, rfl⟩ := isOf_some (k := 0) hT i5
      cases ho : bodyN d (argT t 0) f (vrT n) (n + 1) with
      | ball bb => exact (body_not_ball t f e pf pe b o c cf ce bx d n w hT hF hE hg hgf hge hX hbx h0 hmx IH hd hn hk i1 i2 i3 i4 i5 bb ho).mono fun x w' h => .ball (by simp [bodyN, hk, i1, i2, i3, i4, i5, ho]) h
      | ok g n1 => exact (body_not_ok t f e pf pe b o c cf ce bx d n w hT hF hE hg hgf hge hX hbx h0 hmx IH hd hn hk i1 i2 i3 i4 i5 g n1 ho).mono fun x w' h => .ok (by simp [bodyN, hk, i1, i2, i3, i4, i5, ho]) h
    | false =>
    cases i6 : isOfT t nBraces 0 with
    | true => exact (body_none t f e p pf pe c cf ce _ w hT hF hE hg hgf hge hU hn hk i1 i2 i3 i4 i5 i6).mono fun x w' h => .ok0 (by simp [bodyN, hk, i1, i2, i3, i4, i5, i6]) hbx h
    | false =>
    cases i7 : isOfT t nBraces 1 with
    | true =>
      obtain ⟨b, o, rfl⟩ := isOf_some (k := 0) hT i7
      exact (body_goal t f e pf pe b o c cf ce _ w hT hF hE hg hgf hge hU hn hk i1 i2 i3 i4 i5 i6 i7).mono fun x w' h => .ok0 (by simp [bodyN, hk, i1, i2, i3, i4, i5, i6, i7]) hbx h
    | false =>
    cases i8 : isOfT t nCut 0 with
    | true => exact (body_cut t f e p pf pe c cf ce _ w hT hF hE hg hgf hge hU hn hk i1 i2 i3 i4 i5 i6 i7 i8).mono fun x w' h => .ok0 (by simp [bodyN, hk, i1, i2, i3, i4, i5, i6, i7, i8]) hbx h
    | false =>
    cases i9 : isOfT t nEmpty 0 with
    | true =>
      cases hi : isOfT (elems t).2 nEmpty 0 with
      | true => exact (body_list_a t f e p pf pe c cf ce _ w hT hF hE hg hgf hge hU hn hk i1 i2 i3 i4 i5 i6 i7 i8 i9 hi).mono fun x w' h => .ok0 (by simp [bodyN, endT, hk, i1, i2, i3, i4, i5, i6, i7, i8, i9, hi]) hbx h
      | false => exact (body_nolist_a t f e p pf pe c cf ce _ w hT hF hE hg hgf hge hU hn hk i1 i2 i3 i4 i5 i6 i7 i8 i9 hi).mono fun x w' h => .ball0 (by simp [bodyN, endT, hk, i1, i2, i3, i4, i5, i6, i7, i8, i9, hi]) hbx h
    | false =>
    cases i10 : isOfT t nDot 2 with
    | true =>
      cases hi : isOfT (elems t).2 nEmpty 0 with
      | true => exact (body_list_b t f e p pf pe c cf ce _ w hT hF hE hg hgf hge hU hn hk i1 i2 i3 i4 i5 i6 i7 i8 i9 i10 hi).mono fun x w' h => .ok0 (by simp [bodyN, endT, hk, i1, i2, i3, i4, i5, i6, i7, i8, i9, i10, hi]) hbx h
      | false => exact (body_nolist_b t f e p pf pe c cf ce _ w hT hF hE hg hgf hge hU hn hk i1 i2 i3 i4 i5 i6 i7 i8 i9 i10 hi).mono fun x w' h => .ball0 (by simp [bodyN, endT, hk, i1, i2, i3, i4, i5, i6, i7, i8, i9, i10, hi]) hbx h
    | false =>
    by_cases h34 : t.kind = 3 ∨ t.kind = 4
    · exact (body_num t f e p pf pe c cf ce _ w hT hF hE hg hgf hge hU hn hk i1 i2 i3 i4 i5 i6 i7 i8 i9 i10 h34).mono fun x w' h => .ball0 (by simp [bodyN, hk, i1, i2, i3, i4, i5, i6, i7, i8, i9, i10, h34]) hbx h
    · have h3 : t.kind ≠ 3 := fun k => h34 (.inl k)
      have h4 : t.kind ≠ 4 := fun k => h34 (.inr k)
      by_cases hi : t.args.length + 2 ≤ 64
      · exact (body_bet_ok t f e p pf pe c cf ce _ w hT hF hE hg hgf hge hU hn hk i1 i2 i3 i4 i5 i6 i7 i8 i9 i10 h3 h4 hi).mono fun x w' h => .ok0 (by simp [bodyN, betT, hk, i1, i2, i3, i4, i5, i6, i7, i8, i9, i10, h3, h4, hi]) hbx h
      · exact (body_bet_bad t f e p pf pe c cf ce _ w hT hF hE hg hgf hge hU hn hk i1 i2 i3 i4 i5 i6 i7 i8 i9 i10 h3 h4 hi).mono fun x w' h => .ball0 (by simp [bodyN, betT, hk, i1, i2, i3, i4, i5, i6, i7, i8, i9, i10, h3, h4, hi]) hbx h
end Go.Proofs.YtiaddfedaikaiaaGreatDoor

namespace Go.Proofs.YtiaddfedaikaiaaGreatDoor
open Go.RowKit

set_option maxRecDepth 100000 in
set_option maxHeartbeats 8000000 in
theorem rule_none (t : Tm) (p : Option Addr) (c : Nat) (v : Value) (w : World) (hT : TmAt w t p) (hg : Good t) (hX : Utf w) (hn : nodes t ≤ 4000) (hi : isOfT t nRule 2 = false) :
    Calls Tryz.prog 52 #[t.val p c, v] w fun x w' => ∃ k, x = .panicked [{ v := .iface 105 (.pointer (some ⟨k, 0, none⟩)), recovered := false }] ∧ BallAt w' k (bType nDcg t) ∧ Below w.heap.size w w' := by
  obtain ⟨W0, hW0⟩ : ∃ W0, W0 = (w.alloc (tobj t p c)).alloc (.cells #[.int .i64 0, .string ⟨#[]⟩, .string ⟨#[]⟩, .int .u64 0, .int .i64 0, .slice none 0 0] 25) := ⟨_, rfl⟩
  have B0 := hid (show Below w.heap.size w W0 by rw [hW0]; exact ((Below.refl w.heap.size w).alloc (Nat.le_refl _) _).alloc (by simp) _)
  have e0 := hid (show W0.heap[w.heap.size]? = some (tobj t p c) by rw [hW0]; exact (heap_alloc_old (w.alloc _) _ (by simp)).trans (heap_alloc_new w _))
  have CI := hid (show ∀ W, Calls Tryz.prog 106 #[.agg #[.int .i64 t.kind, .string t.name, .string t.num, .int .u64 t.bits, .int .i64 t.var, .slice p t.args.length c], .string ⟨#[45, 45, 62]⟩, .int .i64 2] W fun x w' => x = .returned (.bool false) ∧ Below W.heap.size W w' from fun W => by rw [← hi]; exact isOf_any t p c nRule 2 W (by have := hg.few; unfold maxLen; omega))
  obtain ⟨bb, hbb⟩ : ∃ bb, bb = bType nDcg t := ⟨_, rfl⟩
  have CN := hid (show ∀ W, Below w.heap.size w W → Calls Tryz.prog 103 #[.agg #[.int .i64 t.kind, .string t.name, .string t.num, .int .u64 t.bits, .int .i64 t.var, .slice p t.args.length c]] W fun e w' => ∃ q2 c2, e = .returned (.agg #[.int .i64 t.kind, .string t.name, .string t.num, .int .u64 t.bits, .int .i64 t.var, .slice q2 t.args.length c2]) ∧ TmAt w' t q2 ∧ Below W.heap.size W w' from fun W h => (renewed_ok t p c W (hT.keep h) hg (hX.keep h) hn).mono fun e w' ⟨q2, c2, S, a, m, _, d⟩ => ⟨q2, c2, a, m.at_, d⟩)
  have CR := hid (show ∀ W q2 c2, TmAt W t q2 → Calls Tryz.prog 107 #[.string ⟨#[100, 99, 103, 95, 114, 117, 108, 101]⟩, .agg #[.int .i64 t.kind, .string t.name, .string t.num, .int .u64 t.bits, .int .i64 t.var, .slice q2 t.args.length c2]] W fun e w' => ∃ k, e = .returned (.pointer (some ⟨k, 0, none⟩)) ∧ BallAt w' k bb ∧ Below W.heap.size W w' from fun W q2 c2 h => by rw [hbb]; exact type_any nDcg t q2 c2 W h)
  rw [← hbb]
  unfold tobj at hW0
  unfold Tm.val
  clear hT hg hX hn hi hbb
  go_enter Tryz.func52, Tryz.ntmps52
  go_upto_region 1 with fail
  rw [← hW0]
  clear hW0
  obtain ⟨a0, a1, a2, a3, a4, a5⟩ := six_of e0.out
  go_wp2_with (first
    | (go_at_call 106; (with_reducible refine (CI.out _).mono ?_); rintro x w3 ⟨rfl, hb3⟩; have B3 := hid (B0.out.trans (hb3.mono B0.out.size)); have E0 := hid (obj_keep e0.out hb3); clear hb3; obtain ⟨s0, s1, s2, s3, s4, s5⟩ := six_of E0.out)
    | (go_at_call 103; (with_reducible refine (CN.out _ B3.out).mono ?_); rintro x w4 ⟨q2, c2, rfl, hk, hb4⟩; have K4 := hid hk; have B4 := hid (B3.out.trans (hb4.mono B3.out.size)); clear hb4 hk)
    | (go_at_call 107; (with_reducible refine (CR.out _ _ _ K4.out).mono ?_); rintro x w5 ⟨k, rfl, hk, hb5⟩; have K5 := hid hk; have B5 := hid (B4.out.trans (hb5.mono B4.out.size)); clear hb5 hk)
    | fail)
  exact ⟨rfl, k, rfl, K5.out, B5.out⟩
end Go.Proofs.YtiaddfedaikaiaaGreatDoor

namespace Go.Proofs.YtiaddfedaikaiaaGreatDoor
open Go.RowKit

set_option maxRecDepth 100000 in
set_option maxHeartbeats 8000000 in
theorem bodyF_ok (t f e : Tm) (p pf pe : Option Addr) (c cf ce : Nat) (bt bf be bx : Nat) (n : Int) (w : World) (ht : w.heap[bt]? = some (tobj t p c)) (hf : w.heap[bf]? = some (tobj f pf cf)) (he : w.heap[be]? = some (tobj e pe ce)) (hT : TmAt w t p) (hF : TmAt w f pf) (hE : TmAt w e pe) (hg : Good t) (hgf : Good f) (hge : Good e) (hX : ∀ W, But1 bx w W → Utf W) (hn : nodes t ≤ 4000) (hbx : Box1 w bx n) (h0 : 0 ≤ n) (hmx : n + nodes t ≤ 9223372036854775806) (g : Tm) (m : Int) (hok : bodyN (nodes t) t f e n = .ok g m) :
    Calls Tryz.prog 67 #[.func (.func 104) #[] #[.pointer (some ⟨bx, 0, none⟩)], .pointer (some ⟨bt, 0, none⟩), .pointer (some ⟨bf, 0, none⟩), .pointer (some ⟨be, 0, none⟩)] w fun x w' => ∃ q c', x = .returned (g.val q c') ∧ TmAt w' g q ∧ Box1 w' bx m ∧ But1 bx w w' := by
  obtain ⟨W0, hW0⟩ : ∃ W0, W0 = w.alloc (.cells #[.int .i64 0, .string ⟨#[]⟩, .string ⟨#[]⟩, .int .u64 0, .int .i64 0, .slice none 0 0] 25) := ⟨_, rfl⟩
  have B0 := hid (show Below w.heap.size w W0 by rw [hW0]; exact (Below.refl w.heap.size w).alloc (Nat.le_refl _) _)
  have N0 := hid (But1.of_below hbx B0.out)
  have X0 := hid (hbx.keep B0.out)
  have R0 := hid (show W0.heap[w.heap.size]? = some (.cells #[.int .i64 0, .string ⟨#[]⟩, .string ⟨#[]⟩, .int .u64 0, .int .i64 0, .slice none 0 0] 25 (0, 0)) by rw [hW0]; exact heap_alloc_new w _)
  have hbl := hid (lt_of_block hbx)
  have CB := hid (show Calls Tryz.prog 68 #[.agg #[.int .i64 t.kind, .string t.name, .string t.num, .int .u64 t.bits, .int .i64 t.var, .slice p t.args.length c], .agg #[.int .i64 f.kind, .string f.name, .string f.num, .int .u64 f.bits, .int .i64 f.var, .slice pf f.args.length cf], .agg #[.int .i64 e.kind, .string e.name, .string e.num, .int .u64 e.bits, .int .i64 e.var, .slice pe e.args.length ce], .func (.func 104) #[] #[.pointer (some ⟨bx, 0, none⟩)]] W0 fun x w' => ∃ q c', x = .returned (.agg #[.int .i64 g.kind, .string g.name, .string g.num, .int .u64 g.bits, .int .i64 g.var, .slice q g.args.length c']) ∧ TmAt w' g q ∧ Box1 w' bx m ∧ But1 bx W0 w' from by
    have hc := body_any bx (nodes t) t f e n p pf pe c cf ce W0 (Nat.le_refl _) (hT.keep B0.out) (hF.keep B0.out) (hE.keep B0.out) hg hgf hge (fun W h => hX W (N0.out.trans h)) hn X0.out h0 hmx
    unfold BodyAt at hc
    rw [hok] at hc
    exact hc)
  have GR := hid (body_good (nodes t) t f e n g m (Nat.le_refl _) hg hgf hge h0 (by omega) hok)
  have et := hid (obj_keep ht B0.out)
  have ef := hid (obj_keep hf B0.out)
  have ee := hid (obj_keep he B0.out)
  unfold Tm.val
  clear hT hF hE hg hgf hge hX hn hbx h0 hmx hok ht hf he
  go_enter Tryz.func67, Tryz.ntmps67
  go_upto_region 1 with fail
  rw [← hW0]
  clear hW0
  obtain ⟨a0, a1, a2, a3, a4, a5⟩ := six_of et.out
  obtain ⟨b0, b1, b2, b3, b4, b5⟩ := six_of ef.out
  obtain ⟨d0, d1, d2, d3, d4, d5⟩ := six_of ee.out
  go_wp2_with (first
    | (go_at_call 68; (with_reducible refine CB.out.mono ?_); rintro x w4 ⟨q4, c4, rfl, hm4, hx4, hb4⟩; have D4 := hid hb4; have X9 := hid hx4; have M9 := hid hm4; have R9 := hid (hb4.obj R0.out (by have := hbl.out; omega)); clear hb4 hx4 hm4; obtain ⟨⟨z0, z1, z2, z3, z4, z5⟩, ⟨f0, f1, f2, f3, f4, f5⟩⟩ := six_free R9.out)
    | fail)
  have hq := hbl.out
  have hgr := set6_grown w4 w.heap.size (.int .i64 g.kind) (.string g.name) (.string g.num) (.int .u64 g.bits) (.int .i64 g.var) (.slice q4 g.args.length c4)
  have hm' := TmAt.past (b := w.heap.size) (t := g) (p := q4) (show Blank w4 w.heap.size from R9.out) (Past.grown hgr) GR.out M9.out
  have hx' : Box1 _ bx m := (hgr.block bx (lt_of_block X9.out) (fun e => by have := Option.some.inj e; omega)).trans X9.out
  exact bodyPost_ret (results_tm rfl _ _ w.heap.size g q4 c4 (by rfl) (set6 R9.out _ _ _ _ _ _)) rfl ⟨q4, c4, rfl, hm', hx', ⟨(N0.out.trans D4.out).chg.grown1 hgr (fun x e => .inl (by have := Option.some.inj e; omega)), N0.out.here, ⟨_, hx'⟩⟩⟩
set_option maxRecDepth 100000 in
set_option maxHeartbeats 8000000 in
theorem bodyF_ball (t f e : Tm) (p pf pe : Option Addr) (c cf ce : Nat) (bt bf be bx : Nat) (n : Int) (w : World) (ht : w.heap[bt]? = some (tobj t p c)) (hf : w.heap[bf]? = some (tobj f pf cf)) (he : w.heap[be]? = some (tobj e pe ce)) (hT : TmAt w t p) (hF : TmAt w f pf) (hE : TmAt w e pe) (hg : Good t) (hgf : Good f) (hge : Good e) (hX : ∀ W, But1 bx w W → Utf W) (hn : nodes t ≤ 4000) (hbx : Box1 w bx n) (h0 : 0 ≤ n) (hmx : n + nodes t ≤ 9223372036854775806) (bb : Tm) (hok : bodyN (nodes t) t f e n = .ball bb) :
    Calls Tryz.prog 67 #[.func (.func 104) #[] #[.pointer (some ⟨bx, 0, none⟩)], .pointer (some ⟨bt, 0, none⟩), .pointer (some ⟨bf, 0, none⟩), .pointer (some ⟨be, 0, none⟩)] w fun x w' => ∃ k, x = .panicked [{ v := .iface 105 (.pointer (some ⟨k, 0, none⟩)), recovered := false }] ∧ BallAt w' k bb ∧ But1 bx w w' := by
  obtain ⟨W0, hW0⟩ : ∃ W0, W0 = w.alloc (.cells #[.int .i64 0, .string ⟨#[]⟩, .string ⟨#[]⟩, .int .u64 0, .int .i64 0, .slice none 0 0] 25) := ⟨_, rfl⟩
  have B0 := hid (show Below w.heap.size w W0 by rw [hW0]; exact (Below.refl w.heap.size w).alloc (Nat.le_refl _) _)
  have N0 := hid (But1.of_below hbx B0.out)
  have X0 := hid (hbx.keep B0.out)
  have R0 := hid (show W0.heap[w.heap.size]? = some (.cells #[.int .i64 0, .string ⟨#[]⟩, .string ⟨#[]⟩, .int .u64 0, .int .i64 0, .slice none 0 0] 25 (0, 0)) by rw [hW0]; exact heap_alloc_new w _)
  have hbl := hid (lt_of_block hbx)
  have CB := hid (show Calls Tryz.prog 68 #[.agg #[.int .i64 t.kind, .string t.name, .string t.num, .int .u64 t.bits, .int .i64 t.var, .slice p t.args.length c], .agg #[.int .i64 f.kind, .string f.name, .string f.num, .int .u64 f.bits, .int .i64 f.var, .slice pf f.args.length cf], .agg #[.int .i64 e.kind, .string e.name, .string e.num, .int .u64 e.bits, .int .i64 e.var, .slice pe e.args.length ce], .func (.func 104) #[] #[.pointer (some ⟨bx, 0, none⟩)]] W0 fun x w' => ∃ k, x = .panicked [{ v := .iface 105 (.pointer (some ⟨k, 0, none⟩)), recovered := false }] ∧ BallAt w' k bb ∧ But1 bx W0 w' from by
    have hc := body_any bx (nodes t) t f e n p pf pe c cf ce W0 (Nat.le_refl _) (hT.keep B0.out) (hF.keep B0.out) (hE.keep B0.out) hg hgf hge (fun W h => hX W (N0.out.trans h)) hn X0.out h0 hmx
    unfold BodyAt at hc
    rw [hok] at hc
    exact hc)
  have et := hid (obj_keep ht B0.out)
  have ef := hid (obj_keep hf B0.out)
  have ee := hid (obj_keep he B0.out)
  clear hT hF hE hg hgf hge hX hn hbx h0 hmx hok ht hf he
  go_enter Tryz.func67, Tryz.ntmps67
  go_upto_region 1 with fail
  rw [← hW0]
  clear hW0
  obtain ⟨a0, a1, a2, a3, a4, a5⟩ := six_of et.out
  obtain ⟨b0, b1, b2, b3, b4, b5⟩ := six_of ef.out
  obtain ⟨d0, d1, d2, d3, d4, d5⟩ := six_of ee.out
  go_wp2_with (first
    | (go_at_call 68; (with_reducible refine CB.out.mono ?_); rintro x w4 ⟨k, rfl, hk, hb4⟩; have D4 := hid hb4; have K4 := hid hk; clear hb4 hk)
    | fail)
  exact ⟨rfl, k, rfl, K4.out, N0.out.trans D4.out⟩
end Go.Proofs.YtiaddfedaikaiaaGreatDoor
