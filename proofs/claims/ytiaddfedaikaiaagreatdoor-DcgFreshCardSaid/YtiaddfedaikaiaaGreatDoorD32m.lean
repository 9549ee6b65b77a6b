/- Walk: rule, up to where its four boxes are made. No condition but those that each theorem names. Walks: rule behind its boxes, where its head pushes nothing back. No condition but those that each theorem names. Walks: rule behind its boxes, where its head pushes something back: up to its other two boxes. No condition but those that each theorem names. -/
import Derived.Deep.DeepCutAuto
import Derived.Deep.RegionHeld3
import Derived.Test.YtiaddfedaikaiaaGreatDoorD24m
import Derived.Deep.RegionHeld
namespace Go.Proofs.YtiaddfedaikaiaaGreatDoor
open Go.RowKit

/-- What lies where, when rule has made its four boxes. -/
structure RuleSt (bx : Nat) (n N : Int) (a1 a2 : Tm) (p1 p2 : Option Addr) (c1 c2 : Nat) (k4 k5 k6 k7 k8 : Nat) (w W : World) : Prop where
  but : But1 bx w W
  box : Box1 W bx N
  o4 : Blank W k4
  o5 : W.heap[k5]? = some (tobj a1 p1 c1)
  o6 : W.heap[k6]? = some (tobj a2 p2 c2)
  o7 : W.heap[k7]? = some (.cells #[.int .i64 1, .string ⟨#[]⟩, .string ⟨#[]⟩, .int .u64 0, .int .i64 n, .slice none 0 0] 25 (0, 0))
  o8 : W.heap[k8]? = some (.cells #[.int .i64 1, .string ⟨#[]⟩, .string ⟨#[]⟩, .int .u64 0, .int .i64 (n + 1), .slice none 0 0] 25 (0, 0))
  n4 : w.heap.size ≤ k4
  n5 : w.heap.size ≤ k5
  n6 : w.heap.size ≤ k6
  n7 : w.heap.size ≤ k7
  n8 : w.heap.size ≤ k8
  d45 : k4 ≠ k5
  d46 : k4 ≠ k6
  d47 : k4 ≠ k7
  d48 : k4 ≠ k8
  d56 : k5 ≠ k6
  d57 : k5 ≠ k7
  d58 : k5 ≠ k8
  d67 : k6 ≠ k7
  d68 : k6 ≠ k8
  d78 : k7 ≠ k8
theorem RuleSt.make {bx k5 k6 : Nat} {n : Int} {a1 a2 : Tm} {p1 p2 : Option Addr} {c1 c2 : Nat} {w wc w5 : World} (hbx : Box1 w bx n) (hb : Below w.heap.size w wc) (hd : But1 bx wc w5) (hx : Box1 w5 bx (n + 1 + 1)) (h4 : wc.heap[w.heap.size + 1]? = some (.cells #[.int .i64 0, .string ⟨#[]⟩, .string ⟨#[]⟩, .int .u64 0, .int .i64 0, .slice none 0 0] 25 (0, 0))) (h5 : wc.heap[k5]? = some (.cells #[.int .i64 a1.kind, .string a1.name, .string a1.num, .int .u64 a1.bits, .int .i64 a1.var, .slice p1 a1.args.length c1] 25 (0, 0))) (h6 : wc.heap[k6]? = some (.cells #[.int .i64 a2.kind, .string a2.name, .string a2.num, .int .u64 a2.bits, .int .i64 a2.var, .slice p2 a2.args.length c2] 25 (0, 0))) (g5 : w.heap.size + 2 ≤ k5) (g6 : w.heap.size + 2 ≤ k6) (g56 : k5 ≠ k6) :
    RuleSt bx n (n + 2) a1 a2 p1 p2 c1 c2 (w.heap.size + 1) k5 k6 w5.heap.size (w5.heap.size + 1) w ((w5.alloc (.cells #[.int .i64 1, .string ⟨#[]⟩, .string ⟨#[]⟩, .int .u64 0, .int .i64 n, .slice none 0 0] 25)).alloc (.cells #[.int .i64 1, .string ⟨#[]⟩, .string ⟨#[]⟩, .int .u64 0, .int .i64 (n + 1), .slice none 0 0] 25)) := by
  have hlt := lt_of_block hbx
  have q4 := hd.obj h4 (by omega)
  have q5 := hd.obj h5 (by omega)
  have q6 := hd.obj h6 (by omega)
  have l4 := lt_of_block q4
  have l5 := lt_of_block q5
  have l6 := lt_of_block q6
  have hal : Below w5.heap.size w5 ((w5.alloc (.cells #[.int .i64 1, .string ⟨#[]⟩, .string ⟨#[]⟩, .int .u64 0, .int .i64 n, .slice none 0 0] 25)).alloc (.cells #[.int .i64 1, .string ⟨#[]⟩, .string ⟨#[]⟩, .int .u64 0, .int .i64 (n + 1), .slice none 0 0] 25)) := bl_alloc (bl_alloc (Below.refl _ _))
  exact { but := ((But1.of_below hbx hb).trans hd).trans (But1.of_below hx hal), box := by rw [show n + 2 = n + 1 + 1 by omega]; exact hx.keep hal, o4 := obj_keep q4 hal, o5 := obj_keep q5 hal, o6 := obj_keep q6 hal, o7 := ob_alloc (ob_new rfl), o8 := ob_new (World.size_alloc _ _).symm, n4 := by omega, n5 := by omega, n6 := by omega, n7 := by omega, n8 := by omega, d45 := by omega, d46 := by omega, d47 := by omega, d48 := by omega, d56 := g56, d57 := by omega, d58 := by omega, d67 := by omega, d68 := by omega, d78 := by omega }
noncomputable def tailR : Code := seqDrop 4 (Tryz.f52.body.getD .skip)
set_option maxRecDepth 100000 in
set_option maxHeartbeats 16000000 in
theorem rule_pre (bx : Nat) (n : Int) (t a1 a2 : Tm) (b o : Nat) (p1 p2 : Option Addr) (c c1 c2 : Nat) (w : World) (hlen : t.args.length = 2) (h1 : Six w b o a1 p1 c1) (h2 : Six w b (o + 6) a2 p2 c2) (hfew : t.args.length ≤ maxLen) (hi : isOfT t nRule 2 = true) (hbx : Box1 w bx n) (h0 : 0 ≤ n) (hmx : n + 2 ≤ 9223372036854775807) (Q : Ending → World → Prop)
    (HK : ∀ u0 u2 u3 u9 u10 u11 u12 u13 u14 u15 u16 u17 u18 u19 u20 u21 u22 u23 u24 u25 u26 u27 u28 u29 u30 u31 u32 u33 u34 u35 u36 u37 u38 u39 u40 u41 u42 u43 u44 u45 u46 u47 u48 u49 u50 u51 u52 u53 u54 u55 u56 u57 u58 u59 u60 u61 u62 u63 u64 u65 u66 u67 u68 u69 u70 u71 u72 u73 u74 u75 u76 k4 k5 k6 k7 k8 W, RuleSt bx n (n + 2) a1 a2 p1 p2 c1 c2 k4 k5 k6 k7 k8 w W → Code.wp Tryz.prog tailR (bodyPost Tryz.prog Tryz.f52 Q) ⟨#[u0, .func (.func 104) #[] #[.pointer (some ⟨bx, 0, none⟩)], u2, u3, .pointer (some ⟨k4, 0, none⟩), .pointer (some ⟨k5, 0, none⟩), .pointer (some ⟨k6, 0, none⟩), .pointer (some ⟨k7, 0, none⟩), .pointer (some ⟨k8, 0, none⟩), u9, u10, u11, u12, u13, u14, u15, u16, u17, u18, u19, u20, u21, u22, u23, u24, u25, u26, u27, u28, u29, u30, u31, u32, u33, u34, u35, u36, u37, u38, u39, u40, u41, u42, u43, u44, u45, u46, u47, u48, u49, u50, u51, u52, u53, u54, u55, u56, u57, u58, u59, u60, u61, u62, u63, u64, u65, u66, u67, u68, u69, u70, u71, u72, u73, u74, u75, u76], []⟩ W) :
    Calls Tryz.prog 52 #[t.val (some ⟨b, o, none⟩) c, .func (.func 104) #[] #[.pointer (some ⟨bx, 0, none⟩)]] w Q := by
  obtain ⟨W0, hW0⟩ : ∃ W0, W0 = (w.alloc (tobj t (some ⟨b, o, none⟩) c)).alloc (.cells #[.int .i64 0, .string ⟨#[]⟩, .string ⟨#[]⟩, .int .u64 0, .int .i64 0, .slice none 0 0] 25) := ⟨_, rfl⟩
  have B0 := hid (show Below w.heap.size w W0 by rw [hW0]; exact ((Below.refl w.heap.size w).alloc (Nat.le_refl _) _).alloc (by simp) _)
  have hs0 := hid (show W0.heap.size = w.heap.size + 2 by rw [hW0]; simp)
  have e0 := hid (show W0.heap[w.heap.size]? = some (tobj t (some ⟨b, o, none⟩) c) by rw [hW0]; exact (heap_alloc_old (w.alloc _) _ (by simp)).trans (heap_alloc_new w _))
  have R0 := hid (show W0.heap[w.heap.size + 1]? = some (.cells #[.int .i64 0, .string ⟨#[]⟩, .string ⟨#[]⟩, .int .u64 0, .int .i64 0, .slice none 0 0] 25 (0, 0)) by rw [hW0]; have h := heap_alloc_new (w.alloc (tobj t (some ⟨b, o, none⟩) c)) (.cells #[.int .i64 0, .string ⟨#[]⟩, .string ⟨#[]⟩, .int .u64 0, .int .i64 0, .slice none 0 0] 25); rw [World.size_alloc] at h; exact h)
  have CI := hid (show ∀ W, Calls Tryz.prog 106 #[.agg #[.int .i64 t.kind, .string t.name, .string t.num, .int .u64 t.bits, .int .i64 t.var, .slice (some ⟨b, o, none⟩) t.args.length c], .string ⟨#[45, 45, 62]⟩, .int .i64 2] W fun x w' => x = .returned (.bool true) ∧ Below W.heap.size W w' from fun W => by rw [← hi]; exact isOf_any t (some ⟨b, o, none⟩) c nRule 2 W hfew)
  have h01 : (0 : Int) < (t.args.length : Int) := by omega
  have h02 : 0 < t.args.length := by omega
  have h03 : t.args ≠ [] := List.length_pos_iff.1 h02
  have h04 : (1 : Int) < (t.args.length : Int) := by omega
  have h05 : 1 < t.args.length := by omega
  have SR := hid (fun (W : World) (h : Below w.heap.size w W) (h' : Below W0.heap.size W0 W) => (show W.cell? ⟨w.heap.size, 0, none⟩ = some (.int .i64 t.kind) ∧ W.cell? ⟨w.heap.size, 1, none⟩ = some (.string t.name) ∧ W.cell? ⟨w.heap.size, 2, none⟩ = some (.string t.num) ∧ W.cell? ⟨w.heap.size, 3, none⟩ = some (.int .u64 t.bits) ∧ W.cell? ⟨w.heap.size, 4, none⟩ = some (.int .i64 t.var) ∧ W.cell? ⟨w.heap.size, 5, none⟩ = some (.slice (some ⟨b, o, none⟩) t.args.length c) ∧ W.cell? ⟨b, o, none⟩ = some (.int .i64 a1.kind) ∧ W.cell? ⟨b, o + 1, none⟩ = some (.string a1.name) ∧ W.cell? ⟨b, o + 2, none⟩ = some (.string a1.num) ∧ W.cell? ⟨b, o + 3, none⟩ = some (.int .u64 a1.bits) ∧ W.cell? ⟨b, o + 4, none⟩ = some (.int .i64 a1.var) ∧ W.cell? ⟨b, o + 5, none⟩ = some (.slice p1 a1.args.length c1) ∧ W.cell? ⟨b, o + 6, none⟩ = some (.int .i64 a2.kind) ∧ W.cell? ⟨b, o + 6 + 1, none⟩ = some (.string a2.name) ∧ W.cell? ⟨b, o + 6 + 2, none⟩ = some (.string a2.num) ∧ W.cell? ⟨b, o + 6 + 3, none⟩ = some (.int .u64 a2.bits) ∧ W.cell? ⟨b, o + 6 + 4, none⟩ = some (.int .i64 a2.var) ∧ W.cell? ⟨b, o + 6 + 5, none⟩ = some (.slice p2 a2.args.length c2) from by
    have m0 := six_of (obj_keep e0.out h')
    have m1 := h1.keep h
    have m2 := h2.keep h
    exact ⟨m0.c0, m0.c1, m0.c2, m0.c3, m0.c4, m0.c5, m1.c0, m1.c1, m1.c2, m1.c3, m1.c4, m1.c5, m2.c0, m2.c1, m2.c2, m2.c3, m2.c4, m2.c5⟩))
  unfold tobj at hW0
  unfold Tm.val
  clear hlen h1 h2 hfew hi
  go_enter Tryz.func52, Tryz.ntmps52
  go_upto_region 1 with fail
  rw [← hW0]
  clear hW0
  obtain ⟨a0, a1', a2', a3, a4, a5, b0, b1, b2, b3, b4, b5, d0, d1, d2, d3, d4, d5⟩ := SR.out _ B0.out (Below.refl _ _)
  go_upto_region 3 with (first
    | (go_at_call 106; (with_reducible refine (CI.out _).mono ?_); rintro x w2 ⟨rfl, hb2⟩; have D2 := hid hb2; have B2 := hid (B0.out.trans (hb2.mono B0.out.size)); clear hb2 a0 a1' a2' a3 a4 a5 b0 b1 b2 b3 b4 b5 d0 d1 d2 d3 d4 d5; obtain ⟨a0, a1', a2', a3, a4, a5, b0, b1, b2, b3, b4, b5, d0, d1, d2, d3, d4, d5⟩ := SR.out _ B2.out D2.out)
    | fail)
  have CH := hid HK
  clear HK
  have hs3 := hid (Nat.le_trans (Nat.le_of_eq hs0.out.symm) D2.out.size)
  have S3 := hid (fun (W : World) (h : Below w2.heap.size w2 W) => SR.out W (B2.out.trans (h.mono B2.out.size)) (D2.out.trans (h.mono D2.out.size)))
  have R2 := hid (obj_keep R0.out D2.out)
  have X2 := hid (hbx.keep B2.out)
  have HB := hid hbx
  have s3 := S3.out w2 (Below.refl _ _)
  clear a0 a1' a2' a3 a4 a5 b0 b1 b2 b3 b4 b5 d0 d1 d2 d3 d4 d5 hbx
  go_cut [5, 6] (fun s5 s6 wx => ∃ k5 k6, s5 = .pointer (some ⟨k5, 0, none⟩) ∧ s6 = .pointer (some ⟨k6, 0, none⟩) ∧ k5 ≠ k6 ∧ w2.heap.size ≤ k5 ∧ w2.heap.size ≤ k6 ∧ Below w2.heap.size w2 wx ∧ wx.heap[k5]? = some (.cells #[.int .i64 a1.kind, .string a1.name, .string a1.num, .int .u64 a1.bits, .int .i64 a1.var, .slice p1 a1.args.length c1] 25 (0, 0)) ∧ wx.heap[k6]? = some (.cells #[.int .i64 a2.kind, .string a2.name, .string a2.num, .int .u64 a2.bits, .int .i64 a2.var, .slice p2 a2.args.length c2] 25 (0, 0)))
  case first =>
    go_region_held3 (fun W => W.cell? ⟨w.heap.size, 0, none⟩ = some (.int .i64 t.kind) ∧ W.cell? ⟨w.heap.size, 1, none⟩ = some (.string t.name) ∧ W.cell? ⟨w.heap.size, 2, none⟩ = some (.string t.num) ∧ W.cell? ⟨w.heap.size, 3, none⟩ = some (.int .u64 t.bits) ∧ W.cell? ⟨w.heap.size, 4, none⟩ = some (.int .i64 t.var) ∧ W.cell? ⟨w.heap.size, 5, none⟩ = some (.slice (some ⟨b, o, none⟩) t.args.length c) ∧ W.cell? ⟨b, o, none⟩ = some (.int .i64 a1.kind) ∧ W.cell? ⟨b, o + 1, none⟩ = some (.string a1.name) ∧ W.cell? ⟨b, o + 2, none⟩ = some (.string a1.num) ∧ W.cell? ⟨b, o + 3, none⟩ = some (.int .u64 a1.bits) ∧ W.cell? ⟨b, o + 4, none⟩ = some (.int .i64 a1.var) ∧ W.cell? ⟨b, o + 5, none⟩ = some (.slice p1 a1.args.length c1) ∧ W.cell? ⟨b, o + 6, none⟩ = some (.int .i64 a2.kind) ∧ W.cell? ⟨b, o + 6 + 1, none⟩ = some (.string a2.name) ∧ W.cell? ⟨b, o + 6 + 2, none⟩ = some (.string a2.num) ∧ W.cell? ⟨b, o + 6 + 3, none⟩ = some (.int .u64 a2.bits) ∧ W.cell? ⟨b, o + 6 + 4, none⟩ = some (.int .i64 a2.var) ∧ W.cell? ⟨b, o + 6 + 5, none⟩ = some (.slice p2 a2.args.length c2))
      (first
        | (with_reducible exact s3)
        | (refine S3.out _ ?_; (repeat (first | (with_reducible exact Below.refl _ _) | (with_reducible refine Below.drew ?_) | (with_reducible refine Below.setCell ?_ (Nat.le_refl _) _) | (with_reducible refine Below.setCell ?_ (Nat.le_add_right _ _) _) | (with_reducible refine Below.alloc ?_ (Nat.le_refl _) _) | (with_reducible refine Below.alloc ?_ (by simp) _))); done)
        | fail)
      (fail)
    all_goals
      go_wp2_with fail
      go_meet
      case rel =>
        first
          | (with_reducible exact ⟨_, _, rfl, rfl, Nat.ne_of_lt (Nat.lt_succ_self _), Nat.le_refl _, Nat.le_add_right _ _, bl_drew (bl_alloc (bl_alloc (Below.refl _ _))), ob_drew (ob_alloc (ob_new rfl)), ob_drew (ob_new (World.size_alloc _ _).symm)⟩)
          | (with_reducible exact ⟨_, _, rfl, rfl, Nat.ne_of_gt (Nat.lt_succ_self _), Nat.le_add_right _ _, Nat.le_refl _, bl_drew (bl_alloc (bl_alloc (Below.refl _ _))), ob_drew (ob_new (World.size_alloc _ _).symm), ob_drew (ob_alloc (ob_new rfl))⟩)
          | fail
  case rest =>
    obtain ⟨k5, k6, rfl, rfl, n56, g5, g6, hb3, ho5, ho6⟩ := hcut
    have D3 := hid hb3
    have B3 := hid (B2.out.trans (hb3.mono B2.out.size))
    have O5 := hid ho5
    have O6 := hid ho6
    have X3 := hid (X2.out.keep hb3)
    have R3 := hid (obj_keep R2.out hb3)
    have GG := hid (show w.heap.size + 2 ≤ k5 ∧ w.heap.size + 2 ≤ k6 ∧ k5 ≠ k6 ∧ k5 < wc.heap.size ∧ k6 < wc.heap.size from ⟨Nat.le_trans hs3.out g5, Nat.le_trans hs3.out g6, n56, lt_of_block ho5, lt_of_block ho6⟩)
    clear s3 hb3 ho5 ho6 n56 g5 g6
    have CF := hid (show ∀ (m : Int) W, Box1 W bx m → 0 ≤ m → m ≤ 9223372036854775806 → Calls Tryz.prog 104 #[.pointer (some ⟨bx, 0, none⟩)] W fun x w' => x = .returned (.agg #[.int .i64 1, .string ⟨#[]⟩, .string ⟨#[]⟩, .int .u64 0, .int .i64 m, .slice none 0 0]) ∧ Box1 w' bx (m + 1) ∧ But1 bx W w' from fun m W h h1 h2 => fresh_any bx m W h h1 (by omega))
    go_upto_region 4 with fail
    go_cut [7, 8] (fun s7 s8 wx => ∃ k7 k8, s7 = .pointer (some ⟨k7, 0, none⟩) ∧ s8 = .pointer (some ⟨k8, 0, none⟩) ∧ RuleSt bx n (n + 2) a1 a2 p1 p2 c1 c2 (w.heap.size + 1) k5 k6 k7 k8 w wx)
    case first =>
      go_wp2_with (first
        | (go_at_call 104; have tok := D3; (with_reducible refine (CF.out n _ X3.out h0 (by omega)).mono ?_); rintro x w4 ⟨rfl, hx4, hb4⟩; have D4 := hid hb4; have X4 := hid hx4; clear hb4 hx4 D3 tok)
        | (go_at_call 104; have tok := D4; (with_reducible refine (CF.out (n + 1) _ X4.out (by omega) (by omega)).mono ?_); rintro x w5 ⟨rfl, hx5, hb5⟩; have D5 := hid (D4.out.trans hb5); have X5 := hid hx5; clear hb5 hx5 tok)
        | fail)
      go_meet
      case rel => exact ⟨_, _, rfl, rfl, RuleSt.make HB.out B3.out D5.out X5.out R3.out O5.out O6.out GG.out.1 GG.out.2.1 GG.out.2.2.1⟩
    case rest =>
      obtain ⟨k7, k8, rfl, rfl, hst⟩ := hcut
      rename_i K hK
      refine hK _ _ ?_
      exact CH.out _ _ _ _ _ _ _ _ _ _ _ _ _ _ _ _ _ _ _ _ _ _ _ _ _ _ _ _ _ _ _ _ _ _ _ _ _ _ _ _ _ _ _ _ _ _ _ _ _ _ _ _ _ _ _ _ _ _ _ _ _ _ _ _ _ _ _ _ _ _ _ _ _ _ _ _ _ hst
end Go.Proofs.YtiaddfedaikaiaaGreatDoor

namespace Go.Proofs.YtiaddfedaikaiaaGreatDoor
open Go.RowKit

/-- The boxes are not the number's, nor the result's. -/
structure NeSt (bx k4 k5 k6 k7 k8 : Nat) : Prop where
  e4 : k4 ≠ bx
  e5 : k5 ≠ bx ∧ k4 ≠ k5
  e6 : k6 ≠ bx ∧ k4 ≠ k6
  e7 : k7 ≠ bx ∧ k4 ≠ k7
  e8 : k8 ≠ bx ∧ k4 ≠ k8
theorem ne_st {bx k4 k5 k6 k7 k8 : Nat} {n N : Int} {a1 a2 : Tm} {p1 p2 : Option Addr} {c1 c2 : Nat} {w W : World} (h : RuleSt bx n N a1 a2 p1 p2 c1 c2 k4 k5 k6 k7 k8 w W) : NeSt bx k4 k5 k6 k7 k8 := by
  have := h.but.lt
  have := h.n4
  have := h.n5
  have := h.n6
  have := h.n7
  have := h.n8
  exact ⟨by omega, ⟨by omega, h.d45⟩, ⟨by omega, h.d46⟩, ⟨by omega, h.d47⟩, ⟨by omega, h.d48⟩⟩
theorem betT_ok {t f e g : Tm} (h : betT t f e = some g) : t.args.length + 2 ≤ 64 ∧ g = cT t.name (t.args ++ [f, e]) := by
  unfold betT at h
  split at h
  · exact ⟨‹_›, (Option.some.inj h).symm⟩
  · cases h
theorem betT_no {t f e : Tm} (h : betT t f e = none) : ¬ t.args.length + 2 ≤ 64 := by
  unfold betT at h
  split at h
  · cases h
  · assumption
set_option maxRecDepth 100000 in
set_option maxHeartbeats 16000000 in
theorem plain_call (bx : Nat) (n : Int) (a1 a2 : Tm) (p1 p2 : Option Addr) (c1 c2 : Nat) (k4 k5 k6 k7 k8 : Nat) (w W : World) {u0 u2 u3 u9 u10 u11 u12 u13 u14 u15 u16 u17 u18 u19 u20 u21 u22 u23 u24 u25 u26 u27 u28 u29 u30 u31 u32 u33 u34 u35 u36 u37 u38 u39 u40 u41 u42 u43 u44 u45 u46 u47 u48 u49 u50 u51 u52 u53 u54 u55 u56 u57 u58 u59 u60 u61 u62 u63 u64 u65 u66 u67 u68 u69 u70 u71 u72 u73 u74 u75 u76 : Value} (hst : RuleSt bx n (n + 2) a1 a2 p1 p2 c1 c2 k4 k5 k6 k7 k8 w W) (T1 : TmAt w a1 p1) (_T2 : TmAt w a2 p2) (g1 : Good a1) (_g2 : Good a2) (hX : ∀ V, But1 bx w V → Utf V) (hn1 : nodes a1 ≤ 4000) (_hn2 : nodes a2 ≤ 4000) (_h0 : 0 ≤ n) (_hmx : n + 3 + nodes a1 + nodes a2 ≤ 9223372036854775806) (i1 : isOfT a1 nComma 2 = false) (bb : Tm) (hc : callE a1 = some bb) (Q : Ending → World → Prop) (hQ : ∀ x w', (∃ k, x = .panicked [{ v := .iface 105 (.pointer (some ⟨k, 0, none⟩)), recovered := false }] ∧ BallAt w' k bb ∧ But1 bx w w') → Q x w') :
    Code.wp Tryz.prog tailR (bodyPost Tryz.prog Tryz.f52 Q) ⟨#[u0, .func (.func 104) #[] #[.pointer (some ⟨bx, 0, none⟩)], u2, u3, .pointer (some ⟨k4, 0, none⟩), .pointer (some ⟨k5, 0, none⟩), .pointer (some ⟨k6, 0, none⟩), .pointer (some ⟨k7, 0, none⟩), .pointer (some ⟨k8, 0, none⟩), u9, u10, u11, u12, u13, u14, u15, u16, u17, u18, u19, u20, u21, u22, u23, u24, u25, u26, u27, u28, u29, u30, u31, u32, u33, u34, u35, u36, u37, u38, u39, u40, u41, u42, u43, u44, u45, u46, u47, u48, u49, u50, u51, u52, u53, u54, u55, u56, u57, u58, u59, u60, u61, u62, u63, u64, u65, u66, u67, u68, u69, u70, u71, u72, u73, u74, u75, u76], []⟩ W := by
  have HQ := hid hQ
  have N0 := hid hst.but
  have XB := hid hst.box
  have R0 := hid hst.o4
  have hlo := hid (show w.heap.size ≤ k4 ∧ bx < w.heap.size from ⟨hst.n4, hst.but.lt⟩)
  have NE := hid (show NeSt bx k4 k5 k6 k7 k8 from ne_st hst)
  have SR := hid (fun (V : World) (h : But1 bx W V) => (show V.cell? ⟨k5, 0, none⟩ = some (.int .i64 a1.kind) ∧ V.cell? ⟨k5, 1, none⟩ = some (.string a1.name) ∧ V.cell? ⟨k5, 2, none⟩ = some (.string a1.num) ∧ V.cell? ⟨k5, 3, none⟩ = some (.int .u64 a1.bits) ∧ V.cell? ⟨k5, 4, none⟩ = some (.int .i64 a1.var) ∧ V.cell? ⟨k5, 5, none⟩ = some (.slice p1 a1.args.length c1) ∧ V.cell? ⟨k6, 0, none⟩ = some (.int .i64 a2.kind) ∧ V.cell? ⟨k6, 1, none⟩ = some (.string a2.name) ∧ V.cell? ⟨k6, 2, none⟩ = some (.string a2.num) ∧ V.cell? ⟨k6, 3, none⟩ = some (.int .u64 a2.bits) ∧ V.cell? ⟨k6, 4, none⟩ = some (.int .i64 a2.var) ∧ V.cell? ⟨k6, 5, none⟩ = some (.slice p2 a2.args.length c2) ∧ V.cell? ⟨k7, 0, none⟩ = some (.int .i64 1) ∧ V.cell? ⟨k7, 1, none⟩ = some (.string ⟨#[]⟩) ∧ V.cell? ⟨k7, 2, none⟩ = some (.string ⟨#[]⟩) ∧ V.cell? ⟨k7, 3, none⟩ = some (.int .u64 0) ∧ V.cell? ⟨k7, 4, none⟩ = some (.int .i64 n) ∧ V.cell? ⟨k7, 5, none⟩ = some (.slice none 0 0) ∧ V.cell? ⟨k8, 0, none⟩ = some (.int .i64 1) ∧ V.cell? ⟨k8, 1, none⟩ = some (.string ⟨#[]⟩) ∧ V.cell? ⟨k8, 2, none⟩ = some (.string ⟨#[]⟩) ∧ V.cell? ⟨k8, 3, none⟩ = some (.int .u64 0) ∧ V.cell? ⟨k8, 4, none⟩ = some (.int .i64 (n + 1)) ∧ V.cell? ⟨k8, 5, none⟩ = some (.slice none 0 0) from by
    have mg := (six_free (h.obj hst.o5 (NE.out.e5).1)).1
    have mj := (six_free (h.obj hst.o6 (NE.out.e6).1)).1
    have ml := (six_free (h.obj hst.o7 (NE.out.e7).1)).1
    have mi := (six_free (h.obj hst.o8 (NE.out.e8).1)).1
    exact ⟨mg.1, mg.2.1, mg.2.2.1, mg.2.2.2.1, mg.2.2.2.2.1, mg.2.2.2.2.2, mj.1, mj.2.1, mj.2.2.1, mj.2.2.2.1, mj.2.2.2.2.1, mj.2.2.2.2.2, ml.1, ml.2.1, ml.2.2.1, ml.2.2.2.1, ml.2.2.2.2.1, ml.2.2.2.2.2, mi.1, mi.2.1, mi.2.2.1, mi.2.2.2.1, mi.2.2.2.2.1, mi.2.2.2.2.2⟩))
  have BB := hid (But1.refl hst.box)
  have CI := hid (show ∀ V, Calls Tryz.prog 106 #[.agg #[.int .i64 a1.kind, .string a1.name, .string a1.num, .int .u64 a1.bits, .int .i64 a1.var, .slice p1 a1.args.length c1], .string ⟨#[44]⟩, .int .i64 2] V fun x w' => x = .returned (.bool false) ∧ Below V.heap.size V w' from fun V => by rw [← i1]; exact isOf_any a1 p1 c1 nComma 2 V (by have := g1.few; unfold maxLen; omega))
  have CN := hid (show ∀ V, But1 bx W V → Calls Tryz.prog 108 #[.agg #[.int .i64 a1.kind, .string a1.name, .string a1.num, .int .u64 a1.bits, .int .i64 a1.var, .slice p1 a1.args.length c1]] V fun x w' => ∃ k, x = .panicked [{ v := .iface 105 (.pointer (some ⟨k, 0, none⟩)), recovered := false }] ∧ BallAt w' k bb ∧ Below V.heap.size V w' from fun V h => by
    have hb := hst.but.trans h
    have h := callable_any a1 p1 c1 V (hb.tm T1) g1 (hX V hb) hn1
    rw [hc] at h
    exact h.mono fun x w' ⟨⟨k, a, b⟩, d⟩ => ⟨k, a, b, d⟩)
  clear hc i1
  clear hst T1 _T2 g1 _g2 hX hn1 _hn2 _h0 _hmx hQ
  show Code.wp Tryz.prog tailR _ _ _
  conv => arg 2; whnf
  obtain ⟨g0, g1, _g2, g3, g4, g5, j0, j1, j2, j3, j4, j5, l0, l1, l2, l3, l4, l5, i0, i1, i2, i3, i4, i5⟩ := SR.out _ BB.out
  go_wp2_with (first
    | (go_at_call 106; (with_reducible refine (CI.out _).mono ?_); rintro x v2 ⟨rfl, hb2⟩; have BB := hid (BB.out.trans (But1.of_below XB.out hb2)); have XB := hid (XB.out.keep hb2); clear hb2 g0 g1 _g2 g3 g4 g5 j0 j1 j2 j3 j4 j5 l0 l1 l2 l3 l4 l5 i0 i1 i2 i3 i4 i5; obtain ⟨g0, g1, _g2, g3, g4, g5, j0, j1, j2, j3, j4, j5, l0, l1, l2, l3, l4, l5, i0, i1, i2, i3, i4, i5⟩ := SR.out _ BB.out)
    | (go_at_call 108; (with_reducible refine (CN.out _ BB.out).mono ?_); rintro x v3 ⟨k, rfl, hk, hb3⟩; have K3 := hid hk; have BB := hid (BB.out.trans (But1.of_below XB.out hb3)); clear hb3 hk)
    | fail)
  exact ⟨rfl, HQ.out _ _ ⟨k, rfl, K3.out, N0.out.trans BB.out⟩⟩
set_option maxRecDepth 100000 in
set_option maxHeartbeats 16000000 in
theorem plain_arity (bx : Nat) (n : Int) (a1 a2 : Tm) (p1 p2 : Option Addr) (c1 c2 : Nat) (k4 k5 k6 k7 k8 : Nat) (w W : World) {u0 u2 u3 u9 u10 u11 u12 u13 u14 u15 u16 u17 u18 u19 u20 u21 u22 u23 u24 u25 u26 u27 u28 u29 u30 u31 u32 u33 u34 u35 u36 u37 u38 u39 u40 u41 u42 u43 u44 u45 u46 u47 u48 u49 u50 u51 u52 u53 u54 u55 u56 u57 u58 u59 u60 u61 u62 u63 u64 u65 u66 u67 u68 u69 u70 u71 u72 u73 u74 u75 u76 : Value} (hst : RuleSt bx n (n + 2) a1 a2 p1 p2 c1 c2 k4 k5 k6 k7 k8 w W) (T1 : TmAt w a1 p1) (_T2 : TmAt w a2 p2) (g1 : Good a1) (_g2 : Good a2) (_hX : ∀ V, But1 bx w V → Utf V) (_hn1 : nodes a1 ≤ 4000) (_hn2 : nodes a2 ≤ 4000) (_h0 : 0 ≤ n) (_hmx : n + 3 + nodes a1 + nodes a2 ≤ 9223372036854775806) (i1 : isOfT a1 nComma 2 = false) (hc : callE a1 = none) (hbt : betT a1 (vrT n) (vrT (n + 1)) = none) (Q : Ending → World → Prop) (hQ : ∀ x w', (∃ k, x = .panicked [{ v := .iface 105 (.pointer (some ⟨k, 0, none⟩)), recovered := false }] ∧ BallAt w' k bArity ∧ But1 bx w w') → Q x w') :
    Code.wp Tryz.prog tailR (bodyPost Tryz.prog Tryz.f52 Q) ⟨#[u0, .func (.func 104) #[] #[.pointer (some ⟨bx, 0, none⟩)], u2, u3, .pointer (some ⟨k4, 0, none⟩), .pointer (some ⟨k5, 0, none⟩), .pointer (some ⟨k6, 0, none⟩), .pointer (some ⟨k7, 0, none⟩), .pointer (some ⟨k8, 0, none⟩), u9, u10, u11, u12, u13, u14, u15, u16, u17, u18, u19, u20, u21, u22, u23, u24, u25, u26, u27, u28, u29, u30, u31, u32, u33, u34, u35, u36, u37, u38, u39, u40, u41, u42, u43, u44, u45, u46, u47, u48, u49, u50, u51, u52, u53, u54, u55, u56, u57, u58, u59, u60, u61, u62, u63, u64, u65, u66, u67, u68, u69, u70, u71, u72, u73, u74, u75, u76], []⟩ W := by
  have HQ := hid hQ
  have N0 := hid hst.but
  have XB := hid hst.box
  have R0 := hid hst.o4
  have hlo := hid (show w.heap.size ≤ k4 ∧ bx < w.heap.size from ⟨hst.n4, hst.but.lt⟩)
  have NE := hid (show NeSt bx k4 k5 k6 k7 k8 from ne_st hst)
  have SR := hid (fun (V : World) (h : But1 bx W V) => (show V.cell? ⟨k5, 0, none⟩ = some (.int .i64 a1.kind) ∧ V.cell? ⟨k5, 1, none⟩ = some (.string a1.name) ∧ V.cell? ⟨k5, 2, none⟩ = some (.string a1.num) ∧ V.cell? ⟨k5, 3, none⟩ = some (.int .u64 a1.bits) ∧ V.cell? ⟨k5, 4, none⟩ = some (.int .i64 a1.var) ∧ V.cell? ⟨k5, 5, none⟩ = some (.slice p1 a1.args.length c1) ∧ V.cell? ⟨k6, 0, none⟩ = some (.int .i64 a2.kind) ∧ V.cell? ⟨k6, 1, none⟩ = some (.string a2.name) ∧ V.cell? ⟨k6, 2, none⟩ = some (.string a2.num) ∧ V.cell? ⟨k6, 3, none⟩ = some (.int .u64 a2.bits) ∧ V.cell? ⟨k6, 4, none⟩ = some (.int .i64 a2.var) ∧ V.cell? ⟨k6, 5, none⟩ = some (.slice p2 a2.args.length c2) ∧ V.cell? ⟨k7, 0, none⟩ = some (.int .i64 1) ∧ V.cell? ⟨k7, 1, none⟩ = some (.string ⟨#[]⟩) ∧ V.cell? ⟨k7, 2, none⟩ = some (.string ⟨#[]⟩) ∧ V.cell? ⟨k7, 3, none⟩ = some (.int .u64 0) ∧ V.cell? ⟨k7, 4, none⟩ = some (.int .i64 n) ∧ V.cell? ⟨k7, 5, none⟩ = some (.slice none 0 0) ∧ V.cell? ⟨k8, 0, none⟩ = some (.int .i64 1) ∧ V.cell? ⟨k8, 1, none⟩ = some (.string ⟨#[]⟩) ∧ V.cell? ⟨k8, 2, none⟩ = some (.string ⟨#[]⟩) ∧ V.cell? ⟨k8, 3, none⟩ = some (.int .u64 0) ∧ V.cell? ⟨k8, 4, none⟩ = some (.int .i64 (n + 1)) ∧ V.cell? ⟨k8, 5, none⟩ = some (.slice none 0 0) from by
    have mg := (six_free (h.obj hst.o5 (NE.out.e5).1)).1
    have mj := (six_free (h.obj hst.o6 (NE.out.e6).1)).1
    have ml := (six_free (h.obj hst.o7 (NE.out.e7).1)).1
    have mi := (six_free (h.obj hst.o8 (NE.out.e8).1)).1
    exact ⟨mg.1, mg.2.1, mg.2.2.1, mg.2.2.2.1, mg.2.2.2.2.1, mg.2.2.2.2.2, mj.1, mj.2.1, mj.2.2.1, mj.2.2.2.1, mj.2.2.2.2.1, mj.2.2.2.2.2, ml.1, ml.2.1, ml.2.2.1, ml.2.2.2.1, ml.2.2.2.2.1, ml.2.2.2.2.2, mi.1, mi.2.1, mi.2.2.1, mi.2.2.2.1, mi.2.2.2.2.1, mi.2.2.2.2.2⟩))
  have BB := hid (But1.refl hst.box)
  have CI := hid (show ∀ V, Calls Tryz.prog 106 #[.agg #[.int .i64 a1.kind, .string a1.name, .string a1.num, .int .u64 a1.bits, .int .i64 a1.var, .slice p1 a1.args.length c1], .string ⟨#[44]⟩, .int .i64 2] V fun x w' => x = .returned (.bool false) ∧ Below V.heap.size V w' from fun V => by rw [← i1]; exact isOf_any a1 p1 c1 nComma 2 V (by have := g1.few; unfold maxLen; omega))
  have CN := hid (show ∀ V, Calls Tryz.prog 108 #[.agg #[.int .i64 a1.kind, .string a1.name, .string a1.num, .int .u64 a1.bits, .int .i64 a1.var, .slice p1 a1.args.length c1]] V fun x w' => x = .returned (.tuple #[]) ∧ Below V.heap.size V w' from fun V => callable_ok a1 p1 c1 V (callE_kind hc).1 (callE_kind hc).2.1 (callE_kind hc).2.2)
  have CT := hid (show ∀ V, But1 bx W V → Calls Tryz.prog 110 #[.agg #[.int .i64 a1.kind, .string a1.name, .string a1.num, .int .u64 a1.bits, .int .i64 a1.var, .slice p1 a1.args.length c1], .agg #[.int .i64 1, .string ⟨#[]⟩, .string ⟨#[]⟩, .int .u64 0, .int .i64 n, .slice none 0 0], .agg #[.int .i64 1, .string ⟨#[]⟩, .string ⟨#[]⟩, .int .u64 0, .int .i64 (n + 1), .slice none 0 0]] V fun x w' => ∃ k, x = .panicked [{ v := .iface 105 (.pointer (some ⟨k, 0, none⟩)), recovered := false }] ∧ BallAt w' k bArity ∧ Below V.heap.size V w' from fun V h => by
    have hb := hst.but.trans h
    exact between_bad a1 (vrT n) (vrT (n + 1)) p1 none none c1 0 0 V (hb.tm T1) (leaf_mine V 1 ⟨#[]⟩ ⟨#[]⟩ n).at_ (leaf_mine V 1 ⟨#[]⟩ ⟨#[]⟩ (n + 1)).at_ g1 (betT_no hbt))
  clear hc i1 hbt
  clear hst T1 _T2 g1 _g2 _hX _hn1 _hn2 _h0 _hmx hQ
  show Code.wp Tryz.prog tailR _ _ _
  conv => arg 2; whnf
  obtain ⟨g0, g1, _g2, g3, g4, g5, j0, j1, j2, j3, j4, j5, l0, l1, l2, l3, l4, l5, i0, i1, i2, i3, i4, i5⟩ := SR.out _ BB.out
  go_upto_region 7 with (first
    | (go_at_call 106; (with_reducible refine (CI.out _).mono ?_); rintro x v2 ⟨rfl, hb2⟩; have BB := hid (BB.out.trans (But1.of_below XB.out hb2)); have XB := hid (XB.out.keep hb2); clear hb2 g0 g1 _g2 g3 g4 g5 j0 j1 j2 j3 j4 j5 l0 l1 l2 l3 l4 l5 i0 i1 i2 i3 i4 i5; obtain ⟨g0, g1, _g2, g3, g4, g5, j0, j1, j2, j3, j4, j5, l0, l1, l2, l3, l4, l5, i0, i1, i2, i3, i4, i5⟩ := SR.out _ BB.out)
    | (go_at_call 108; (with_reducible refine (CN.out _).mono ?_); rintro x v3 ⟨rfl, hb3⟩; have BB := hid (BB.out.trans (But1.of_below XB.out hb3)); have XB := hid (XB.out.keep hb3); clear hb3 g0 g1 _g2 g3 g4 g5 j0 j1 j2 j3 j4 j5 l0 l1 l2 l3 l4 l5 i0 i1 i2 i3 i4 i5; obtain ⟨g0, g1, _g2, g3, g4, g5, j0, j1, j2, j3, j4, j5, l0, l1, l2, l3, l4, l5, i0, i1, i2, i3, i4, i5⟩ := SR.out _ BB.out)
    | fail)
  have BD := hid (show But1 bx W (World.drew _) from BB.out.trans (But1.of_below XB.out (bl_drew (Below.refl _ _))))
  have XD := hid (show Box1 (World.drew _) bx (n + 2) from XB.out)
  have sd := SR.out _ BD.out
  clear g0 g1 _g2 g3 g4 g5 j0 j1 j2 j3 j4 j5 l0 l1 l2 l3 l4 l5 i0 i1 i2 i3 i4 i5
  refine wp_region_held_drew (S := fun V => V.cell? ⟨k5, 0, none⟩ = some (.int .i64 a1.kind) ∧ V.cell? ⟨k5, 1, none⟩ = some (.string a1.name) ∧ V.cell? ⟨k5, 2, none⟩ = some (.string a1.num) ∧ V.cell? ⟨k5, 3, none⟩ = some (.int .u64 a1.bits) ∧ V.cell? ⟨k5, 4, none⟩ = some (.int .i64 a1.var) ∧ V.cell? ⟨k5, 5, none⟩ = some (.slice p1 a1.args.length c1) ∧ V.cell? ⟨k6, 0, none⟩ = some (.int .i64 a2.kind) ∧ V.cell? ⟨k6, 1, none⟩ = some (.string a2.name) ∧ V.cell? ⟨k6, 2, none⟩ = some (.string a2.num) ∧ V.cell? ⟨k6, 3, none⟩ = some (.int .u64 a2.bits) ∧ V.cell? ⟨k6, 4, none⟩ = some (.int .i64 a2.var) ∧ V.cell? ⟨k6, 5, none⟩ = some (.slice p2 a2.args.length c2) ∧ V.cell? ⟨k7, 0, none⟩ = some (.int .i64 1) ∧ V.cell? ⟨k7, 1, none⟩ = some (.string ⟨#[]⟩) ∧ V.cell? ⟨k7, 2, none⟩ = some (.string ⟨#[]⟩) ∧ V.cell? ⟨k7, 3, none⟩ = some (.int .u64 0) ∧ V.cell? ⟨k7, 4, none⟩ = some (.int .i64 n) ∧ V.cell? ⟨k7, 5, none⟩ = some (.slice none 0 0) ∧ V.cell? ⟨k8, 0, none⟩ = some (.int .i64 1) ∧ V.cell? ⟨k8, 1, none⟩ = some (.string ⟨#[]⟩) ∧ V.cell? ⟨k8, 2, none⟩ = some (.string ⟨#[]⟩) ∧ V.cell? ⟨k8, 3, none⟩ = some (.int .u64 0) ∧ V.cell? ⟨k8, 4, none⟩ = some (.int .i64 (n + 1)) ∧ V.cell? ⟨k8, 5, none⟩ = some (.slice none 0 0)) (by kernel_rfl) sd (fun hHeld => ?_)
  refine' wpAnyH_take (i := 0) (v := (.agg #[.int .i64 a1.kind, .string a1.name, .string a1.num, .int .u64 a1.bits, .int .i64 a1.var, .slice p1 a1.args.length c1])) rfl (by decide +kernel) (by decide +kernel) (by decide +kernel) (fun _ _ _ h => h) (Or.inl ⟨by rfl, ?_⟩) (by assumption) ?_
  · (intro w5 hSw; (try dsimp only at hSw); go_simp; try with_reducible rfl)
  (try simp only [Act.put, List.setIfInBounds_toArray])
  refine' wpAnyH_take (i := 1) (v := (.agg #[.int .i64 1, .string ⟨#[]⟩, .string ⟨#[]⟩, .int .u64 0, .int .i64 n, .slice none 0 0])) rfl (by decide +kernel) (by decide +kernel) (by decide +kernel) (fun _ _ _ h => h) (Or.inl ⟨by rfl, ?_⟩) (by assumption) ?_
  · (intro w5 hSw; (try dsimp only at hSw); go_simp; try with_reducible rfl)
  (try simp only [Act.put])
  refine' wpAnyH_take (i := 2) (v := (.agg #[.int .i64 1, .string ⟨#[]⟩, .string ⟨#[]⟩, .int .u64 0, .int .i64 (n + 1), .slice none 0 0])) rfl (by decide +kernel) (by decide +kernel) (by decide +kernel) (fun _ _ _ h => h) (Or.inl ⟨by rfl, ?_⟩) (by assumption) ?_
  · (intro w5 hSw; (try dsimp only at hSw); go_simp; try with_reducible rfl)
  (try simp only [Act.put])
  refine' wpAnyH_take (i := 4) (v := (.agg #[.int .i64 a2.kind, .string a2.name, .string a2.num, .int .u64 a2.bits, .int .i64 a2.var, .slice p2 a2.args.length c2])) rfl (by decide +kernel) (by decide +kernel) (by decide +kernel) (fun _ _ _ h => h) (Or.inl ⟨by rfl, ?_⟩) (by assumption) ?_
  · (intro w5 hSw; (try dsimp only at hSw); go_simp; try with_reducible rfl)
  (try simp only [Act.put])
  refine' wpAnyH_take (i := 5) (v := (.agg #[.int .i64 1, .string ⟨#[]⟩, .string ⟨#[]⟩, .int .u64 0, .int .i64 n, .slice none 0 0])) rfl (by decide +kernel) (by decide +kernel) (by decide +kernel) (fun _ _ _ h => h) (Or.inl ⟨by rfl, ?_⟩) (by assumption) ?_
  · (intro w5 hSw; (try dsimp only at hSw); go_simp; try with_reducible rfl)
  (try simp only [Act.put])
  refine' wpAnyH_take (i := 6) (v := (.agg #[.int .i64 1, .string ⟨#[]⟩, .string ⟨#[]⟩, .int .u64 0, .int .i64 (n + 1), .slice none 0 0])) rfl (by decide +kernel) (by decide +kernel) (by decide +kernel) (fun _ _ _ h => h) (Or.inl ⟨by rfl, ?_⟩) (by assumption) ?_
  · (intro w5 hSw; (try dsimp only at hSw); go_simp; try with_reducible rfl)
  (try simp only [Act.put])
  refine' wpAnyH_take (i := 7) (v := (.func (.func 104) #[] #[.pointer (some ⟨bx, 0, none⟩)])) rfl (by decide +kernel) (by decide +kernel) (by decide +kernel) (fun _ _ _ h => h) (Or.inl ⟨by rfl, ?_⟩) (by assumption) ?_
  · (intro w5 hSw; (try dsimp only at hSw); go_simp; try with_reducible rfl)
  (try simp only [Act.put])
  refine wpAnyH_ready (rs := [3]) (by decide +kernel) (by simp) ?_
  refine AllReadyH.cons rfl (fun K hK => ?_) AllReadyH.nil
  go_simp
  (with_reducible refine (CT.out _ BD.out).mono ?_)
  rintro x w4 ⟨k, rfl, ht, hb4⟩
  have D4 := hid (BD.out.trans (But1.of_below XD.out hb4))
  clear hHeld sd hb4
  go_simp
  exact ⟨rfl, HQ.out _ _ ⟨k, rfl, ht, N0.out.trans D4.out⟩⟩
set_option maxRecDepth 100000 in
set_option maxHeartbeats 16000000 in
theorem plain_ball (bx : Nat) (n : Int) (a1 a2 : Tm) (p1 p2 : Option Addr) (c1 c2 : Nat) (k4 k5 k6 k7 k8 : Nat) (w W : World) {u0 u2 u3 u9 u10 u11 u12 u13 u14 u15 u16 u17 u18 u19 u20 u21 u22 u23 u24 u25 u26 u27 u28 u29 u30 u31 u32 u33 u34 u35 u36 u37 u38 u39 u40 u41 u42 u43 u44 u45 u46 u47 u48 u49 u50 u51 u52 u53 u54 u55 u56 u57 u58 u59 u60 u61 u62 u63 u64 u65 u66 u67 u68 u69 u70 u71 u72 u73 u74 u75 u76 : Value} (hst : RuleSt bx n (n + 2) a1 a2 p1 p2 c1 c2 k4 k5 k6 k7 k8 w W) (T1 : TmAt w a1 p1) (T2 : TmAt w a2 p2) (g1 : Good a1) (g2 : Good a2) (hX : ∀ V, But1 bx w V → Utf V) (hn1 : nodes a1 ≤ 4000) (hn2 : nodes a2 ≤ 4000) (h0 : 0 ≤ n) (hmx : n + 3 + nodes a1 + nodes a2 ≤ 9223372036854775806) (i1 : isOfT a1 nComma 2 = false) (hc : callE a1 = none) (hd : Tm) (hbt : betT a1 (vrT n) (vrT (n + 1)) = some hd) (bb : Tm) (hok : bodyN (nodes a2) a2 (vrT n) (vrT (n + 1)) (n + 2) = .ball bb) (Q : Ending → World → Prop) (hQ : ∀ x w', (∃ k, x = .panicked [{ v := .iface 105 (.pointer (some ⟨k, 0, none⟩)), recovered := false }] ∧ BallAt w' k bb ∧ But1 bx w w') → Q x w') :
    Code.wp Tryz.prog tailR (bodyPost Tryz.prog Tryz.f52 Q) ⟨#[u0, .func (.func 104) #[] #[.pointer (some ⟨bx, 0, none⟩)], u2, u3, .pointer (some ⟨k4, 0, none⟩), .pointer (some ⟨k5, 0, none⟩), .pointer (some ⟨k6, 0, none⟩), .pointer (some ⟨k7, 0, none⟩), .pointer (some ⟨k8, 0, none⟩), u9, u10, u11, u12, u13, u14, u15, u16, u17, u18, u19, u20, u21, u22, u23, u24, u25, u26, u27, u28, u29, u30, u31, u32, u33, u34, u35, u36, u37, u38, u39, u40, u41, u42, u43, u44, u45, u46, u47, u48, u49, u50, u51, u52, u53, u54, u55, u56, u57, u58, u59, u60, u61, u62, u63, u64, u65, u66, u67, u68, u69, u70, u71, u72, u73, u74, u75, u76], []⟩ W := by
  have HQ := hid hQ
  have N0 := hid hst.but
  have XB := hid hst.box
  have R0 := hid hst.o4
  have hlo := hid (show w.heap.size ≤ k4 ∧ bx < w.heap.size from ⟨hst.n4, hst.but.lt⟩)
  have NE := hid (show NeSt bx k4 k5 k6 k7 k8 from ne_st hst)
  have SR := hid (fun (V : World) (h : But1 bx W V) => (show V.cell? ⟨k5, 0, none⟩ = some (.int .i64 a1.kind) ∧ V.cell? ⟨k5, 1, none⟩ = some (.string a1.name) ∧ V.cell? ⟨k5, 2, none⟩ = some (.string a1.num) ∧ V.cell? ⟨k5, 3, none⟩ = some (.int .u64 a1.bits) ∧ V.cell? ⟨k5, 4, none⟩ = some (.int .i64 a1.var) ∧ V.cell? ⟨k5, 5, none⟩ = some (.slice p1 a1.args.length c1) ∧ V.cell? ⟨k6, 0, none⟩ = some (.int .i64 a2.kind) ∧ V.cell? ⟨k6, 1, none⟩ = some (.string a2.name) ∧ V.cell? ⟨k6, 2, none⟩ = some (.string a2.num) ∧ V.cell? ⟨k6, 3, none⟩ = some (.int .u64 a2.bits) ∧ V.cell? ⟨k6, 4, none⟩ = some (.int .i64 a2.var) ∧ V.cell? ⟨k6, 5, none⟩ = some (.slice p2 a2.args.length c2) ∧ V.cell? ⟨k7, 0, none⟩ = some (.int .i64 1) ∧ V.cell? ⟨k7, 1, none⟩ = some (.string ⟨#[]⟩) ∧ V.cell? ⟨k7, 2, none⟩ = some (.string ⟨#[]⟩) ∧ V.cell? ⟨k7, 3, none⟩ = some (.int .u64 0) ∧ V.cell? ⟨k7, 4, none⟩ = some (.int .i64 n) ∧ V.cell? ⟨k7, 5, none⟩ = some (.slice none 0 0) ∧ V.cell? ⟨k8, 0, none⟩ = some (.int .i64 1) ∧ V.cell? ⟨k8, 1, none⟩ = some (.string ⟨#[]⟩) ∧ V.cell? ⟨k8, 2, none⟩ = some (.string ⟨#[]⟩) ∧ V.cell? ⟨k8, 3, none⟩ = some (.int .u64 0) ∧ V.cell? ⟨k8, 4, none⟩ = some (.int .i64 (n + 1)) ∧ V.cell? ⟨k8, 5, none⟩ = some (.slice none 0 0) from by
    have mg := (six_free (h.obj hst.o5 (NE.out.e5).1)).1
    have mj := (six_free (h.obj hst.o6 (NE.out.e6).1)).1
    have ml := (six_free (h.obj hst.o7 (NE.out.e7).1)).1
    have mi := (six_free (h.obj hst.o8 (NE.out.e8).1)).1
    exact ⟨mg.1, mg.2.1, mg.2.2.1, mg.2.2.2.1, mg.2.2.2.2.1, mg.2.2.2.2.2, mj.1, mj.2.1, mj.2.2.1, mj.2.2.2.1, mj.2.2.2.2.1, mj.2.2.2.2.2, ml.1, ml.2.1, ml.2.2.1, ml.2.2.2.1, ml.2.2.2.2.1, ml.2.2.2.2.2, mi.1, mi.2.1, mi.2.2.1, mi.2.2.2.1, mi.2.2.2.2.1, mi.2.2.2.2.2⟩))
  have BB := hid (But1.refl hst.box)
  have CI := hid (show ∀ V, Calls Tryz.prog 106 #[.agg #[.int .i64 a1.kind, .string a1.name, .string a1.num, .int .u64 a1.bits, .int .i64 a1.var, .slice p1 a1.args.length c1], .string ⟨#[44]⟩, .int .i64 2] V fun x w' => x = .returned (.bool false) ∧ Below V.heap.size V w' from fun V => by rw [← i1]; exact isOf_any a1 p1 c1 nComma 2 V (by have := g1.few; unfold maxLen; omega))
  have CN := hid (show ∀ V, Calls Tryz.prog 108 #[.agg #[.int .i64 a1.kind, .string a1.name, .string a1.num, .int .u64 a1.bits, .int .i64 a1.var, .slice p1 a1.args.length c1]] V fun x w' => x = .returned (.tuple #[]) ∧ Below V.heap.size V w' from fun V => callable_ok a1 p1 c1 V (callE_kind hc).1 (callE_kind hc).2.1 (callE_kind hc).2.2)
  have hbo := betT_ok hbt
  have GH := hid (betT_good g1 (vrT_good h0 (by omega)) (vrT_good (show 0 ≤ n + 1 by omega) (by omega)) hbt)
  have CT := hid (show ∀ V, But1 bx W V → Calls Tryz.prog 110 #[.agg #[.int .i64 a1.kind, .string a1.name, .string a1.num, .int .u64 a1.bits, .int .i64 a1.var, .slice p1 a1.args.length c1], .agg #[.int .i64 1, .string ⟨#[]⟩, .string ⟨#[]⟩, .int .u64 0, .int .i64 n, .slice none 0 0], .agg #[.int .i64 1, .string ⟨#[]⟩, .string ⟨#[]⟩, .int .u64 0, .int .i64 (n + 1), .slice none 0 0]] V fun x w' => ∃ q c', x = .returned (.agg #[.int .i64 hd.kind, .string hd.name, .string hd.num, .int .u64 hd.bits, .int .i64 hd.var, .slice q hd.args.length c']) ∧ TmAt w' hd q ∧ Below V.heap.size V w' from fun V h => by
    have hb := hst.but.trans h
    rw [hbo.2]
    exact between_ok a1 (vrT n) (vrT (n + 1)) p1 none none c1 0 0 V (hb.tm T1) (leaf_mine V 1 ⟨#[]⟩ ⟨#[]⟩ n).at_ (leaf_mine V 1 ⟨#[]⟩ ⟨#[]⟩ (n + 1)).at_ g1 (vrT_good h0 (by omega)) (vrT_good (by omega) (by omega)) hbo.1)
  have CB := hid (show ∀ V, But1 bx W V → Box1 V bx (n + 2) → Calls Tryz.prog 68 #[.agg #[.int .i64 a2.kind, .string a2.name, .string a2.num, .int .u64 a2.bits, .int .i64 a2.var, .slice p2 a2.args.length c2], .agg #[.int .i64 1, .string ⟨#[]⟩, .string ⟨#[]⟩, .int .u64 0, .int .i64 n, .slice none 0 0], .agg #[.int .i64 1, .string ⟨#[]⟩, .string ⟨#[]⟩, .int .u64 0, .int .i64 (n + 1), .slice none 0 0], .func (.func 104) #[] #[.pointer (some ⟨bx, 0, none⟩)]] V fun x w' => ∃ k, x = .panicked [{ v := .iface 105 (.pointer (some ⟨k, 0, none⟩)), recovered := false }] ∧ BallAt w' k bb ∧ But1 bx V w' from fun V h h2 => by
    have hb := hst.but.trans h
    have hc := body_any bx (nodes a2) a2 (vrT n) (vrT (n + 1)) (n + 2) p2 none none c2 0 0 V (Nat.le_refl _) (hb.tm T2) (leaf_mine V 1 ⟨#[]⟩ ⟨#[]⟩ _).at_ (leaf_mine V 1 ⟨#[]⟩ ⟨#[]⟩ _).at_ g2 (vrT_good (by omega) (by omega)) (vrT_good (by omega) (by omega)) (fun V' h' => hX V' (hb.trans h')) hn2 h2 (by omega) (by omega)
    unfold BodyAt at hc
    rw [hok] at hc
    exact hc)
  clear hc i1 hbt hbo hok
  clear hst T1 T2 g1 g2 hX hn1 hn2 h0 hmx hQ
  show Code.wp Tryz.prog tailR _ _ _
  conv => arg 2; whnf
  obtain ⟨g0, g1, g2, g3, g4, g5, j0, j1, j2, j3, j4, j5, l0, l1, l2, l3, l4, l5, i0, i1, i2, i3, i4, i5⟩ := SR.out _ BB.out
  go_upto_region 7 with (first
    | (go_at_call 106; (with_reducible refine (CI.out _).mono ?_); rintro x v2 ⟨rfl, hb2⟩; have BB := hid (BB.out.trans (But1.of_below XB.out hb2)); have XB := hid (XB.out.keep hb2); clear hb2 g0 g1 g2 g3 g4 g5 j0 j1 j2 j3 j4 j5 l0 l1 l2 l3 l4 l5 i0 i1 i2 i3 i4 i5; obtain ⟨g0, g1, g2, g3, g4, g5, j0, j1, j2, j3, j4, j5, l0, l1, l2, l3, l4, l5, i0, i1, i2, i3, i4, i5⟩ := SR.out _ BB.out)
    | (go_at_call 108; (with_reducible refine (CN.out _).mono ?_); rintro x v3 ⟨rfl, hb3⟩; have BB := hid (BB.out.trans (But1.of_below XB.out hb3)); have XB := hid (XB.out.keep hb3); clear hb3 g0 g1 g2 g3 g4 g5 j0 j1 j2 j3 j4 j5 l0 l1 l2 l3 l4 l5 i0 i1 i2 i3 i4 i5; obtain ⟨g0, g1, g2, g3, g4, g5, j0, j1, j2, j3, j4, j5, l0, l1, l2, l3, l4, l5, i0, i1, i2, i3, i4, i5⟩ := SR.out _ BB.out)
    | fail)
  have BD := hid (show But1 bx W (World.drew _) from BB.out.trans (But1.of_below XB.out (bl_drew (Below.refl _ _))))
  have XD := hid (show Box1 (World.drew _) bx (n + 2) from XB.out)
  have sd := SR.out _ BD.out
  clear g0 g1 g2 g3 g4 g5 j0 j1 j2 j3 j4 j5 l0 l1 l2 l3 l4 l5 i0 i1 i2 i3 i4 i5
  refine wp_region_held_drew (S := fun V => V.cell? ⟨k5, 0, none⟩ = some (.int .i64 a1.kind) ∧ V.cell? ⟨k5, 1, none⟩ = some (.string a1.name) ∧ V.cell? ⟨k5, 2, none⟩ = some (.string a1.num) ∧ V.cell? ⟨k5, 3, none⟩ = some (.int .u64 a1.bits) ∧ V.cell? ⟨k5, 4, none⟩ = some (.int .i64 a1.var) ∧ V.cell? ⟨k5, 5, none⟩ = some (.slice p1 a1.args.length c1) ∧ V.cell? ⟨k6, 0, none⟩ = some (.int .i64 a2.kind) ∧ V.cell? ⟨k6, 1, none⟩ = some (.string a2.name) ∧ V.cell? ⟨k6, 2, none⟩ = some (.string a2.num) ∧ V.cell? ⟨k6, 3, none⟩ = some (.int .u64 a2.bits) ∧ V.cell? ⟨k6, 4, none⟩ = some (.int .i64 a2.var) ∧ V.cell? ⟨k6, 5, none⟩ = some (.slice p2 a2.args.length c2) ∧ V.cell? ⟨k7, 0, none⟩ = some (.int .i64 1) ∧ V.cell? ⟨k7, 1, none⟩ = some (.string ⟨#[]⟩) ∧ V.cell? ⟨k7, 2, none⟩ = some (.string ⟨#[]⟩) ∧ V.cell? ⟨k7, 3, none⟩ = some (.int .u64 0) ∧ V.cell? ⟨k7, 4, none⟩ = some (.int .i64 n) ∧ V.cell? ⟨k7, 5, none⟩ = some (.slice none 0 0) ∧ V.cell? ⟨k8, 0, none⟩ = some (.int .i64 1) ∧ V.cell? ⟨k8, 1, none⟩ = some (.string ⟨#[]⟩) ∧ V.cell? ⟨k8, 2, none⟩ = some (.string ⟨#[]⟩) ∧ V.cell? ⟨k8, 3, none⟩ = some (.int .u64 0) ∧ V.cell? ⟨k8, 4, none⟩ = some (.int .i64 (n + 1)) ∧ V.cell? ⟨k8, 5, none⟩ = some (.slice none 0 0)) (by kernel_rfl) sd (fun hHeld => ?_)
  refine' wpAnyH_take (i := 0) (v := (.agg #[.int .i64 a1.kind, .string a1.name, .string a1.num, .int .u64 a1.bits, .int .i64 a1.var, .slice p1 a1.args.length c1])) rfl (by decide +kernel) (by decide +kernel) (by decide +kernel) (fun _ _ _ h => h) (Or.inl ⟨by rfl, ?_⟩) (by assumption) ?_
  · (intro w5 hSw; (try dsimp only at hSw); go_simp; try with_reducible rfl)
  (try simp only [Act.put, List.setIfInBounds_toArray])
  refine' wpAnyH_take (i := 1) (v := (.agg #[.int .i64 1, .string ⟨#[]⟩, .string ⟨#[]⟩, .int .u64 0, .int .i64 n, .slice none 0 0])) rfl (by decide +kernel) (by decide +kernel) (by decide +kernel) (fun _ _ _ h => h) (Or.inl ⟨by rfl, ?_⟩) (by assumption) ?_
  · (intro w5 hSw; (try dsimp only at hSw); go_simp; try with_reducible rfl)
  (try simp only [Act.put])
  refine' wpAnyH_take (i := 2) (v := (.agg #[.int .i64 1, .string ⟨#[]⟩, .string ⟨#[]⟩, .int .u64 0, .int .i64 (n + 1), .slice none 0 0])) rfl (by decide +kernel) (by decide +kernel) (by decide +kernel) (fun _ _ _ h => h) (Or.inl ⟨by rfl, ?_⟩) (by assumption) ?_
  · (intro w5 hSw; (try dsimp only at hSw); go_simp; try with_reducible rfl)
  (try simp only [Act.put])
  refine' wpAnyH_take (i := 4) (v := (.agg #[.int .i64 a2.kind, .string a2.name, .string a2.num, .int .u64 a2.bits, .int .i64 a2.var, .slice p2 a2.args.length c2])) rfl (by decide +kernel) (by decide +kernel) (by decide +kernel) (fun _ _ _ h => h) (Or.inl ⟨by rfl, ?_⟩) (by assumption) ?_
  · (intro w5 hSw; (try dsimp only at hSw); go_simp; try with_reducible rfl)
  (try simp only [Act.put])
  refine' wpAnyH_take (i := 5) (v := (.agg #[.int .i64 1, .string ⟨#[]⟩, .string ⟨#[]⟩, .int .u64 0, .int .i64 n, .slice none 0 0])) rfl (by decide +kernel) (by decide +kernel) (by decide +kernel) (fun _ _ _ h => h) (Or.inl ⟨by rfl, ?_⟩) (by assumption) ?_
  · (intro w5 hSw; (try dsimp only at hSw); go_simp; try with_reducible rfl)
  (try simp only [Act.put])
  refine' wpAnyH_take (i := 6) (v := (.agg #[.int .i64 1, .string ⟨#[]⟩, .string ⟨#[]⟩, .int .u64 0, .int .i64 (n + 1), .slice none 0 0])) rfl (by decide +kernel) (by decide +kernel) (by decide +kernel) (fun _ _ _ h => h) (Or.inl ⟨by rfl, ?_⟩) (by assumption) ?_
  · (intro w5 hSw; (try dsimp only at hSw); go_simp; try with_reducible rfl)
  (try simp only [Act.put])
  refine' wpAnyH_take (i := 7) (v := (.func (.func 104) #[] #[.pointer (some ⟨bx, 0, none⟩)])) rfl (by decide +kernel) (by decide +kernel) (by decide +kernel) (fun _ _ _ h => h) (Or.inl ⟨by rfl, ?_⟩) (by assumption) ?_
  · (intro w5 hSw; (try dsimp only at hSw); go_simp; try with_reducible rfl)
  (try simp only [Act.put])
  refine wpAnyH_ready (rs := [3]) (by decide +kernel) (by simp) ?_
  refine AllReadyH.cons rfl (fun K hK => ?_) AllReadyH.nil
  go_simp
  (with_reducible refine (CT.out _ BD.out).mono ?_)
  rintro x w3 ⟨q3, c3, rfl, hm3, hb3⟩
  have D3 := hid (BD.out.trans (But1.of_below XD.out hb3))
  have X3 := hid (XD.out.keep hb3)
  clear hm3 hb3
  refine hK.out _ _ (SR.out w3 D3.out) (fun hHeld => ?_)
  clear hK K
  (try simp only [Act.put, List.setIfInBounds_toArray, List.set_cons_zero, List.set_cons_succ])
  refine wpAnyH_ready (rs := [8]) (by decide +kernel) (by simp) ?_
  refine AllReadyH.cons rfl (fun K hK => ?_) AllReadyH.nil
  go_simp
  (with_reducible refine (CB.out _ D3.out X3.out).mono ?_)
  rintro x w4 ⟨k, rfl, ht, hb4⟩
  have D4 := hid (D3.out.trans hb4)
  clear hHeld sd hb4
  go_simp
  exact ⟨rfl, HQ.out _ _ ⟨k, rfl, ht, N0.out.trans D4.out⟩⟩
set_option maxRecDepth 100000 in
set_option maxHeartbeats 16000000 in
theorem plain_ok (bx : Nat) (n : Int) (a1 a2 : Tm) (p1 p2 : Option Addr) (c1 c2 : Nat) (k4 k5 k6 k7 k8 : Nat) (w W : World) {u0 u2 u3 u9 u10 u11 u12 u13 u14 u15 u16 u17 u18 u19 u20 u21 u22 u23 u24 u25 u26 u27 u28 u29 u30 u31 u32 u33 u34 u35 u36 u37 u38 u39 u40 u41 u42 u43 u44 u45 u46 u47 u48 u49 u50 u51 u52 u53 u54 u55 u56 u57 u58 u59 u60 u61 u62 u63 u64 u65 u66 u67 u68 u69 u70 u71 u72 u73 u74 u75 u76 : Value} (hst : RuleSt bx n (n + 2) a1 a2 p1 p2 c1 c2 k4 k5 k6 k7 k8 w W) (T1 : TmAt w a1 p1) (T2 : TmAt w a2 p2) (g1 : Good a1) (g2 : Good a2) (hX : ∀ V, But1 bx w V → Utf V) (hn1 : nodes a1 ≤ 4000) (hn2 : nodes a2 ≤ 4000) (h0 : 0 ≤ n) (hmx : n + 3 + nodes a1 + nodes a2 ≤ 9223372036854775806) (i1 : isOfT a1 nComma 2 = false) (hc : callE a1 = none) (hd : Tm) (hbt : betT a1 (vrT n) (vrT (n + 1)) = some hd) (g : Tm) (m : Int) (hok : bodyN (nodes a2) a2 (vrT n) (vrT (n + 1)) (n + 2) = .ok g m) (Q : Ending → World → Prop) (hQ : ∀ x w', (∃ q c', x = .returned ((cT nIf [hd, g]).val q c') ∧ TmAt w' (cT nIf [hd, g]) q ∧ Box1 w' bx m ∧ But1 bx w w') → Q x w') :
    Code.wp Tryz.prog tailR (bodyPost Tryz.prog Tryz.f52 Q) ⟨#[u0, .func (.func 104) #[] #[.pointer (some ⟨bx, 0, none⟩)], u2, u3, .pointer (some ⟨k4, 0, none⟩), .pointer (some ⟨k5, 0, none⟩), .pointer (some ⟨k6, 0, none⟩), .pointer (some ⟨k7, 0, none⟩), .pointer (some ⟨k8, 0, none⟩), u9, u10, u11, u12, u13, u14, u15, u16, u17, u18, u19, u20, u21, u22, u23, u24, u25, u26, u27, u28, u29, u30, u31, u32, u33, u34, u35, u36, u37, u38, u39, u40, u41, u42, u43, u44, u45, u46, u47, u48, u49, u50, u51, u52, u53, u54, u55, u56, u57, u58, u59, u60, u61, u62, u63, u64, u65, u66, u67, u68, u69, u70, u71, u72, u73, u74, u75, u76], []⟩ W := by
  have HQ := hid hQ
  have N0 := hid hst.but
  have XB := hid hst.box
  have R0 := hid hst.o4
  have hlo := hid (show w.heap.size ≤ k4 ∧ bx < w.heap.size from ⟨hst.n4, hst.but.lt⟩)
  have NE := hid (show NeSt bx k4 k5 k6 k7 k8 from ne_st hst)
  have SR := hid (fun (V : World) (h : But1 bx W V) => (show V.cell? ⟨k5, 0, none⟩ = some (.int .i64 a1.kind) ∧ V.cell? ⟨k5, 1, none⟩ = some (.string a1.name) ∧ V.cell? ⟨k5, 2, none⟩ = some (.string a1.num) ∧ V.cell? ⟨k5, 3, none⟩ = some (.int .u64 a1.bits) ∧ V.cell? ⟨k5, 4, none⟩ = some (.int .i64 a1.var) ∧ V.cell? ⟨k5, 5, none⟩ = some (.slice p1 a1.args.length c1) ∧ V.cell? ⟨k6, 0, none⟩ = some (.int .i64 a2.kind) ∧ V.cell? ⟨k6, 1, none⟩ = some (.string a2.name) ∧ V.cell? ⟨k6, 2, none⟩ = some (.string a2.num) ∧ V.cell? ⟨k6, 3, none⟩ = some (.int .u64 a2.bits) ∧ V.cell? ⟨k6, 4, none⟩ = some (.int .i64 a2.var) ∧ V.cell? ⟨k6, 5, none⟩ = some (.slice p2 a2.args.length c2) ∧ V.cell? ⟨k7, 0, none⟩ = some (.int .i64 1) ∧ V.cell? ⟨k7, 1, none⟩ = some (.string ⟨#[]⟩) ∧ V.cell? ⟨k7, 2, none⟩ = some (.string ⟨#[]⟩) ∧ V.cell? ⟨k7, 3, none⟩ = some (.int .u64 0) ∧ V.cell? ⟨k7, 4, none⟩ = some (.int .i64 n) ∧ V.cell? ⟨k7, 5, none⟩ = some (.slice none 0 0) ∧ V.cell? ⟨k8, 0, none⟩ = some (.int .i64 1) ∧ V.cell? ⟨k8, 1, none⟩ = some (.string ⟨#[]⟩) ∧ V.cell? ⟨k8, 2, none⟩ = some (.string ⟨#[]⟩) ∧ V.cell? ⟨k8, 3, none⟩ = some (.int .u64 0) ∧ V.cell? ⟨k8, 4, none⟩ = some (.int .i64 (n + 1)) ∧ V.cell? ⟨k8, 5, none⟩ = some (.slice none 0 0) from by
    have mg := (six_free (h.obj hst.o5 (NE.out.e5).1)).1
    have mj := (six_free (h.obj hst.o6 (NE.out.e6).1)).1
    have ml := (six_free (h.obj hst.o7 (NE.out.e7).1)).1
    have mi := (six_free (h.obj hst.o8 (NE.out.e8).1)).1
    exact ⟨mg.1, mg.2.1, mg.2.2.1, mg.2.2.2.1, mg.2.2.2.2.1, mg.2.2.2.2.2, mj.1, mj.2.1, mj.2.2.1, mj.2.2.2.1, mj.2.2.2.2.1, mj.2.2.2.2.2, ml.1, ml.2.1, ml.2.2.1, ml.2.2.2.1, ml.2.2.2.2.1, ml.2.2.2.2.2, mi.1, mi.2.1, mi.2.2.1, mi.2.2.2.1, mi.2.2.2.2.1, mi.2.2.2.2.2⟩))
  have SS := hid (fun (V : World) (h : But1 bx W V) (u0 u1 u2 u3 u4 u5 : Value) => (show (fun V : World => V.cell? ⟨k5, 0, none⟩ = some (.int .i64 a1.kind) ∧ V.cell? ⟨k5, 1, none⟩ = some (.string a1.name) ∧ V.cell? ⟨k5, 2, none⟩ = some (.string a1.num) ∧ V.cell? ⟨k5, 3, none⟩ = some (.int .u64 a1.bits) ∧ V.cell? ⟨k5, 4, none⟩ = some (.int .i64 a1.var) ∧ V.cell? ⟨k5, 5, none⟩ = some (.slice p1 a1.args.length c1) ∧ V.cell? ⟨k6, 0, none⟩ = some (.int .i64 a2.kind) ∧ V.cell? ⟨k6, 1, none⟩ = some (.string a2.name) ∧ V.cell? ⟨k6, 2, none⟩ = some (.string a2.num) ∧ V.cell? ⟨k6, 3, none⟩ = some (.int .u64 a2.bits) ∧ V.cell? ⟨k6, 4, none⟩ = some (.int .i64 a2.var) ∧ V.cell? ⟨k6, 5, none⟩ = some (.slice p2 a2.args.length c2) ∧ V.cell? ⟨k7, 0, none⟩ = some (.int .i64 1) ∧ V.cell? ⟨k7, 1, none⟩ = some (.string ⟨#[]⟩) ∧ V.cell? ⟨k7, 2, none⟩ = some (.string ⟨#[]⟩) ∧ V.cell? ⟨k7, 3, none⟩ = some (.int .u64 0) ∧ V.cell? ⟨k7, 4, none⟩ = some (.int .i64 n) ∧ V.cell? ⟨k7, 5, none⟩ = some (.slice none 0 0) ∧ V.cell? ⟨k8, 0, none⟩ = some (.int .i64 1) ∧ V.cell? ⟨k8, 1, none⟩ = some (.string ⟨#[]⟩) ∧ V.cell? ⟨k8, 2, none⟩ = some (.string ⟨#[]⟩) ∧ V.cell? ⟨k8, 3, none⟩ = some (.int .u64 0) ∧ V.cell? ⟨k8, 4, none⟩ = some (.int .i64 (n + 1)) ∧ V.cell? ⟨k8, 5, none⟩ = some (.slice none 0 0)) (((((((V.setCell ⟨k4, 0, none⟩ u0).setCell ⟨k4, 1, none⟩ u1).setCell ⟨k4, 2, none⟩ u2).setCell ⟨k4, 3, none⟩ u3).setCell ⟨k4, 4, none⟩ u4).setCell ⟨k4, 5, none⟩ u5)) from by
    have hg := set6_grown V k4 u0 u1 u2 u3 u4 u5
    have mg := (six_free ((hg.block _ (lt_of_block (h.obj hst.o5 (NE.out.e5).1)) (fun e => (NE.out.e5).2 (Option.some.inj e).symm)).trans (h.obj hst.o5 (NE.out.e5).1))).1
    have mj := (six_free ((hg.block _ (lt_of_block (h.obj hst.o6 (NE.out.e6).1)) (fun e => (NE.out.e6).2 (Option.some.inj e).symm)).trans (h.obj hst.o6 (NE.out.e6).1))).1
    have ml := (six_free ((hg.block _ (lt_of_block (h.obj hst.o7 (NE.out.e7).1)) (fun e => (NE.out.e7).2 (Option.some.inj e).symm)).trans (h.obj hst.o7 (NE.out.e7).1))).1
    have mi := (six_free ((hg.block _ (lt_of_block (h.obj hst.o8 (NE.out.e8).1)) (fun e => (NE.out.e8).2 (Option.some.inj e).symm)).trans (h.obj hst.o8 (NE.out.e8).1))).1
    exact ⟨mg.1, mg.2.1, mg.2.2.1, mg.2.2.2.1, mg.2.2.2.2.1, mg.2.2.2.2.2, mj.1, mj.2.1, mj.2.2.1, mj.2.2.2.1, mj.2.2.2.2.1, mj.2.2.2.2.2, ml.1, ml.2.1, ml.2.2.1, ml.2.2.2.1, ml.2.2.2.2.1, ml.2.2.2.2.2, mi.1, mi.2.1, mi.2.2.1, mi.2.2.2.1, mi.2.2.2.2.1, mi.2.2.2.2.2⟩))
  have BB := hid (But1.refl hst.box)
  have CI := hid (show ∀ V, Calls Tryz.prog 106 #[.agg #[.int .i64 a1.kind, .string a1.name, .string a1.num, .int .u64 a1.bits, .int .i64 a1.var, .slice p1 a1.args.length c1], .string ⟨#[44]⟩, .int .i64 2] V fun x w' => x = .returned (.bool false) ∧ Below V.heap.size V w' from fun V => by rw [← i1]; exact isOf_any a1 p1 c1 nComma 2 V (by have := g1.few; unfold maxLen; omega))
  have CN := hid (show ∀ V, Calls Tryz.prog 108 #[.agg #[.int .i64 a1.kind, .string a1.name, .string a1.num, .int .u64 a1.bits, .int .i64 a1.var, .slice p1 a1.args.length c1]] V fun x w' => x = .returned (.tuple #[]) ∧ Below V.heap.size V w' from fun V => callable_ok a1 p1 c1 V (callE_kind hc).1 (callE_kind hc).2.1 (callE_kind hc).2.2)
  have hbo := betT_ok hbt
  have GH := hid (betT_good g1 (vrT_good h0 (by omega)) (vrT_good (show 0 ≤ n + 1 by omega) (by omega)) hbt)
  have CT := hid (show ∀ V, But1 bx W V → Calls Tryz.prog 110 #[.agg #[.int .i64 a1.kind, .string a1.name, .string a1.num, .int .u64 a1.bits, .int .i64 a1.var, .slice p1 a1.args.length c1], .agg #[.int .i64 1, .string ⟨#[]⟩, .string ⟨#[]⟩, .int .u64 0, .int .i64 n, .slice none 0 0], .agg #[.int .i64 1, .string ⟨#[]⟩, .string ⟨#[]⟩, .int .u64 0, .int .i64 (n + 1), .slice none 0 0]] V fun x w' => ∃ q c', x = .returned (.agg #[.int .i64 hd.kind, .string hd.name, .string hd.num, .int .u64 hd.bits, .int .i64 hd.var, .slice q hd.args.length c']) ∧ TmAt w' hd q ∧ Below V.heap.size V w' from fun V h => by
    have hb := hst.but.trans h
    rw [hbo.2]
    exact between_ok a1 (vrT n) (vrT (n + 1)) p1 none none c1 0 0 V (hb.tm T1) (leaf_mine V 1 ⟨#[]⟩ ⟨#[]⟩ n).at_ (leaf_mine V 1 ⟨#[]⟩ ⟨#[]⟩ (n + 1)).at_ g1 (vrT_good h0 (by omega)) (vrT_good (by omega) (by omega)) hbo.1)
  have CB := hid (show ∀ V, But1 bx W V → Box1 V bx (n + 2) → Calls Tryz.prog 68 #[.agg #[.int .i64 a2.kind, .string a2.name, .string a2.num, .int .u64 a2.bits, .int .i64 a2.var, .slice p2 a2.args.length c2], .agg #[.int .i64 1, .string ⟨#[]⟩, .string ⟨#[]⟩, .int .u64 0, .int .i64 n, .slice none 0 0], .agg #[.int .i64 1, .string ⟨#[]⟩, .string ⟨#[]⟩, .int .u64 0, .int .i64 (n + 1), .slice none 0 0], .func (.func 104) #[] #[.pointer (some ⟨bx, 0, none⟩)]] V fun x w' => ∃ q c', x = .returned (.agg #[.int .i64 g.kind, .string g.name, .string g.num, .int .u64 g.bits, .int .i64 g.var, .slice q g.args.length c']) ∧ TmAt w' g q ∧ Box1 w' bx m ∧ But1 bx V w' from fun V h h2 => by
    have hb := hst.but.trans h
    have hc := body_any bx (nodes a2) a2 (vrT n) (vrT (n + 1)) (n + 2) p2 none none c2 0 0 V (Nat.le_refl _) (hb.tm T2) (leaf_mine V 1 ⟨#[]⟩ ⟨#[]⟩ _).at_ (leaf_mine V 1 ⟨#[]⟩ ⟨#[]⟩ _).at_ g2 (vrT_good (by omega) (by omega)) (vrT_good (by omega) (by omega)) (fun V' h' => hX V' (hb.trans h')) hn2 h2 (by omega) (by omega)
    unfold BodyAt at hc
    rw [hok] at hc
    exact hc)
  have GG := hid (body_good (nodes a2) a2 (vrT n) (vrT (n + 1)) (n + 2) g m (Nat.le_refl _) g2 (vrT_good h0 (by omega)) (vrT_good (by omega) (by omega)) (by omega) (by omega) hok)
  obtain ⟨r, hr⟩ : ∃ r, r = cT nIf [hd, g] := ⟨_, rfl⟩
  have GR := hid (show Good r by
    rw [hr]
    exact two_good (by decide) (by decide +kernel) GH.out GG.out)
  have CO := hid (show ∀ V q, Calls Tryz.prog 109 #[.string ⟨#[58, 45]⟩, .slice q 2 2] V fun x w' => x = .returned (.agg #[.int .i64 r.kind, .string r.name, .string r.num, .int .u64 r.bits, .int .i64 r.var, .slice q r.args.length 2]) ∧ Below V.heap.size V w' from fun V q => by rw [hr]; exact of_any nIf [hd, g] q 2 V)
  have TY := hid (show ∀ V k qa ca qb cb, V.heap[k]? = some (.cells #[.int .i64 hd.kind, .string hd.name, .string hd.num, .int .u64 hd.bits, .int .i64 hd.var, .slice qa hd.args.length ca, .int .i64 g.kind, .string g.name, .string g.num, .int .u64 g.bits, .int .i64 g.var, .slice qb g.args.length cb] 25 (0, 0)) → TmAt V hd qa → TmAt V g qb → TmAt V r (some ⟨k, 0, none⟩) from fun V k qa ca qb cb h h2 h3 => by
    rw [hr]
    exact built nIf [(hd, qa, ca), (g, qb, cb)] h rfl (by simp) (fun x hx => by
      simp at hx
      rcases hx with rfl | rfl
      · exact h2
      · exact h3))
  rw [← hr] at HQ
  clear hr
  clear hc i1 hbt hbo hok
  clear hst T1 T2 g1 g2 hX hn1 hn2 h0 hmx hQ
  show Code.wp Tryz.prog tailR _ _ _
  conv => arg 2; whnf
  obtain ⟨g0, g1, g2, g3, g4, g5, j0, j1, j2, j3, j4, j5, l0, l1, l2, l3, l4, l5, i0, i1, i2, i3, i4, i5⟩ := SR.out _ BB.out
  go_upto_region 7 with (first
    | (go_at_call 106; (with_reducible refine (CI.out _).mono ?_); rintro x v2 ⟨rfl, hb2⟩; have BB := hid (BB.out.trans (But1.of_below XB.out hb2)); have XB := hid (XB.out.keep hb2); clear hb2 g0 g1 g2 g3 g4 g5 j0 j1 j2 j3 j4 j5 l0 l1 l2 l3 l4 l5 i0 i1 i2 i3 i4 i5; obtain ⟨g0, g1, g2, g3, g4, g5, j0, j1, j2, j3, j4, j5, l0, l1, l2, l3, l4, l5, i0, i1, i2, i3, i4, i5⟩ := SR.out _ BB.out)
    | (go_at_call 108; (with_reducible refine (CN.out _).mono ?_); rintro x v3 ⟨rfl, hb3⟩; have BB := hid (BB.out.trans (But1.of_below XB.out hb3)); have XB := hid (XB.out.keep hb3); clear hb3 g0 g1 g2 g3 g4 g5 j0 j1 j2 j3 j4 j5 l0 l1 l2 l3 l4 l5 i0 i1 i2 i3 i4 i5; obtain ⟨g0, g1, g2, g3, g4, g5, j0, j1, j2, j3, j4, j5, l0, l1, l2, l3, l4, l5, i0, i1, i2, i3, i4, i5⟩ := SR.out _ BB.out)
    | fail)
  have BD := hid (show But1 bx W (World.drew _) from BB.out.trans (But1.of_below XB.out (bl_drew (Below.refl _ _))))
  have XD := hid (show Box1 (World.drew _) bx (n + 2) from XB.out)
  have sr := SR.out _ BB.out
  clear g0 g1 g2 g3 g4 g5 j0 j1 j2 j3 j4 j5 l0 l1 l2 l3 l4 l5 i0 i1 i2 i3 i4 i5
  go_region_held3 (fun V => V.cell? ⟨k5, 0, none⟩ = some (.int .i64 a1.kind) ∧ V.cell? ⟨k5, 1, none⟩ = some (.string a1.name) ∧ V.cell? ⟨k5, 2, none⟩ = some (.string a1.num) ∧ V.cell? ⟨k5, 3, none⟩ = some (.int .u64 a1.bits) ∧ V.cell? ⟨k5, 4, none⟩ = some (.int .i64 a1.var) ∧ V.cell? ⟨k5, 5, none⟩ = some (.slice p1 a1.args.length c1) ∧ V.cell? ⟨k6, 0, none⟩ = some (.int .i64 a2.kind) ∧ V.cell? ⟨k6, 1, none⟩ = some (.string a2.name) ∧ V.cell? ⟨k6, 2, none⟩ = some (.string a2.num) ∧ V.cell? ⟨k6, 3, none⟩ = some (.int .u64 a2.bits) ∧ V.cell? ⟨k6, 4, none⟩ = some (.int .i64 a2.var) ∧ V.cell? ⟨k6, 5, none⟩ = some (.slice p2 a2.args.length c2) ∧ V.cell? ⟨k7, 0, none⟩ = some (.int .i64 1) ∧ V.cell? ⟨k7, 1, none⟩ = some (.string ⟨#[]⟩) ∧ V.cell? ⟨k7, 2, none⟩ = some (.string ⟨#[]⟩) ∧ V.cell? ⟨k7, 3, none⟩ = some (.int .u64 0) ∧ V.cell? ⟨k7, 4, none⟩ = some (.int .i64 n) ∧ V.cell? ⟨k7, 5, none⟩ = some (.slice none 0 0) ∧ V.cell? ⟨k8, 0, none⟩ = some (.int .i64 1) ∧ V.cell? ⟨k8, 1, none⟩ = some (.string ⟨#[]⟩) ∧ V.cell? ⟨k8, 2, none⟩ = some (.string ⟨#[]⟩) ∧ V.cell? ⟨k8, 3, none⟩ = some (.int .u64 0) ∧ V.cell? ⟨k8, 4, none⟩ = some (.int .i64 (n + 1)) ∧ V.cell? ⟨k8, 5, none⟩ = some (.slice none 0 0))
    (first
      | (with_reducible exact sr)
      | (with_reducible exact SR.out _ BD.out)
      | (with_reducible exact SR.out _ D3.out)
      | (with_reducible exact SS.out _ D3.out _ _ _ _ _ _)
      | (with_reducible exact SR.out _ D6.out)
      | (with_reducible exact SS.out _ D6.out _ _ _ _ _ _)
      | (with_reducible exact SR.out _ D7.out)
      | (with_reducible exact SS.out _ D7.out _ _ _ _ _ _)
      | (with_reducible exact SR.out _ D8.out)
      | (with_reducible exact SS.out _ D8.out _ _ _ _ _ _)
      | fail)
    ((first
      | (go_at_call 110; (with_reducible refine (CT.out _ BD.out).mono ?_); rintro x w3 ⟨q3, c3, rfl, hm3, hb3⟩; have D3 := hid (BD.out.trans (But1.of_below XD.out hb3)); have X3 := hid (XD.out.keep hb3); have M3 := hid hm3; clear hm3 hb3)
      | (go_at_call 68; (with_reducible refine (CB.out _ D3.out X3.out).mono ?_); rintro x w6 ⟨q6, c6, rfl, hm6, hx6, hb6⟩; have D6 := hid (D3.out.trans hb6); have X6 := hid hx6; have M6 := hid hm6; have M5 := hid (hb6.tm M3.out); clear hm6 hx6 hb6; obtain ⟨W7, hW7⟩ : ∃ W7, W7 = w6.alloc (.cells #[.int .i64 hd.kind, .string hd.name, .string hd.num, .int .u64 hd.bits, .int .i64 hd.var, .slice q3 hd.args.length c3, .int .i64 g.kind, .string g.name, .string g.num, .int .u64 g.bits, .int .i64 g.var, .slice q6 g.args.length c6] 25) := ⟨_, rfl⟩; have A7 := hid (show Below w6.heap.size w6 W7 by rw [hW7]; exact (Below.refl _ _).alloc (Nat.le_refl _) _); have D7 := hid (show But1 bx W (w6.alloc (.cells #[.int .i64 hd.kind, .string hd.name, .string hd.num, .int .u64 hd.bits, .int .i64 hd.var, .slice q3 hd.args.length c3, .int .i64 g.kind, .string g.name, .string g.num, .int .u64 g.bits, .int .i64 g.var, .slice q6 g.args.length c6] 25)) by rw [← hW7]; exact D6.out.trans (But1.of_below X6.out A7.out)); have X7 := hid (X6.out.keep A7.out); have Y7 := hid (TY.out W7 w6.heap.size q3 c3 q6 c6 (by rw [hW7]; exact heap_alloc_new w6 _) (M5.out.keep A7.out) (M6.out.keep A7.out)))
      | (go_at_call 109; rw [← hW7]; (with_reducible refine (CO.out _ _).mono ?_); rintro x w8 ⟨rfl, hb8⟩; have D8 := hid ((show But1 bx W W7 by rw [hW7]; exact D7.out).trans (But1.of_below X7.out hb8)); have X9 := hid (X7.out.keep hb8); have M9 := hid (Y7.out.keep hb8); have D9 := hid D8.out; have R9 := hid (D8.out.obj R0.out NE.out.e4); clear hb8; obtain ⟨⟨z0, z1, z2, z3, z4, z5⟩, ⟨f0, f1, f2, f3, f4, f5⟩⟩ := six_free R9.out)
      | fail))
  all_goals
    go_wp2_with fail
    have hq := hlo.out
    have hgr := set6_grown w8 k4 (.int .i64 r.kind) (.string r.name) (.string r.num) (.int .u64 r.bits) (.int .i64 r.var) (.slice (some ⟨w6.heap.size, 0, none⟩) r.args.length 2)
    have hm' := TmAt.past (b := k4) (t := r) (p := (some ⟨w6.heap.size, 0, none⟩)) (show Blank w8 k4 from R9.out) (Past.grown hgr) GR.out M9.out
    have hx' : Box1 _ bx m := (hgr.block bx (lt_of_block X9.out) (fun e => by have := Option.some.inj e; omega)).trans X9.out
    exact bodyPost_ret (results_tm rfl _ _ k4 r (some ⟨w6.heap.size, 0, none⟩) 2 (by rfl) (set6 R9.out _ _ _ _ _ _)) rfl (HQ.out _ _ ⟨(some ⟨w6.heap.size, 0, none⟩), 2, rfl, hm', hx', ⟨(N0.out.trans D9.out).chg.grown1 hgr (fun x e => .inl (by have := Option.some.inj e; omega)), N0.out.here, ⟨_, hx'⟩⟩⟩)
end Go.Proofs.YtiaddfedaikaiaaGreatDoor

namespace Go.Proofs.YtiaddfedaikaiaaGreatDoor
open Go.RowKit

/-- One more box. -/
structure More (k4 k5 k6 k7 k8 k9 : Nat) (w W : World) (ob : Obj) : Prop where
  o9 : W.heap[k9]? = some ob
  n9 : w.heap.size ≤ k9
  d49 : k4 ≠ k9
  d59 : k5 ≠ k9
  d69 : k6 ≠ k9
  d79 : k7 ≠ k9
  d89 : k8 ≠ k9
noncomputable def tail6 : Code := seqDrop 6 (Tryz.f52.body.getD .skip)
noncomputable def tail8 : Code := seqDrop 8 (Tryz.f52.body.getD .skip)
/-- What lies where, when the head is written over by its first part, and the other one has a box of its own. -/
theorem push_st {bx k4 k5 k6 k7 k8 : Nat} {n : Int} {a1 a2 a3 a4 : Tm} {p1 p2 p3 p4 : Option Addr} {c1 c2 c3 c4 : Nat} {w W v U0 U1 U2 U3 : World} (hst : RuleSt bx n (n + 2) a1 a2 p1 p2 c1 c2 k4 k5 k6 k7 k8 w W) (hb : But1 bx W v) (hx : Box1 v bx (n + 2)) (h0 : U0 = v.drew) (h1 : U1 = U0.alloc (.cells #[.int .i64 0, .string ⟨#[]⟩, .string ⟨#[]⟩, .int .u64 0, .int .i64 0, .slice none 0 0] 25)) (h2 : U2 = ((((((U1.setCell ⟨k5, 0, none⟩ (.int .i64 a3.kind)).setCell ⟨k5, 1, none⟩ (.string a3.name)).setCell ⟨k5, 2, none⟩ (.string a3.num)).setCell ⟨k5, 3, none⟩ (.int .u64 a3.bits)).setCell ⟨k5, 4, none⟩ (.int .i64 a3.var)).setCell ⟨k5, 5, none⟩ (.slice p3 a3.args.length c3))) (h3 : U3 = ((((((U2.setCell ⟨U0.heap.size, 0, none⟩ (.int .i64 a4.kind)).setCell ⟨U0.heap.size, 1, none⟩ (.string a4.name)).setCell ⟨U0.heap.size, 2, none⟩ (.string a4.num)).setCell ⟨U0.heap.size, 3, none⟩ (.int .u64 a4.bits)).setCell ⟨U0.heap.size, 4, none⟩ (.int .i64 a4.var)).setCell ⟨U0.heap.size, 5, none⟩ (.slice p4 a4.args.length c4))) :
    (U0.heap[k5]? = some (.cells #[.int .i64 a1.kind, .string a1.name, .string a1.num, .int .u64 a1.bits, .int .i64 a1.var, .slice p1 a1.args.length c1] 25 (0, 0)) ∧ U1.heap[k5]? = some (.cells #[.int .i64 a1.kind, .string a1.name, .string a1.num, .int .u64 a1.bits, .int .i64 a1.var, .slice p1 a1.args.length c1] 25 (0, 0)) ∧ U2.heap[U0.heap.size]? = some (.cells #[.int .i64 0, .string ⟨#[]⟩, .string ⟨#[]⟩, .int .u64 0, .int .i64 0, .slice none 0 0] 25 (0, 0)) ∧ But1 bx W U0 ∧ But1 bx W U1 ∧ Past U1 U2 k5 ∧ Past U2 U3 U0.heap.size) ∧
    RuleSt bx n (n + 2) a3 a2 p3 p2 c3 c2 k4 k5 k6 k7 k8 w U3 ∧ More k4 k5 k6 k7 k8 U0.heap.size w U3 (.cells #[.int .i64 a4.kind, .string a4.name, .string a4.num, .int .u64 a4.bits, .int .i64 a4.var, .slice p4 a4.args.length c4] 25 (0, 0)) := by
  have hlt := hst.but.lt
  have b0 : But1 bx W U0 := by rw [h0]; exact hb.trans (But1.of_below hx (Below.refl _ _).drew)
  have x0 : Box1 U0 bx (n + 2) := by rw [h0]; exact hx
  have b01 : Below U0.heap.size U0 U1 := by rw [h1]; exact (Below.refl _ _).alloc (Nat.le_refl _) _
  have b1 := b0.trans (But1.of_below x0 b01)
  have x1 := x0.keep b01
  have q5 := hst.n5
  have q4 := hst.n4
  have q6 := hst.n6
  have q7 := hst.n7
  have q8 := hst.n8
  have o5 := b0.obj hst.o5 (by omega)
  have o5' := obj_keep o5 b01
  have o9 : U1.heap[U0.heap.size]? = some (.cells #[.int .i64 0, .string ⟨#[]⟩, .string ⟨#[]⟩, .int .u64 0, .int .i64 0, .slice none 0 0] 25 (0, 0)) := by rw [h1]; exact heap_alloc_new _ _
  have l5 := lt_of_block o5
  have gr2 : U1.grownBy U2 (some k5) := by rw [h2]; exact set6_grown U1 k5 _ _ _ _ _ _
  have k2 : U2.heap[k5]? = some (.cells #[.int .i64 a3.kind, .string a3.name, .string a3.num, .int .u64 a3.bits, .int .i64 a3.var, .slice p3 a3.args.length c3] 25 (0, 0)) := by rw [h2]; exact set6 o5' _ _ _ _ _ _
  have far2 : ∀ {j : Nat} {ob : Obj}, U1.heap[j]? = some ob → j ≠ k5 → U2.heap[j]? = some ob := fun h hne => (gr2.block _ (lt_of_block h) (fun e => hne (Option.some.inj e))).trans h
  have o92 := far2 o9 (by omega)
  have gr3 : U2.grownBy U3 (some U0.heap.size) := by rw [h3]; exact set6_grown U2 U0.heap.size _ _ _ _ _ _
  have k3 : U3.heap[U0.heap.size]? = some (.cells #[.int .i64 a4.kind, .string a4.name, .string a4.num, .int .u64 a4.bits, .int .i64 a4.var, .slice p4 a4.args.length c4] 25 (0, 0)) := by rw [h3]; exact set6 o92 _ _ _ _ _ _
  have far3 : ∀ {j : Nat} {ob : Obj}, U2.heap[j]? = some ob → j ≠ U0.heap.size → U3.heap[j]? = some ob := fun h hne => (gr3.block _ (lt_of_block h) (fun e => hne (Option.some.inj e))).trans h
  have old : ∀ {j : Nat} {ob : Obj}, W.heap[j]? = some ob → j ≠ bx → j ≠ k5 → U3.heap[j]? = some ob ∧ j < U0.heap.size := fun h hne hn5 => by
    have a := b0.obj h hne
    have l := lt_of_block a
    exact ⟨far3 (far2 (obj_keep a b01) hn5) (by omega), l⟩
  have x3 : Box1 U3 bx (n + 2) := far3 (far2 x1 (by omega)) (by have := lt_of_block x0; omega)
  have r4 := old hst.o4 (by omega) hst.d45
  have r6 := old hst.o6 (by omega) hst.d56.symm
  have r7 := old hst.o7 (by omega) hst.d57.symm
  have r8 := old hst.o8 (by omega) hst.d58.symm
  have hsz : w.heap.size ≤ U0.heap.size := by omega
  refine ⟨⟨o5, o5', o92, b0, b1, Past.grown gr2, Past.grown gr3⟩, ⟨⟨((hst.but.trans b1).chg.grown1 gr2 (fun x e => .inl (by have := Option.some.inj e; omega))).grown1 gr3 (fun x e => .inl (by have := Option.some.inj e; omega)), hst.but.here, ⟨_, x3⟩⟩, x3, r4.1, far3 k2 (by omega), r6.1, r7.1, r8.1, q4, q5, q6, q7, q8, hst.d45, hst.d46, hst.d47, hst.d48, hst.d56, hst.d57, hst.d58, hst.d67, hst.d68, hst.d78⟩, ⟨k3, hsz, by omega, by omega, by omega, by omega, by omega⟩⟩
set_option maxRecDepth 100000 in
set_option maxHeartbeats 16000000 in
theorem push_boxes (bx : Nat) (n : Int) (a1 a2 : Tm) (p1 p2 : Option Addr) (c1 c2 : Nat) (k4 k5 k6 k7 k8 : Nat) (w W : World) {u0 u2 u3 u9 u10 u11 u12 u13 u14 u15 u16 u17 u18 u19 u20 u21 u22 u23 u24 u25 u26 u27 u28 u29 u30 u31 u32 u33 u34 u35 u36 u37 u38 u39 u40 u41 u42 u43 u44 u45 u46 u47 u48 u49 u50 u51 u52 u53 u54 u55 u56 u57 u58 u59 u60 u61 u62 u63 u64 u65 u66 u67 u68 u69 u70 u71 u72 u73 u74 u75 u76 : Value} (hst : RuleSt bx n (n + 2) a1 a2 p1 p2 c1 c2 k4 k5 k6 k7 k8 w W) (T1 : TmAt w a1 p1) (_T2 : TmAt w a2 p2) (g1 : Good a1) (_g2 : Good a2) (_hX : ∀ V, But1 bx w V → Utf V) (_hn1 : nodes a1 ≤ 4000) (_hn2 : nodes a2 ≤ 4000) (_h0 : 0 ≤ n) (_hmx : n + 3 + nodes a1 + nodes a2 ≤ 9223372036854775806) (a3 a4 : Tm) (p3 p4 : Option Addr) (c3 c4 : Nat) (b o : Nat) (hp1 : p1 = some ⟨b, o, none⟩) (hlen : a1.args.length = 2) (h3 : Six w b o a3 p3 c3) (h4 : Six w b (o + 6) a4 p4 c4) (i1 : isOfT a1 nComma 2 = true) (Q : Ending → World → Prop)
    (HK : ∀ u0 u2 u3 u10 u11 u12 u13 u14 u15 u16 u17 u18 u19 u20 u21 u22 u23 u24 u25 u26 u27 u28 u29 u30 u31 u32 u33 u34 u35 u36 u37 u38 u39 u40 u41 u42 u43 u44 u45 u46 u47 u48 u49 u50 u51 u52 u53 u54 u55 u56 u57 u58 u59 u60 u61 u62 u63 u64 u65 u66 u67 u68 u69 u70 u71 u72 u73 u74 u75 u76 k9 V, RuleSt bx n (n + 2) a3 a2 p3 p2 c3 c2 k4 k5 k6 k7 k8 w V → More k4 k5 k6 k7 k8 k9 w V (.cells #[.int .i64 a4.kind, .string a4.name, .string a4.num, .int .u64 a4.bits, .int .i64 a4.var, .slice p4 a4.args.length c4] 25 (0, 0)) → Code.wp Tryz.prog tail6 (bodyPost Tryz.prog Tryz.f52 Q) ⟨#[u0, .func (.func 104) #[] #[.pointer (some ⟨bx, 0, none⟩)], u2, u3, .pointer (some ⟨k4, 0, none⟩), .pointer (some ⟨k5, 0, none⟩), .pointer (some ⟨k6, 0, none⟩), .pointer (some ⟨k7, 0, none⟩), .pointer (some ⟨k8, 0, none⟩), .pointer (some ⟨k9, 0, none⟩), u10, u11, u12, u13, u14, u15, u16, u17, u18, u19, u20, u21, u22, u23, u24, u25, u26, u27, u28, u29, u30, u31, u32, u33, u34, u35, u36, u37, u38, u39, u40, u41, u42, u43, u44, u45, u46, u47, u48, u49, u50, u51, u52, u53, u54, u55, u56, u57, u58, u59, u60, u61, u62, u63, u64, u65, u66, u67, u68, u69, u70, u71, u72, u73, u74, u75, u76], []⟩ V) :
    Code.wp Tryz.prog tailR (bodyPost Tryz.prog Tryz.f52 Q) ⟨#[u0, .func (.func 104) #[] #[.pointer (some ⟨bx, 0, none⟩)], u2, u3, .pointer (some ⟨k4, 0, none⟩), .pointer (some ⟨k5, 0, none⟩), .pointer (some ⟨k6, 0, none⟩), .pointer (some ⟨k7, 0, none⟩), .pointer (some ⟨k8, 0, none⟩), u9, u10, u11, u12, u13, u14, u15, u16, u17, u18, u19, u20, u21, u22, u23, u24, u25, u26, u27, u28, u29, u30, u31, u32, u33, u34, u35, u36, u37, u38, u39, u40, u41, u42, u43, u44, u45, u46, u47, u48, u49, u50, u51, u52, u53, u54, u55, u56, u57, u58, u59, u60, u61, u62, u63, u64, u65, u66, u67, u68, u69, u70, u71, u72, u73, u74, u75, u76], []⟩ W := by
  have CH := hid HK
  have ST := hid hst
  have N0 := hid hst.but
  have XB := hid hst.box
  subst hp1
  have NE := hid (show NeSt bx k4 k5 k6 k7 k8 from ne_st hst)
  have SR := hid (fun (V : World) (h : But1 bx W V) => (show V.cell? ⟨k5, 0, none⟩ = some (.int .i64 a1.kind) ∧ V.cell? ⟨k5, 1, none⟩ = some (.string a1.name) ∧ V.cell? ⟨k5, 2, none⟩ = some (.string a1.num) ∧ V.cell? ⟨k5, 3, none⟩ = some (.int .u64 a1.bits) ∧ V.cell? ⟨k5, 4, none⟩ = some (.int .i64 a1.var) ∧ V.cell? ⟨k5, 5, none⟩ = some (.slice (some ⟨b, o, none⟩) a1.args.length c1) ∧ V.cell? ⟨k6, 0, none⟩ = some (.int .i64 a2.kind) ∧ V.cell? ⟨k6, 1, none⟩ = some (.string a2.name) ∧ V.cell? ⟨k6, 2, none⟩ = some (.string a2.num) ∧ V.cell? ⟨k6, 3, none⟩ = some (.int .u64 a2.bits) ∧ V.cell? ⟨k6, 4, none⟩ = some (.int .i64 a2.var) ∧ V.cell? ⟨k6, 5, none⟩ = some (.slice p2 a2.args.length c2) ∧ V.cell? ⟨k7, 0, none⟩ = some (.int .i64 1) ∧ V.cell? ⟨k7, 1, none⟩ = some (.string ⟨#[]⟩) ∧ V.cell? ⟨k7, 2, none⟩ = some (.string ⟨#[]⟩) ∧ V.cell? ⟨k7, 3, none⟩ = some (.int .u64 0) ∧ V.cell? ⟨k7, 4, none⟩ = some (.int .i64 n) ∧ V.cell? ⟨k7, 5, none⟩ = some (.slice none 0 0) ∧ V.cell? ⟨k8, 0, none⟩ = some (.int .i64 1) ∧ V.cell? ⟨k8, 1, none⟩ = some (.string ⟨#[]⟩) ∧ V.cell? ⟨k8, 2, none⟩ = some (.string ⟨#[]⟩) ∧ V.cell? ⟨k8, 3, none⟩ = some (.int .u64 0) ∧ V.cell? ⟨k8, 4, none⟩ = some (.int .i64 (n + 1)) ∧ V.cell? ⟨k8, 5, none⟩ = some (.slice none 0 0) from by
    have mg := (six_free (h.obj hst.o5 (NE.out.e5).1)).1
    have mj := (six_free (h.obj hst.o6 (NE.out.e6).1)).1
    have ml := (six_free (h.obj hst.o7 (NE.out.e7).1)).1
    have mi := (six_free (h.obj hst.o8 (NE.out.e8).1)).1
    exact ⟨mg.1, mg.2.1, mg.2.2.1, mg.2.2.2.1, mg.2.2.2.2.1, mg.2.2.2.2.2, mj.1, mj.2.1, mj.2.2.1, mj.2.2.2.1, mj.2.2.2.2.1, mj.2.2.2.2.2, ml.1, ml.2.1, ml.2.2.1, ml.2.2.2.1, ml.2.2.2.2.1, ml.2.2.2.2.2, mi.1, mi.2.1, mi.2.2.1, mi.2.2.2.1, mi.2.2.2.2.1, mi.2.2.2.2.2⟩))
  have BB := hid (But1.refl hst.box)
  have CI := hid (show ∀ V, Calls Tryz.prog 106 #[.agg #[.int .i64 a1.kind, .string a1.name, .string a1.num, .int .u64 a1.bits, .int .i64 a1.var, .slice (some ⟨b, o, none⟩) a1.args.length c1], .string ⟨#[44]⟩, .int .i64 2] V fun x w' => x = .returned (.bool true) ∧ Below V.heap.size V w' from fun V => by rw [← i1]; exact isOf_any a1 (some ⟨b, o, none⟩) c1 nComma 2 V (by have := g1.few; unfold maxLen; omega))
  have hlt : b < w.heap.size := by
    have := World.block_lt_of_cell? w _ h3.c0
    simpa using this
  have SA := hid (fun (V : World) (h : But1 bx W V) => (show V.cell? ⟨b, o, none⟩ = some (.int .i64 a3.kind) ∧ V.cell? ⟨b, o + 1, none⟩ = some (.string a3.name) ∧ V.cell? ⟨b, o + 2, none⟩ = some (.string a3.num) ∧ V.cell? ⟨b, o + 3, none⟩ = some (.int .u64 a3.bits) ∧ V.cell? ⟨b, o + 4, none⟩ = some (.int .i64 a3.var) ∧ V.cell? ⟨b, o + 5, none⟩ = some (.slice p3 a3.args.length c3) ∧ V.cell? ⟨b, o + 6, none⟩ = some (.int .i64 a4.kind) ∧ V.cell? ⟨b, o + 6 + 1, none⟩ = some (.string a4.name) ∧ V.cell? ⟨b, o + 6 + 2, none⟩ = some (.string a4.num) ∧ V.cell? ⟨b, o + 6 + 3, none⟩ = some (.int .u64 a4.bits) ∧ V.cell? ⟨b, o + 6 + 4, none⟩ = some (.int .i64 a4.var) ∧ V.cell? ⟨b, o + 6 + 5, none⟩ = some (.slice p4 a4.args.length c4) from by
    have m3 := (hst.but.trans h).six h3
    have m4 := (hst.but.trans h).six h4
    exact ⟨m3.c0, m3.c1, m3.c2, m3.c3, m3.c4, m3.c5, m4.c0, m4.c1, m4.c2, m4.c3, m4.c4, m4.c5⟩))
  have h01 : (0 : Int) < (a1.args.length : Int) := by omega
  have h02 : 0 < a1.args.length := by omega
  have h03 : a1.args ≠ [] := List.length_pos_iff.1 h02
  have h04 : (1 : Int) < (a1.args.length : Int) := by omega
  have h05 : 1 < a1.args.length := by omega
  have H3 := hid h3
  have H4 := hid h4
  have HLT := hid (show b < w.heap.size ∧ w.heap.size ≤ k5 ∧ w.heap.size ≤ k4 from ⟨hlt, hst.n5, hst.n4⟩)
  clear hst T1 _T2 g1 _g2 _hX _hn1 _hn2 _h0 _hmx hlen h3 h4 i1 HK hlt
  show Code.wp Tryz.prog tailR _ _ _
  conv => arg 2; whnf
  obtain ⟨g0, g1, _g2, g3, g4, g5, j0, j1, j2, j3, j4, j5, l0, l1, l2, l3, l4, l5, i0, i1, i2, i3, i4, i5⟩ := SR.out _ BB.out
  go_upto_region 8 with (first
    | (go_at_call 106; (with_reducible refine (CI.out _).mono ?_); rintro x v2 ⟨rfl, hb2⟩; have BB := hid (BB.out.trans (But1.of_below XB.out hb2)); have XB := hid (XB.out.keep hb2); clear hb2 g0 g1 _g2 g3 g4 g5 j0 j1 j2 j3 j4 j5 l0 l1 l2 l3 l4 l5 i0 i1 i2 i3 i4 i5; obtain ⟨g0, g1, _g2, g3, g4, g5, j0, j1, j2, j3, j4, j5, l0, l1, l2, l3, l4, l5, i0, i1, i2, i3, i4, i5⟩ := SR.out _ BB.out)
    | fail)
  clear SR g0 g1 _g2 g3 g4 g5 j0 j1 j2 j3 j4 j5 l0 l1 l2 l3 l4 l5 i0 i1 i2 i3 i4 i5
  go_cut [9] (fun s9 wx => ∃ k9, s9 = .pointer (some ⟨k9, 0, none⟩) ∧ RuleSt bx n (n + 2) a3 a2 p3 p2 c3 c2 k4 k5 k6 k7 k8 w wx ∧ More k4 k5 k6 k7 k8 k9 w wx (.cells #[.int .i64 a4.kind, .string a4.name, .string a4.num, .int .u64 a4.bits, .int .i64 a4.var, .slice p4 a4.args.length c4] 25 (0, 0)))
  case first =>
    obtain ⟨U0, hU0⟩ : ∃ U0, U0 = v2.drew := ⟨_, rfl⟩
    obtain ⟨U1, hU1⟩ : ∃ U1, U1 = U0.alloc (.cells #[.int .i64 0, .string ⟨#[]⟩, .string ⟨#[]⟩, .int .u64 0, .int .i64 0, .slice none 0 0] 25) := ⟨_, rfl⟩
    obtain ⟨U2, hU2⟩ : ∃ U2, U2 = ((((((U1.setCell ⟨k5, 0, none⟩ (.int .i64 a3.kind)).setCell ⟨k5, 1, none⟩ (.string a3.name)).setCell ⟨k5, 2, none⟩ (.string a3.num)).setCell ⟨k5, 3, none⟩ (.int .u64 a3.bits)).setCell ⟨k5, 4, none⟩ (.int .i64 a3.var)).setCell ⟨k5, 5, none⟩ (.slice p3 a3.args.length c3)) := ⟨_, rfl⟩
    obtain ⟨U3, hU3⟩ : ∃ U3, U3 = ((((((U2.setCell ⟨U0.heap.size, 0, none⟩ (.int .i64 a4.kind)).setCell ⟨U0.heap.size, 1, none⟩ (.string a4.name)).setCell ⟨U0.heap.size, 2, none⟩ (.string a4.num)).setCell ⟨U0.heap.size, 3, none⟩ (.int .u64 a4.bits)).setCell ⟨U0.heap.size, 4, none⟩ (.int .i64 a4.var)).setCell ⟨U0.heap.size, 5, none⟩ (.slice p4 a4.args.length c4)) := ⟨_, rfl⟩
    obtain ⟨⟨f0, f1, f2, f3, f4, f5, f6⟩, hend⟩ := push_st ST.out BB.out XB.out hU0 hU1 hU2 hU3
    have W0 := hid (six_free f0)
    have W1 := hid (six_free f1)
    have W2 := hid (six_free f2)
    have HU2 := hid hU2
    have HU3 := hid hU3
    have S2 := hid (show U2.cell? ⟨b, o, none⟩ = some (.int .i64 a3.kind) ∧ U2.cell? ⟨b, o + 1, none⟩ = some (.string a3.name) ∧ U2.cell? ⟨b, o + 2, none⟩ = some (.string a3.num) ∧ U2.cell? ⟨b, o + 3, none⟩ = some (.int .u64 a3.bits) ∧ U2.cell? ⟨b, o + 4, none⟩ = some (.int .i64 a3.var) ∧ U2.cell? ⟨b, o + 5, none⟩ = some (.slice p3 a3.args.length c3) ∧ U2.cell? ⟨b, o + 6, none⟩ = some (.int .i64 a4.kind) ∧ U2.cell? ⟨b, o + 6 + 1, none⟩ = some (.string a4.name) ∧ U2.cell? ⟨b, o + 6 + 2, none⟩ = some (.string a4.num) ∧ U2.cell? ⟨b, o + 6 + 3, none⟩ = some (.int .u64 a4.bits) ∧ U2.cell? ⟨b, o + 6 + 4, none⟩ = some (.int .i64 a4.var) ∧ U2.cell? ⟨b, o + 6 + 5, none⟩ = some (.slice p4 a4.args.length c4) from by
      have hb1 := N0.out.trans f4
      have hsz := f4.size
      have m3 := (hb1.six H3.out).same (f5 b (by have := HLT.out; have := hb1.size; omega) (by have := HLT.out; omega))
      have m4 := (hb1.six H4.out).same (f5 b (by have := HLT.out; have := hb1.size; omega) (by have := HLT.out; omega))
      exact ⟨m3.c0, m3.c1, m3.c2, m3.c3, m3.c4, m3.c5, m4.c0, m4.c1, m4.c2, m4.c3, m4.c4, m4.c5⟩)
    have S3 := hid (show U3.cell? ⟨b, o, none⟩ = some (.int .i64 a3.kind) ∧ U3.cell? ⟨b, o + 1, none⟩ = some (.string a3.name) ∧ U3.cell? ⟨b, o + 2, none⟩ = some (.string a3.num) ∧ U3.cell? ⟨b, o + 3, none⟩ = some (.int .u64 a3.bits) ∧ U3.cell? ⟨b, o + 4, none⟩ = some (.int .i64 a3.var) ∧ U3.cell? ⟨b, o + 5, none⟩ = some (.slice p3 a3.args.length c3) ∧ U3.cell? ⟨b, o + 6, none⟩ = some (.int .i64 a4.kind) ∧ U3.cell? ⟨b, o + 6 + 1, none⟩ = some (.string a4.name) ∧ U3.cell? ⟨b, o + 6 + 2, none⟩ = some (.string a4.num) ∧ U3.cell? ⟨b, o + 6 + 3, none⟩ = some (.int .u64 a4.bits) ∧ U3.cell? ⟨b, o + 6 + 4, none⟩ = some (.int .i64 a4.var) ∧ U3.cell? ⟨b, o + 6 + 5, none⟩ = some (.slice p4 a4.args.length c4) from by
      have hb1 := N0.out.trans f4
      have hb0 := N0.out.trans f3
      have l2 : U1.heap.size ≤ U2.heap.size := by rw [hU2]; exact (set6_grown U1 k5 _ _ _ _ _ _).size
      have m3 := ((hb1.six H3.out).same (f5 b (by have := HLT.out; have := hb1.size; omega) (by have := HLT.out; omega))).same (f6 b (by have := HLT.out; have := hb1.size; omega) (by have := HLT.out; have := hb0.size; omega))
      have m4 := ((hb1.six H4.out).same (f5 b (by have := HLT.out; have := hb1.size; omega) (by have := HLT.out; omega))).same (f6 b (by have := HLT.out; have := hb1.size; omega) (by have := HLT.out; have := hb0.size; omega))
      exact ⟨m3.c0, m3.c1, m3.c2, m3.c3, m3.c4, m3.c5, m4.c0, m4.c1, m4.c2, m4.c3, m4.c4, m4.c5⟩)
    have B0 := hid f3
    have B1 := hid f4
    have HU1 := hid hU1
    have EE := hid hend
    clear f0 f1 f2 f3 f4 f5 f6 hend
    refine wp_region_held_drew (S := fun V => V.cell? ⟨b, o, none⟩ = some (.int .i64 a3.kind) ∧ V.cell? ⟨b, o + 1, none⟩ = some (.string a3.name) ∧ V.cell? ⟨b, o + 2, none⟩ = some (.string a3.num) ∧ V.cell? ⟨b, o + 3, none⟩ = some (.int .u64 a3.bits) ∧ V.cell? ⟨b, o + 4, none⟩ = some (.int .i64 a3.var) ∧ V.cell? ⟨b, o + 5, none⟩ = some (.slice p3 a3.args.length c3) ∧ V.cell? ⟨b, o + 6, none⟩ = some (.int .i64 a4.kind) ∧ V.cell? ⟨b, o + 6 + 1, none⟩ = some (.string a4.name) ∧ V.cell? ⟨b, o + 6 + 2, none⟩ = some (.string a4.num) ∧ V.cell? ⟨b, o + 6 + 3, none⟩ = some (.int .u64 a4.bits) ∧ V.cell? ⟨b, o + 6 + 4, none⟩ = some (.int .i64 a4.var) ∧ V.cell? ⟨b, o + 6 + 5, none⟩ = some (.slice p4 a4.args.length c4)) (by kernel_rfl) (by rw [← hU0]; exact SA.out _ B0.out) (fun hHeld => ?_)
    rw [← hU0]
    have sd0 := SA.out _ B0.out
    clear hU0 hU1 hU2 hU3 hHeld
    refine' wpAnyH_take (i := 0) (v := (.pointer (some ⟨k5, 5, none⟩))) rfl (by decide +kernel) (by decide +kernel) (by decide +kernel) (fun _ _ _ h => h) (Or.inl ⟨by rfl, ?_⟩) (by assumption) ?_
    · (intro w5 hSw; (try dsimp only at hSw); go_simp; try with_reducible rfl)
    (try simp only [Act.put, List.setIfInBounds_toArray])
    refine' wpAnyH_take (i := 4) (v := (.pointer (some ⟨k5, 5, none⟩))) rfl (by decide +kernel) (by decide +kernel) (by decide +kernel) (fun _ _ _ h => h) (Or.inl ⟨by rfl, ?_⟩) (by assumption) ?_
    · (intro w5 hSw; (try dsimp only at hSw); go_simp; try with_reducible rfl)
    (try simp only [Act.put])
    refine wpAnyH_ready (rs := [1, 5, 8]) (by decide +kernel) (by simp) ?_
    refine AllReadyH.cons rfl (fun K hK => ?_) ?_
    · obtain ⟨-, -, -, -, -, a5⟩ := W0.out.1
      go_simp
      refine hK.out _ _ (SA.out _ B0.out) (fun hHeld => ?_)
      clear hK K a5
      (try simp only [Act.put, List.setIfInBounds_toArray, List.set_cons_zero, List.set_cons_succ])
      refine' wpAnyH_take (i := 2) (v := (.pointer (some ⟨b, o, none⟩))) rfl (by decide +kernel) (by decide +kernel) (by decide +kernel) (fun _ _ _ h => h) (Or.inl ⟨by rfl, ?_⟩) (by assumption) ?_
      · (intro w5 hSw; (try dsimp only at hSw); go_simp; try with_reducible rfl)
      (try simp only [Act.put, List.setIfInBounds_toArray])
      refine' wpAnyH_take (i := 3) (v := (.agg #[.int .i64 a3.kind, .string a3.name, .string a3.num, .int .u64 a3.bits, .int .i64 a3.var, .slice p3 a3.args.length c3])) rfl (by decide +kernel) (by decide +kernel) (by decide +kernel) (fun _ _ _ h => h) (Or.inl ⟨by rfl, ?_⟩) (by assumption) ?_
      · (intro w5 hSw; (try dsimp only at hSw); go_simp; try with_reducible rfl)
      (try simp only [Act.put])
      refine wpAnyH_ready (rs := [5, 8]) (by decide +kernel) (by simp) ?_
      refine AllReadyH.cons rfl (fun K hK => ?_) ?_
      · obtain ⟨-, -, -, -, -, a5⟩ := W0.out.1
        go_simp
        refine hK.out _ _ (SA.out _ B0.out) (fun hHeld => ?_)
        clear hK K a5
        (try simp only [Act.put, List.setIfInBounds_toArray, List.set_cons_zero, List.set_cons_succ])
        refine' wpAnyH_take (i := 6) (v := (.pointer (some ⟨b, o + 6, none⟩))) rfl (by decide +kernel) (by decide +kernel) (by decide +kernel) (fun _ _ _ h => h) (Or.inl ⟨by rfl, ?_⟩) (by assumption) ?_
        · (intro w5 hSw; (try dsimp only at hSw); go_simp; try with_reducible rfl)
        (try simp only [Act.put, List.setIfInBounds_toArray])
        refine' wpAnyH_take (i := 7) (v := (.agg #[.int .i64 a4.kind, .string a4.name, .string a4.num, .int .u64 a4.bits, .int .i64 a4.var, .slice p4 a4.args.length c4])) rfl (by decide +kernel) (by decide +kernel) (by decide +kernel) (fun _ _ _ h => h) (Or.inl ⟨by rfl, ?_⟩) (by assumption) ?_
        · (intro w5 hSw; (try dsimp only at hSw); go_simp; try with_reducible rfl)
        (try simp only [Act.put])
        refine wpAnyH_ready (rs := [8]) (by decide +kernel) (by simp) ?_
        refine AllReadyH.cons rfl (fun K hK => ?_) AllReadyH.nil
        · obtain ⟨-, -, -, -, -, a5⟩ := W0.out.1
          go_simp
          rw [← HU1.out]
          refine hK.out _ _ (SA.out _ B1.out) (fun hHeld => ?_)
          clear hK K a5
          (try simp only [Act.put, List.setIfInBounds_toArray, List.set_cons_zero, List.set_cons_succ])
          refine wpAnyH_ready (rs := [9]) (by decide +kernel) (by simp) ?_
          refine AllReadyH.cons rfl (fun K hK => ?_) AllReadyH.nil
          obtain ⟨⟨z0, z1, z2, z3, z4, z5⟩, ⟨f0, f1, f2, f3, f4, f5⟩⟩ := W1.out
          go_simp
          rw [← HU2.out]
          refine hK.out _ _ S2.out (fun hHeld => ?_)
          clear hK K z0 z1 z2 z3 z4 z5 f0 f1 f2 f3 f4 f5
          (try simp only [Act.put, List.setIfInBounds_toArray, List.set_cons_zero, List.set_cons_succ])
          refine wpAnyH_ready (rs := [10]) (by decide +kernel) (by simp) ?_
          refine AllReadyH.cons rfl (fun K hK => ?_) AllReadyH.nil
          obtain ⟨⟨z0, z1, z2, z3, z4, z5⟩, ⟨f0, f1, f2, f3, f4, f5⟩⟩ := W2.out
          go_simp
          rw [← HU3.out]
          refine hK.out _ _ S3.out (fun hHeld => ?_)
          clear hK K z0 z1 z2 z3 z4 z5 f0 f1 f2 f3 f4 f5
          (try simp only [Act.put, List.setIfInBounds_toArray, List.set_cons_zero, List.set_cons_succ])
          refine wpAnyH_done (by kernel_rfl) ?_ _
          go_wp2_with fail
          go_meet
          case rel => exact ⟨_, rfl, EE.out.1, EE.out.2⟩
      refine AllReadyH.cons rfl (fun K hK => ?_) AllReadyH.nil
      · obtain ⟨-, -, -, -, -, a5⟩ := W0.out.1
        go_simp
        rw [← HU1.out]
        refine hK.out _ _ (SA.out _ B1.out) (fun hHeld => ?_)
        clear hK K a5
        (try simp only [Act.put, List.setIfInBounds_toArray, List.set_cons_zero, List.set_cons_succ])
        refine wpAnyH_ready (rs := [5]) (by decide +kernel) (by simp) ?_
        refine AllReadyH.cons rfl (fun K hK => ?_) AllReadyH.nil
        · obtain ⟨-, -, -, -, -, a5⟩ := W1.out.1
          go_simp
          refine hK.out _ _ (SA.out _ B1.out) (fun hHeld => ?_)
          clear hK K a5
          (try simp only [Act.put, List.setIfInBounds_toArray, List.set_cons_zero, List.set_cons_succ])
          refine' wpAnyH_take (i := 6) (v := (.pointer (some ⟨b, o + 6, none⟩))) rfl (by decide +kernel) (by decide +kernel) (by decide +kernel) (fun _ _ _ h => h) (Or.inl ⟨by rfl, ?_⟩) (by assumption) ?_
          · (intro w5 hSw; (try dsimp only at hSw); go_simp; try with_reducible rfl)
          (try simp only [Act.put, List.setIfInBounds_toArray])
          refine' wpAnyH_take (i := 7) (v := (.agg #[.int .i64 a4.kind, .string a4.name, .string a4.num, .int .u64 a4.bits, .int .i64 a4.var, .slice p4 a4.args.length c4])) rfl (by decide +kernel) (by decide +kernel) (by decide +kernel) (fun _ _ _ h => h) (Or.inl ⟨by rfl, ?_⟩) (by assumption) ?_
          · (intro w5 hSw; (try dsimp only at hSw); go_simp; try with_reducible rfl)
          (try simp only [Act.put])
          refine wpAnyH_ready (rs := [9]) (by decide +kernel) (by simp) ?_
          refine AllReadyH.cons rfl (fun K hK => ?_) AllReadyH.nil
          obtain ⟨⟨z0, z1, z2, z3, z4, z5⟩, ⟨f0, f1, f2, f3, f4, f5⟩⟩ := W1.out
          go_simp
          rw [← HU2.out]
          refine hK.out _ _ S2.out (fun hHeld => ?_)
          clear hK K z0 z1 z2 z3 z4 z5 f0 f1 f2 f3 f4 f5
          (try simp only [Act.put, List.setIfInBounds_toArray, List.set_cons_zero, List.set_cons_succ])
          refine wpAnyH_ready (rs := [10]) (by decide +kernel) (by simp) ?_
          refine AllReadyH.cons rfl (fun K hK => ?_) AllReadyH.nil
          obtain ⟨⟨z0, z1, z2, z3, z4, z5⟩, ⟨f0, f1, f2, f3, f4, f5⟩⟩ := W2.out
          go_simp
          rw [← HU3.out]
          refine hK.out _ _ S3.out (fun hHeld => ?_)
          clear hK K z0 z1 z2 z3 z4 z5 f0 f1 f2 f3 f4 f5
          (try simp only [Act.put, List.setIfInBounds_toArray, List.set_cons_zero, List.set_cons_succ])
          refine wpAnyH_done (by kernel_rfl) ?_ _
          go_wp2_with fail
          go_meet
          case rel => exact ⟨_, rfl, EE.out.1, EE.out.2⟩
    refine AllReadyH.cons rfl (fun K hK => ?_) ?_
    · obtain ⟨-, -, -, -, -, a5⟩ := W0.out.1
      go_simp
      refine hK.out _ _ (SA.out _ B0.out) (fun hHeld => ?_)
      clear hK K a5
      (try simp only [Act.put, List.setIfInBounds_toArray, List.set_cons_zero, List.set_cons_succ])
      refine' wpAnyH_take (i := 6) (v := (.pointer (some ⟨b, o + 6, none⟩))) rfl (by decide +kernel) (by decide +kernel) (by decide +kernel) (fun _ _ _ h => h) (Or.inl ⟨by rfl, ?_⟩) (by assumption) ?_
      · (intro w5 hSw; (try dsimp only at hSw); go_simp; try with_reducible rfl)
      (try simp only [Act.put, List.setIfInBounds_toArray])
      refine' wpAnyH_take (i := 7) (v := (.agg #[.int .i64 a4.kind, .string a4.name, .string a4.num, .int .u64 a4.bits, .int .i64 a4.var, .slice p4 a4.args.length c4])) rfl (by decide +kernel) (by decide +kernel) (by decide +kernel) (fun _ _ _ h => h) (Or.inl ⟨by rfl, ?_⟩) (by assumption) ?_
      · (intro w5 hSw; (try dsimp only at hSw); go_simp; try with_reducible rfl)
      (try simp only [Act.put])
      refine wpAnyH_ready (rs := [1, 8]) (by decide +kernel) (by simp) ?_
      refine AllReadyH.cons rfl (fun K hK => ?_) ?_
      · obtain ⟨-, -, -, -, -, a5⟩ := W0.out.1
        go_simp
        refine hK.out _ _ (SA.out _ B0.out) (fun hHeld => ?_)
        clear hK K a5
        (try simp only [Act.put, List.setIfInBounds_toArray, List.set_cons_zero, List.set_cons_succ])
        refine' wpAnyH_take (i := 2) (v := (.pointer (some ⟨b, o, none⟩))) rfl (by decide +kernel) (by decide +kernel) (by decide +kernel) (fun _ _ _ h => h) (Or.inl ⟨by rfl, ?_⟩) (by assumption) ?_
        · (intro w5 hSw; (try dsimp only at hSw); go_simp; try with_reducible rfl)
        (try simp only [Act.put, List.setIfInBounds_toArray])
        refine' wpAnyH_take (i := 3) (v := (.agg #[.int .i64 a3.kind, .string a3.name, .string a3.num, .int .u64 a3.bits, .int .i64 a3.var, .slice p3 a3.args.length c3])) rfl (by decide +kernel) (by decide +kernel) (by decide +kernel) (fun _ _ _ h => h) (Or.inl ⟨by rfl, ?_⟩) (by assumption) ?_
        · (intro w5 hSw; (try dsimp only at hSw); go_simp; try with_reducible rfl)
        (try simp only [Act.put])
        refine wpAnyH_ready (rs := [8]) (by decide +kernel) (by simp) ?_
        refine AllReadyH.cons rfl (fun K hK => ?_) AllReadyH.nil
        · obtain ⟨-, -, -, -, -, a5⟩ := W0.out.1
          go_simp
          rw [← HU1.out]
          refine hK.out _ _ (SA.out _ B1.out) (fun hHeld => ?_)
          clear hK K a5
          (try simp only [Act.put, List.setIfInBounds_toArray, List.set_cons_zero, List.set_cons_succ])
          refine wpAnyH_ready (rs := [9]) (by decide +kernel) (by simp) ?_
          refine AllReadyH.cons rfl (fun K hK => ?_) AllReadyH.nil
          obtain ⟨⟨z0, z1, z2, z3, z4, z5⟩, ⟨f0, f1, f2, f3, f4, f5⟩⟩ := W1.out
          go_simp
          rw [← HU2.out]
          refine hK.out _ _ S2.out (fun hHeld => ?_)
          clear hK K z0 z1 z2 z3 z4 z5 f0 f1 f2 f3 f4 f5
          (try simp only [Act.put, List.setIfInBounds_toArray, List.set_cons_zero, List.set_cons_succ])
          refine wpAnyH_ready (rs := [10]) (by decide +kernel) (by simp) ?_
          refine AllReadyH.cons rfl (fun K hK => ?_) AllReadyH.nil
          obtain ⟨⟨z0, z1, z2, z3, z4, z5⟩, ⟨f0, f1, f2, f3, f4, f5⟩⟩ := W2.out
          go_simp
          rw [← HU3.out]
          refine hK.out _ _ S3.out (fun hHeld => ?_)
          clear hK K z0 z1 z2 z3 z4 z5 f0 f1 f2 f3 f4 f5
          (try simp only [Act.put, List.setIfInBounds_toArray, List.set_cons_zero, List.set_cons_succ])
          refine wpAnyH_done (by kernel_rfl) ?_ _
          go_wp2_with fail
          go_meet
          case rel => exact ⟨_, rfl, EE.out.1, EE.out.2⟩
      refine AllReadyH.cons rfl (fun K hK => ?_) AllReadyH.nil
      · obtain ⟨-, -, -, -, -, a5⟩ := W0.out.1
        go_simp
        rw [← HU1.out]
        refine hK.out _ _ (SA.out _ B1.out) (fun hHeld => ?_)
        clear hK K a5
        (try simp only [Act.put, List.setIfInBounds_toArray, List.set_cons_zero, List.set_cons_succ])
        refine wpAnyH_ready (rs := [1]) (by decide +kernel) (by simp) ?_
        refine AllReadyH.cons rfl (fun K hK => ?_) AllReadyH.nil
        · obtain ⟨-, -, -, -, -, a5⟩ := W1.out.1
          go_simp
          refine hK.out _ _ (SA.out _ B1.out) (fun hHeld => ?_)
          clear hK K a5
          (try simp only [Act.put, List.setIfInBounds_toArray, List.set_cons_zero, List.set_cons_succ])
          refine' wpAnyH_take (i := 2) (v := (.pointer (some ⟨b, o, none⟩))) rfl (by decide +kernel) (by decide +kernel) (by decide +kernel) (fun _ _ _ h => h) (Or.inl ⟨by rfl, ?_⟩) (by assumption) ?_
          · (intro w5 hSw; (try dsimp only at hSw); go_simp; try with_reducible rfl)
          (try simp only [Act.put, List.setIfInBounds_toArray])
          refine' wpAnyH_take (i := 3) (v := (.agg #[.int .i64 a3.kind, .string a3.name, .string a3.num, .int .u64 a3.bits, .int .i64 a3.var, .slice p3 a3.args.length c3])) rfl (by decide +kernel) (by decide +kernel) (by decide +kernel) (fun _ _ _ h => h) (Or.inl ⟨by rfl, ?_⟩) (by assumption) ?_
          · (intro w5 hSw; (try dsimp only at hSw); go_simp; try with_reducible rfl)
          (try simp only [Act.put])
          refine wpAnyH_ready (rs := [9]) (by decide +kernel) (by simp) ?_
          refine AllReadyH.cons rfl (fun K hK => ?_) AllReadyH.nil
          obtain ⟨⟨z0, z1, z2, z3, z4, z5⟩, ⟨f0, f1, f2, f3, f4, f5⟩⟩ := W1.out
          go_simp
          rw [← HU2.out]
          refine hK.out _ _ S2.out (fun hHeld => ?_)
          clear hK K z0 z1 z2 z3 z4 z5 f0 f1 f2 f3 f4 f5
          (try simp only [Act.put, List.setIfInBounds_toArray, List.set_cons_zero, List.set_cons_succ])
          refine wpAnyH_ready (rs := [10]) (by decide +kernel) (by simp) ?_
          refine AllReadyH.cons rfl (fun K hK => ?_) AllReadyH.nil
          obtain ⟨⟨z0, z1, z2, z3, z4, z5⟩, ⟨f0, f1, f2, f3, f4, f5⟩⟩ := W2.out
          go_simp
          rw [← HU3.out]
          refine hK.out _ _ S3.out (fun hHeld => ?_)
          clear hK K z0 z1 z2 z3 z4 z5 f0 f1 f2 f3 f4 f5
          (try simp only [Act.put, List.setIfInBounds_toArray, List.set_cons_zero, List.set_cons_succ])
          refine wpAnyH_done (by kernel_rfl) ?_ _
          go_wp2_with fail
          go_meet
          case rel => exact ⟨_, rfl, EE.out.1, EE.out.2⟩
    refine AllReadyH.cons rfl (fun K hK => ?_) AllReadyH.nil
    · obtain ⟨-, -, -, -, -, a5⟩ := W0.out.1
      go_simp
      rw [← HU1.out]
      refine hK.out _ _ (SA.out _ B1.out) (fun hHeld => ?_)
      clear hK K a5
      (try simp only [Act.put, List.setIfInBounds_toArray, List.set_cons_zero, List.set_cons_succ])
      refine wpAnyH_ready (rs := [1, 5]) (by decide +kernel) (by simp) ?_
      refine AllReadyH.cons rfl (fun K hK => ?_) ?_
      · obtain ⟨-, -, -, -, -, a5⟩ := W1.out.1
        go_simp
        refine hK.out _ _ (SA.out _ B1.out) (fun hHeld => ?_)
        clear hK K a5
        (try simp only [Act.put, List.setIfInBounds_toArray, List.set_cons_zero, List.set_cons_succ])
        refine' wpAnyH_take (i := 2) (v := (.pointer (some ⟨b, o, none⟩))) rfl (by decide +kernel) (by decide +kernel) (by decide +kernel) (fun _ _ _ h => h) (Or.inl ⟨by rfl, ?_⟩) (by assumption) ?_
        · (intro w5 hSw; (try dsimp only at hSw); go_simp; try with_reducible rfl)
        (try simp only [Act.put, List.setIfInBounds_toArray])
        refine' wpAnyH_take (i := 3) (v := (.agg #[.int .i64 a3.kind, .string a3.name, .string a3.num, .int .u64 a3.bits, .int .i64 a3.var, .slice p3 a3.args.length c3])) rfl (by decide +kernel) (by decide +kernel) (by decide +kernel) (fun _ _ _ h => h) (Or.inl ⟨by rfl, ?_⟩) (by assumption) ?_
        · (intro w5 hSw; (try dsimp only at hSw); go_simp; try with_reducible rfl)
        (try simp only [Act.put])
        refine wpAnyH_ready (rs := [5]) (by decide +kernel) (by simp) ?_
        refine AllReadyH.cons rfl (fun K hK => ?_) AllReadyH.nil
        · obtain ⟨-, -, -, -, -, a5⟩ := W1.out.1
          go_simp
          refine hK.out _ _ (SA.out _ B1.out) (fun hHeld => ?_)
          clear hK K a5
          (try simp only [Act.put, List.setIfInBounds_toArray, List.set_cons_zero, List.set_cons_succ])
          refine' wpAnyH_take (i := 6) (v := (.pointer (some ⟨b, o + 6, none⟩))) rfl (by decide +kernel) (by decide +kernel) (by decide +kernel) (fun _ _ _ h => h) (Or.inl ⟨by rfl, ?_⟩) (by assumption) ?_
          · (intro w5 hSw; (try dsimp only at hSw); go_simp; try with_reducible rfl)
          (try simp only [Act.put, List.setIfInBounds_toArray])
          refine' wpAnyH_take (i := 7) (v := (.agg #[.int .i64 a4.kind, .string a4.name, .string a4.num, .int .u64 a4.bits, .int .i64 a4.var, .slice p4 a4.args.length c4])) rfl (by decide +kernel) (by decide +kernel) (by decide +kernel) (fun _ _ _ h => h) (Or.inl ⟨by rfl, ?_⟩) (by assumption) ?_
          · (intro w5 hSw; (try dsimp only at hSw); go_simp; try with_reducible rfl)
          (try simp only [Act.put])
          refine wpAnyH_ready (rs := [9]) (by decide +kernel) (by simp) ?_
          refine AllReadyH.cons rfl (fun K hK => ?_) AllReadyH.nil
          obtain ⟨⟨z0, z1, z2, z3, z4, z5⟩, ⟨f0, f1, f2, f3, f4, f5⟩⟩ := W1.out
          go_simp
          rw [← HU2.out]
          refine hK.out _ _ S2.out (fun hHeld => ?_)
          clear hK K z0 z1 z2 z3 z4 z5 f0 f1 f2 f3 f4 f5
          (try simp only [Act.put, List.setIfInBounds_toArray, List.set_cons_zero, List.set_cons_succ])
          refine wpAnyH_ready (rs := [10]) (by decide +kernel) (by simp) ?_
          refine AllReadyH.cons rfl (fun K hK => ?_) AllReadyH.nil
          obtain ⟨⟨z0, z1, z2, z3, z4, z5⟩, ⟨f0, f1, f2, f3, f4, f5⟩⟩ := W2.out
          go_simp
          rw [← HU3.out]
          refine hK.out _ _ S3.out (fun hHeld => ?_)
          clear hK K z0 z1 z2 z3 z4 z5 f0 f1 f2 f3 f4 f5
          (try simp only [Act.put, List.setIfInBounds_toArray, List.set_cons_zero, List.set_cons_succ])
          refine wpAnyH_done (by kernel_rfl) ?_ _
          go_wp2_with fail
          go_meet
          case rel => exact ⟨_, rfl, EE.out.1, EE.out.2⟩
      refine AllReadyH.cons rfl (fun K hK => ?_) AllReadyH.nil
      · obtain ⟨-, -, -, -, -, a5⟩ := W1.out.1
        go_simp
        refine hK.out _ _ (SA.out _ B1.out) (fun hHeld => ?_)
        clear hK K a5
        (try simp only [Act.put, List.setIfInBounds_toArray, List.set_cons_zero, List.set_cons_succ])
        refine' wpAnyH_take (i := 6) (v := (.pointer (some ⟨b, o + 6, none⟩))) rfl (by decide +kernel) (by decide +kernel) (by decide +kernel) (fun _ _ _ h => h) (Or.inl ⟨by rfl, ?_⟩) (by assumption) ?_
        · (intro w5 hSw; (try dsimp only at hSw); go_simp; try with_reducible rfl)
        (try simp only [Act.put, List.setIfInBounds_toArray])
        refine' wpAnyH_take (i := 7) (v := (.agg #[.int .i64 a4.kind, .string a4.name, .string a4.num, .int .u64 a4.bits, .int .i64 a4.var, .slice p4 a4.args.length c4])) rfl (by decide +kernel) (by decide +kernel) (by decide +kernel) (fun _ _ _ h => h) (Or.inl ⟨by rfl, ?_⟩) (by assumption) ?_
        · (intro w5 hSw; (try dsimp only at hSw); go_simp; try with_reducible rfl)
        (try simp only [Act.put])
        refine wpAnyH_ready (rs := [1]) (by decide +kernel) (by simp) ?_
        refine AllReadyH.cons rfl (fun K hK => ?_) AllReadyH.nil
        · obtain ⟨-, -, -, -, -, a5⟩ := W1.out.1
          go_simp
          refine hK.out _ _ (SA.out _ B1.out) (fun hHeld => ?_)
          clear hK K a5
          (try simp only [Act.put, List.setIfInBounds_toArray, List.set_cons_zero, List.set_cons_succ])
          refine' wpAnyH_take (i := 2) (v := (.pointer (some ⟨b, o, none⟩))) rfl (by decide +kernel) (by decide +kernel) (by decide +kernel) (fun _ _ _ h => h) (Or.inl ⟨by rfl, ?_⟩) (by assumption) ?_
          · (intro w5 hSw; (try dsimp only at hSw); go_simp; try with_reducible rfl)
          (try simp only [Act.put, List.setIfInBounds_toArray])
          refine' wpAnyH_take (i := 3) (v := (.agg #[.int .i64 a3.kind, .string a3.name, .string a3.num, .int .u64 a3.bits, .int .i64 a3.var, .slice p3 a3.args.length c3])) rfl (by decide +kernel) (by decide +kernel) (by decide +kernel) (fun _ _ _ h => h) (Or.inl ⟨by rfl, ?_⟩) (by assumption) ?_
          · (intro w5 hSw; (try dsimp only at hSw); go_simp; try with_reducible rfl)
          (try simp only [Act.put])
          refine wpAnyH_ready (rs := [9]) (by decide +kernel) (by simp) ?_
          refine AllReadyH.cons rfl (fun K hK => ?_) AllReadyH.nil
          obtain ⟨⟨z0, z1, z2, z3, z4, z5⟩, ⟨f0, f1, f2, f3, f4, f5⟩⟩ := W1.out
          go_simp
          rw [← HU2.out]
          refine hK.out _ _ S2.out (fun hHeld => ?_)
          clear hK K z0 z1 z2 z3 z4 z5 f0 f1 f2 f3 f4 f5
          (try simp only [Act.put, List.setIfInBounds_toArray, List.set_cons_zero, List.set_cons_succ])
          refine wpAnyH_ready (rs := [10]) (by decide +kernel) (by simp) ?_
          refine AllReadyH.cons rfl (fun K hK => ?_) AllReadyH.nil
          obtain ⟨⟨z0, z1, z2, z3, z4, z5⟩, ⟨f0, f1, f2, f3, f4, f5⟩⟩ := W2.out
          go_simp
          rw [← HU3.out]
          refine hK.out _ _ S3.out (fun hHeld => ?_)
          clear hK K z0 z1 z2 z3 z4 z5 f0 f1 f2 f3 f4 f5
          (try simp only [Act.put, List.setIfInBounds_toArray, List.set_cons_zero, List.set_cons_succ])
          refine wpAnyH_done (by kernel_rfl) ?_ _
          go_wp2_with fail
          go_meet
          case rel => exact ⟨_, rfl, EE.out.1, EE.out.2⟩
  case rest =>
    obtain ⟨k9, rfl, hst, hmo⟩ := hcut
    rename_i K hK
    refine hK _ _ ?_
    exact CH.out _ _ _ _ _ _ _ _ _ _ _ _ _ _ _ _ _ _ _ _ _ _ _ _ _ _ _ _ _ _ _ _ _ _ _ _ _ _ _ _ _ _ _ _ _ _ _ _ _ _ _ _ _ _ _ _ _ _ _ _ _ _ _ _ _ _ _ _ _ _ _ _ hst hmo
end Go.Proofs.YtiaddfedaikaiaaGreatDoor
