/- awake answers true, where the tables of unicode/utf8 lie as its text lays them. No condition but that. awake answers true, where the tables of unicode/utf8 lie as its text lays them. No condition but that. -/
import Derived.Deep.RegionHeld3
import Derived.Outline
import Derived.Test.YtkapejcbmonfkaaGreatDoorT21m
namespace Go.Proofs.YtkapejcbmonfkaaGreatDoor
open Go.RowKit

theorem rowI_keep {w w' : World} {base : Nat} {v : Value} {n : Nat} {xs : List Value} (h : w.ownsRow base 3 1 v n xs) (hb : Below w.heap.size w w') : w'.ownsRow base 3 1 v n xs :=
  h.kept (row := none) ⟨hb.os, hb.tape, hb.output, hb.size, fun k hk _ => hb.block k hk⟩ (by cases v.ownBlock <;> simp)
theorem callF2 (W : World) : Calls Tryz.prog 41 #[.string ⟨#[102]⟩, .slice (some ⟨W.heap.size, 0, none⟩) 3 3] (W.alloc (.cells #[.int .i64 1, .string ⟨#[]⟩, .string ⟨#[]⟩, .int .u64 0, .int .i64 7, .slice none 0 0, .int .i64 1, .string ⟨#[]⟩, .string ⟨#[]⟩, .int .u64 0, .int .i64 3, .slice none 0 0, .int .i64 1, .string ⟨#[]⟩, .string ⟨#[]⟩, .int .u64 0, .int .i64 7, .slice none 0 0] 25)) fun e w' => ∃ p cap, e = .returned (.agg #[.int .i64 5, .string ⟨#[102]⟩, .string ⟨#[]⟩, .int .u64 0, .int .i64 0, .slice p 3 cap]) ∧ TmAt w' xT p ∧ Below W.heap.size W w' := callF W
theorem callVars2 (W : World) (p : Option Addr) (cap : Nat) (hT : TmAt W xT p) (hU : Utf W) : Calls Tryz.prog 16 #[.slice (some ⟨W.heap.size, 0, none⟩) 1 1] (W.alloc (.cells #[.int .i64 5, .string ⟨#[102]⟩, .string ⟨#[]⟩, .int .u64 0, .int .i64 0, .slice p 3 cap] 25)) fun e w' => ∃ v, e = .returned (.tuple #[v, .int .i64 0]) ∧ w'.ownsRow 0 3 1 v 2 (ints [7, 3]) ∧ Below W.heap.size W w' := callVars W p cap hT hU

/-- The code from its region on, and its first region. -/
def seqDrop : Nat → Code → Code
  | 0, c => c
  | n + 1, .seq _ b => seqDrop n b
  | _ + 1, c => c
def seqHead : Code → Code
  | .seq a _ => a
  | c => c
noncomputable def tailA (n : Nat) : Code := seqDrop n (Tryz.f10.body.getD .skip)
noncomputable def headA (n : Nat) : Code := seqHead (tailA n)
noncomputable def QA (w : World) : Exit → Act → World → Prop := bodyPost Tryz.prog Tryz.f10 fun e w' => e = .returned (.bool true) ∧ Below w.heap.size w w'
abbrev oP : Obj := .cells #[.int .i64 2, .string ⟨#[97]⟩, .string ⟨#[]⟩, .int .u64 0, .int .i64 0, .slice none 0 0, .int .i64 2, .string ⟨#[97]⟩, .string ⟨#[]⟩, .int .u64 0, .int .i64 0, .slice none 0 0] 25
abbrev oZ : Obj := .cells #[.int .i64 0, .string ⟨#[]⟩, .string ⟨#[]⟩, .int .u64 0, .int .i64 0, .slice none 0 0] 25
theorem ob_alloc {W : World} {g : Nat} {o x : Obj} (h : W.heap[g]? = some o) : (W.alloc x).heap[g]? = some o := obj_keep h ((Below.refl _ _).alloc (Nat.le_refl _) _)
theorem ob_drew {W : World} {g : Nat} {o : Obj} (h : W.heap[g]? = some o) : W.drew.heap[g]? = some o := obj_keep h (Below.refl _ _).drew
theorem ob_new {W : World} {g : Nat} {o : Obj} (h : g = W.heap.size) : (W.alloc o).heap[g]? = some o := by rw [h]; exact World.alloc_heap_new W o
theorem bl_drew {a W : World} (h : Below a.heap.size a W) : Below a.heap.size a W.drew := h.drew
theorem bl_alloc {a W : World} {x : Obj} (h : Below a.heap.size a W) : Below a.heap.size a (W.alloc x) := h.alloc h.size _
theorem bl_call {a W W' : World} (h : Below a.heap.size a W) (hb : Below W.heap.size W W') : Below a.heap.size a W' := h.trans (hb.mono h.size)
theorem after_set {W : World} {g B : Nat} {t : Tm} {p : Option Addr} (h : TmAt (above W B) t p) (hg : g < B) (d0 d1 d2 d3 d4 d5 : Value) :
    TmAt ((((((W.setCell ⟨g, 0, none⟩ d0).setCell ⟨g, 1, none⟩ d1).setCell ⟨g, 2, none⟩ d2).setCell ⟨g, 3, none⟩ d3).setCell ⟨g, 4, none⟩ d4).setCell ⟨g, 5, none⟩ d5) t p :=
  (above_keep h fun _ _ _ hb hc => (set6_grown W g d0 d1 d2 d3 d4 d5).cell hc (by simp; omega)).2
set_option maxRecDepth 100000 in
set_option maxHeartbeats 8000000 in
theorem awake5 {w W : World} {g1 g2 gl : Nat} {vv : Value} {pl : Option Addr} {ql : Nat} {u7 u8 u9 u10 u11 u12 u13 u14 u15 u16 u17 u18 u19 u20 u21 u22 u23 u24 u25 u26 u27 u28 u29 u30 u31 u32 u33 u34 u35 u36 u37 u38 u39 u40 u41 u42 u43 u44 u45 u46 u47 u48 u49 u50 u51 u52 u53 u54 u55 u56 u57 u58 u59 u60 u61 u62 u63 u64 u65 : Value} (hU : Utf W) (hB : Below w.heap.size w W) (hL : W.heap[gl]? = some (.cells #[.int .i64 5, .string ⟨#[46]⟩, .string ⟨#[]⟩, .int .u64 0, .int .i64 0, .slice pl 2 ql] 25 (0, 0))) (hT : TmAt W lT pl) (hV : W.ownsRow 0 3 1 vv 2 (ints [7, 3])) :
    Code.wp Tryz.prog (tailA 5) (QA w) ⟨#[.bool false, .pointer (some ⟨g1, 0, none⟩), .pointer (some ⟨g2, 0, none⟩), vv, .int .i64 0, .pointer (some ⟨gl, 0, none⟩), .int .i64 0, u7, u8, u9, u10, u11, u12, u13, u14, u15, u16, u17, u18, u19, u20, u21, u22, u23, u24, u25, u26, u27, u28, u29, u30, u31, u32, u33, u34, u35, u36, u37, u38, u39, u40, u41, u42, u43, u44, u45, u46, u47, u48, u49, u50, u51, u52, u53, u54, u55, u56, u57, u58, u59, u60, u61, u62, u63, u64, u65], []⟩ W := by
  have U8 := hid hU
  have OL := hid hL
  have TL := hid hT
  have V8 := hid hV
  have B8 := hid (Below.refl W.heap.size W)
  have BW := hid hB
  have CS := hid callSame
  have CC := hid (show ∀ W, Utf W → Calls Tryz.prog 11 #[.agg #[.int .i64 3, .string ⟨#[]⟩, .string ⟨#[45, 53]⟩, .int .u64 0, .int .i64 0, .slice none 0 0], .agg #[.int .i64 3, .string ⟨#[]⟩, .string ⟨#[45, 52, 48]⟩, .int .u64 0, .int .i64 0, .slice none 0 0]] W fun e w' => e = .returned (.tuple #[.int .i64 1, .int .i64 0]) ∧ Below W.heap.size W w' from callCompare)
  have CK := hid (show ∀ W, Utf W → Calls Tryz.prog 45 #[.agg #[.int .i64 3, .string ⟨#[]⟩, .string ⟨#[48, 48, 55]⟩, .int .u64 0, .int .i64 0, .slice none 0 0]] W fun e w' => e = .returned (.int .i64 22) ∧ Below W.heap.size W w' from callCheck)
  clear hU hB hL hT hV
  conv => arg 2; whnf
  unfold QA
  go_wp2_with (first
      | (go_at_call 43; have tok := B8; (with_reducible refine (callN _ _).mono ?_); rintro e w10 ⟨rfl, hb10⟩; have B10 := hid (B8.out.trans (hb10.mono B8.out.size)); have OL10 := hid (obj_keep OL.out hb10); have TL10 := hid (TL.out.keep hb10); have V10 := hid (rowI_keep V8.out hb10); clear hb10 tok B8 OL TL V8)
      | (go_at_call 43; have tok := B10; (with_reducible refine (callN _ _).mono ?_); rintro e w11 ⟨rfl, hb11⟩; have B11 := hid (B10.out.trans (hb11.mono B10.out.size)); have OL11 := hid (obj_keep OL10.out hb11); have TL11 := hid (TL10.out.keep hb11); have V11 := hid (rowI_keep V10.out hb11); clear hb11 tok B10 OL10 TL10 V10)
      | (go_at_call 11; (with_reducible refine (CC.out _ (U8.out.keep B11.out)).mono ?_); rintro e w12 ⟨rfl, hb12⟩; have B12 := hid (B11.out.trans (hb12.mono B11.out.size)); have OL12 := hid (obj_keep OL11.out hb12); have TL12 := hid (TL11.out.keep hb12); have V12 := hid (rowI_keep V11.out hb12); clear hb12 B11 OL11 TL11 V11)
      | (go_at_call 17; (with_reducible refine (CS.out vv w12 V12.out).mono ?_); rintro e w13 ⟨rfl, hb13⟩; have B13 := hid (B12.out.trans (hb13.mono B12.out.size)); have OL13 := hid (obj_keep OL12.out hb13); have TL13 := hid (TL12.out.keep hb13); obtain ⟨⟨l0, l1, l2, l3, l4, l5⟩, _⟩ := six_free OL13.out; clear hb13 B12 OL12 TL12 V12)
      | (go_at_call 44; (with_reducible refine (callNodes pl ql _ TL13.out).mono ?_); rintro e w14 ⟨rfl, hb14⟩; have B14 := hid (B13.out.trans (hb14.mono B13.out.size)); clear hb14 B13)
      | (go_at_call 43; have tok := B14; (with_reducible refine (callN _ _).mono ?_); rintro e w15 ⟨rfl, hb15⟩; have B15 := hid (B14.out.trans (hb15.mono B14.out.size)); clear hb15 tok B14)
      | (go_at_call 45; (with_reducible refine (CK.out _ (U8.out.keep B15.out)).mono ?_); rintro e w16 ⟨rfl, hb16⟩; have B16 := hid (B15.out.trans (hb16.mono B15.out.size)); clear hb16 B15))
  go_ret
  exact ⟨rfl, BW.out.trans (B16.out.mono BW.out.size)⟩
set_option maxRecDepth 100000 in
theorem awakeS {w W6 w8 : World} {g1 g2 gl B : Nat} {vv : Value} {pl : Option Addr} {ql : Nat} {u7 u8 u9 u10 u11 u12 u13 u14 u15 u16 u17 u18 u19 u20 u21 u22 u23 u24 u25 u26 u27 u28 u29 u30 u31 u32 u33 u34 u35 u36 u37 u38 u39 u40 u41 u42 u43 u44 u45 u46 u47 u48 u49 u50 u51 u52 u53 u54 u55 u56 u57 u58 u59 u60 u61 u62 u63 u64 u65 : Value} (hU : Utf W6) (hB : Below w.heap.size w W6) (hV : W6.ownsRow 0 3 1 vv 2 (ints [7, 3])) (h8 : Below W6.heap.size W6 w8) (hL : w8.heap[gl]? = some (.cells #[.int .i64 0, .string ⟨#[]⟩, .string ⟨#[]⟩, .int .u64 0, .int .i64 0, .slice none 0 0] 25 (0, 0))) (hz : W6.heap.size ≤ gl) (hlt : gl < B) (hT : TmAt (above w8 B) lT pl) :
    Code.wp Tryz.prog (tailA 5) (QA w) ⟨#[.bool false, .pointer (some ⟨g1, 0, none⟩), .pointer (some ⟨g2, 0, none⟩), vv, .int .i64 0, .pointer (some ⟨gl, 0, none⟩), .int .i64 0, u7, u8, u9, u10, u11, u12, u13, u14, u15, u16, u17, u18, u19, u20, u21, u22, u23, u24, u25, u26, u27, u28, u29, u30, u31, u32, u33, u34, u35, u36, u37, u38, u39, u40, u41, u42, u43, u44, u45, u46, u47, u48, u49, u50, u51, u52, u53, u54, u55, u56, u57, u58, u59, u60, u61, u62, u63, u64, u65], []⟩ ((((((w8.setCell ⟨gl, 0, none⟩ (.int .i64 5)).setCell ⟨gl, 1, none⟩ (.string ⟨#[46]⟩)).setCell ⟨gl, 2, none⟩ (.string ⟨#[]⟩)).setCell ⟨gl, 3, none⟩ (.int .u64 0)).setCell ⟨gl, 4, none⟩ (.int .i64 0)).setCell ⟨gl, 5, none⟩ (.slice pl 2 ql)) :=
  have hb := set6_below h8 hz (.int .i64 5) (.string ⟨#[46]⟩) (.string ⟨#[]⟩) (.int .u64 0) (.int .i64 0) (.slice pl 2 ql)
  awake5 (hU.keep hb) (hB.trans (hb.mono hB.size)) (set6 hL _ _ _ _ _ _) (after_set hT hlt _ _ _ _ _ _) (rowI_keep hV hb)
theorem awakeN {w W6 w8 : World} {g1 g2 B : Nat} {vv : Value} {pl : Option Addr} {ql : Nat} {u7 u8 u9 u10 u11 u12 u13 u14 u15 u16 u17 u18 u19 u20 u21 u22 u23 u24 u25 u26 u27 u28 u29 u30 u31 u32 u33 u34 u35 u36 u37 u38 u39 u40 u41 u42 u43 u44 u45 u46 u47 u48 u49 u50 u51 u52 u53 u54 u55 u56 u57 u58 u59 u60 u61 u62 u63 u64 u65 : Value} (hU : Utf W6) (hB : Below w.heap.size w W6) (hV : W6.ownsRow 0 3 1 vv 2 (ints [7, 3])) (h8 : Below W6.heap.size W6 w8) (hT : TmAt (above w8 B) lT pl) :
    Code.wp Tryz.prog (tailA 5) (QA w) ⟨#[.bool false, .pointer (some ⟨g1, 0, none⟩), .pointer (some ⟨g2, 0, none⟩), vv, .int .i64 0, .pointer (some ⟨w8.heap.size, 0, none⟩), .int .i64 0, u7, u8, u9, u10, u11, u12, u13, u14, u15, u16, u17, u18, u19, u20, u21, u22, u23, u24, u25, u26, u27, u28, u29, u30, u31, u32, u33, u34, u35, u36, u37, u38, u39, u40, u41, u42, u43, u44, u45, u46, u47, u48, u49, u50, u51, u52, u53, u54, u55, u56, u57, u58, u59, u60, u61, u62, u63, u64, u65], []⟩ (w8.alloc (.cells #[.int .i64 5, .string ⟨#[46]⟩, .string ⟨#[]⟩, .int .u64 0, .int .i64 0, .slice pl 2 ql] 25)) :=
  awake5 (hU.keep (bl_alloc h8)) (hB.trans ((bl_alloc h8).mono hB.size)) (World.alloc_heap_new w8 _) ((above_at hT).keep ((Below.refl _ _).alloc (Nat.le_refl _) _)) (rowI_keep hV (bl_alloc h8))
set_option maxRecDepth 100000 in
set_option maxHeartbeats 8000000 in
theorem awake4 {w W6 : World} {g1 g2 : Nat} {vv : Value} {u5 u6 u7 u8 u9 u10 u11 u12 u13 u14 u15 u16 u17 u18 u19 u20 u21 u22 u23 u24 u25 u26 u27 u28 u29 u30 u31 u32 u33 u34 u35 u36 u37 u38 u39 u40 u41 u42 u43 u44 u45 u46 u47 u48 u49 u50 u51 u52 u53 u54 u55 u56 u57 u58 u59 u60 u61 u62 u63 u64 u65 : Value} (hU : Utf W6) (hB : Below w.heap.size w W6) (hA : W6.heap[g1]? = some (.cells #[.int .i64 2, .string ⟨#[97]⟩, .string ⟨#[]⟩, .int .u64 0, .int .i64 0, .slice none 0 0] 25 (0, 0))) (hV : W6.ownsRow 0 3 1 vv 2 (ints [7, 3])) :
    Code.wp Tryz.prog (tailA 4) (QA w) ⟨#[.bool false, .pointer (some ⟨g1, 0, none⟩), .pointer (some ⟨g2, 0, none⟩), vv, .int .i64 0, u5, u6, u7, u8, u9, u10, u11, u12, u13, u14, u15, u16, u17, u18, u19, u20, u21, u22, u23, u24, u25, u26, u27, u28, u29, u30, u31, u32, u33, u34, u35, u36, u37, u38, u39, u40, u41, u42, u43, u44, u45, u46, u47, u48, u49, u50, u51, u52, u53, u54, u55, u56, u57, u58, u59, u60, u61, u62, u63, u64, u65], []⟩ W6 := by
  have U6 := hid hU
  have BW := hid hB
  have A6 := hid hA
  have V6 := hid hV
  have R := hid (Below.refl W6.heap.size W6)
  have hg1 : g1 < W6.heap.size := lt_of_block hA
  have SX := hid (show ∀ W : World, Below W6.heap.size W6 W → (W.cell? ⟨g1, 0, none⟩ = some (.int .i64 2) ∧ W.cell? ⟨g1, 1, none⟩ = some (.string ⟨#[97]⟩) ∧ W.cell? ⟨g1, 2, none⟩ = some (.string ⟨#[]⟩) ∧ W.cell? ⟨g1, 3, none⟩ = some (.int .u64 0) ∧ W.cell? ⟨g1, 4, none⟩ = some (.int .i64 0) ∧ W.cell? ⟨g1, 5, none⟩ = some (.slice none 0 0)) from fun W h => (six_free (obj_keep hA h)).1)
  have CL := hid (show ∀ (g : Nat) (W : World), W.heap[g]? = some (.cells #[.int .i64 2, .string ⟨#[97]⟩, .string ⟨#[]⟩, .int .u64 0, .int .i64 0, .slice none 0 0, .int .i64 2, .string ⟨#[97]⟩, .string ⟨#[]⟩, .int .u64 0, .int .i64 0, .slice none 0 0] 25 (0, 0)) → Utf W → Calls Tryz.prog 28 #[.slice (some ⟨g, 0, none⟩) 2 2, .agg #[.int .i64 2, .string ⟨#[91, 93]⟩, .string ⟨#[]⟩, .int .u64 0, .int .i64 0, .slice none 0 0]] W fun e w' => ∃ p q, e = .returned (.tuple #[.agg #[.int .i64 5, .string ⟨#[46]⟩, .string ⟨#[]⟩, .int .u64 0, .int .i64 0, .slice p 2 q], .int .i64 0]) ∧ TmAt (above w' W.heap.size) lT p ∧ Below W.heap.size W w' from callList)
  have SY := hid (show ∀ (W : World) (g : Nat) (d0 d1 d2 d3 d4 d5 : Value), g ≠ g1 → (W.cell? ⟨g1, 0, none⟩ = some (.int .i64 2) ∧ W.cell? ⟨g1, 1, none⟩ = some (.string ⟨#[97]⟩) ∧ W.cell? ⟨g1, 2, none⟩ = some (.string ⟨#[]⟩) ∧ W.cell? ⟨g1, 3, none⟩ = some (.int .u64 0) ∧ W.cell? ⟨g1, 4, none⟩ = some (.int .i64 0) ∧ W.cell? ⟨g1, 5, none⟩ = some (.slice none 0 0)) →
      ((((((((W.setCell ⟨g, 0, none⟩ d0).setCell ⟨g, 1, none⟩ d1).setCell ⟨g, 2, none⟩ d2).setCell ⟨g, 3, none⟩ d3).setCell ⟨g, 4, none⟩ d4).setCell ⟨g, 5, none⟩ d5)).cell? ⟨g1, 0, none⟩ = some (.int .i64 2) ∧ ((((((W.setCell ⟨g, 0, none⟩ d0).setCell ⟨g, 1, none⟩ d1).setCell ⟨g, 2, none⟩ d2).setCell ⟨g, 3, none⟩ d3).setCell ⟨g, 4, none⟩ d4).setCell ⟨g, 5, none⟩ d5).cell? ⟨g1, 1, none⟩ = some (.string ⟨#[97]⟩) ∧ ((((((W.setCell ⟨g, 0, none⟩ d0).setCell ⟨g, 1, none⟩ d1).setCell ⟨g, 2, none⟩ d2).setCell ⟨g, 3, none⟩ d3).setCell ⟨g, 4, none⟩ d4).setCell ⟨g, 5, none⟩ d5).cell? ⟨g1, 2, none⟩ = some (.string ⟨#[]⟩) ∧ ((((((W.setCell ⟨g, 0, none⟩ d0).setCell ⟨g, 1, none⟩ d1).setCell ⟨g, 2, none⟩ d2).setCell ⟨g, 3, none⟩ d3).setCell ⟨g, 4, none⟩ d4).setCell ⟨g, 5, none⟩ d5).cell? ⟨g1, 3, none⟩ = some (.int .u64 0) ∧ ((((((W.setCell ⟨g, 0, none⟩ d0).setCell ⟨g, 1, none⟩ d1).setCell ⟨g, 2, none⟩ d2).setCell ⟨g, 3, none⟩ d3).setCell ⟨g, 4, none⟩ d4).setCell ⟨g, 5, none⟩ d5).cell? ⟨g1, 4, none⟩ = some (.int .i64 0) ∧ ((((((W.setCell ⟨g, 0, none⟩ d0).setCell ⟨g, 1, none⟩ d1).setCell ⟨g, 2, none⟩ d2).setCell ⟨g, 3, none⟩ d3).setCell ⟨g, 4, none⟩ d4).setCell ⟨g, 5, none⟩ d5).cell? ⟨g1, 5, none⟩ = some (.slice none 0 0)) from fun W g d0 d1 d2 d3 d4 d5 hne h => by
    have hk := fun (o : Nat) (v : Value) (hc : W.cell? ⟨g1, o, none⟩ = some v) => (set6_grown W g d0 d1 d2 d3 d4 d5).cell hc (by simpa using (Ne.symm hne))
    exact ⟨hk _ _ h.1, hk _ _ h.2.1, hk _ _ h.2.2.1, hk _ _ h.2.2.2.1, hk _ _ h.2.2.2.2.1, hk _ _ h.2.2.2.2.2⟩)
  have s6 := SX.out W6 R.out
  clear hU hB hA hV
  show Code.wp Tryz.prog (Code.seq (headA 4) (tailA 5)) _ _ _
  conv => arg 2; arg 1; whnf
  go_wp2_with fail
  go_region_held3 (fun w' => w'.cell? ⟨g1, 0, none⟩ = some (.int .i64 2) ∧ w'.cell? ⟨g1, 1, none⟩ = some (.string ⟨#[97]⟩) ∧ w'.cell? ⟨g1, 2, none⟩ = some (.string ⟨#[]⟩) ∧ w'.cell? ⟨g1, 3, none⟩ = some (.int .u64 0) ∧ w'.cell? ⟨g1, 4, none⟩ = some (.int .i64 0) ∧ w'.cell? ⟨g1, 5, none⟩ = some (.slice none 0 0))
    (first
      | (with_reducible exact s6)
      | (with_reducible exact SX.out _ (bl_drew R.out))
      | (with_reducible exact SX.out _ (bl_drew (bl_alloc R.out)))
      | (with_reducible exact SX.out _ (bl_drew (bl_alloc (bl_alloc R.out))))
      | (with_reducible exact SX.out _ C7.out)
      | (with_reducible exact SX.out _ (bl_alloc C7.out))
      | (with_reducible exact SX.out _ (bl_alloc (bl_alloc C7.out)))
      | (with_reducible exact SX.out _ C8.out)
      | (with_reducible exact SX.out _ (bl_alloc C8.out))
      | (refine SY.out _ _ _ _ _ _ _ _ ?_ (SX.out _ C8.out); omega)
      | fail)
    ((first
      | (go_at_call 40; have tok := R; (with_reducible refine (callA _ _).mono ?_); rintro e w7 ⟨rfl, hb7⟩
         have b7 : Below W6.heap.size W6 w7 := (by first | (with_reducible exact bl_call (bl_drew R.out) hb7) | (with_reducible exact bl_call (bl_drew (bl_alloc R.out)) hb7) | (with_reducible exact bl_call (bl_drew (bl_alloc (bl_alloc R.out))) hb7))
         have hs7 := b7.size
         have C7 := hid b7
         have H7 := hid hb7
         clear b7 hb7)
      | (go_at_call 28; (with_reducible refine (CL.out _ _ ?_ ?_).mono ?_)
         · repeat (first | (with_reducible refine ob_new ?_; first | (with_reducible rfl) | (simp; done)) | (with_reducible refine ob_alloc ?_) | (with_reducible refine ob_drew ?_) | (with_reducible refine obj_keep ?_ H7.out))
         · exact U6.out.keep (by first | (with_reducible exact C7.out) | (with_reducible exact bl_alloc C7.out) | (with_reducible exact bl_alloc (bl_alloc C7.out)))
         rintro e w8 ⟨pl, ql, rfl, hTl, hb8⟩
         have b8 : Below W6.heap.size W6 w8 := bl_call (by first | (with_reducible exact C7.out) | (with_reducible exact bl_alloc C7.out) | (with_reducible exact bl_alloc (bl_alloc C7.out))) hb8
         have TL := hid hTl
         (first
           | ((with_reducible have ZC := hid (show (w7.alloc oZ).heap[w7.heap.size]? = some (.cells #[.int .i64 0, .string ⟨#[]⟩, .string ⟨#[]⟩, .int .u64 0, .int .i64 0, .slice none 0 0] 25 (0, 0)) from ob_new rfl)); (with_reducible have ZL := hid (obj_keep ZC.out hb8)); have HLT := hid (lt_of_block ZC.out); obtain ⟨⟨z0, z1, z2, z3, z4, z5⟩, ⟨f0, f1, f2, f3, f4, f5⟩⟩ := six_free ZL.out; clear ZC)
           | ((with_reducible have ZC := hid (show ((w7.alloc oZ).alloc oP).heap[w7.heap.size]? = some (.cells #[.int .i64 0, .string ⟨#[]⟩, .string ⟨#[]⟩, .int .u64 0, .int .i64 0, .slice none 0 0] 25 (0, 0)) from ob_alloc (ob_new rfl))); (with_reducible have ZL := hid (obj_keep ZC.out hb8)); have HLT := hid (lt_of_block ZC.out); obtain ⟨⟨z0, z1, z2, z3, z4, z5⟩, ⟨f0, f1, f2, f3, f4, f5⟩⟩ := six_free ZL.out; clear ZC)
           | ((with_reducible have ZC := hid (show ((w7.alloc oP).alloc oZ).heap[w7.heap.size + 1]? = some (.cells #[.int .i64 0, .string ⟨#[]⟩, .string ⟨#[]⟩, .int .u64 0, .int .i64 0, .slice none 0 0] 25 (0, 0)) from ob_new (by simp))); (with_reducible have ZL := hid (obj_keep ZC.out hb8)); have HLT := hid (lt_of_block ZC.out); obtain ⟨⟨z0, z1, z2, z3, z4, z5⟩, ⟨f0, f1, f2, f3, f4, f5⟩⟩ := six_free ZL.out; clear ZC)
           | ((with_reducible have ZC := hid (obj_keep (show (W6.alloc oZ).drew.heap[W6.heap.size]? = some (.cells #[.int .i64 0, .string ⟨#[]⟩, .string ⟨#[]⟩, .int .u64 0, .int .i64 0, .slice none 0 0] 25 (0, 0)) from ob_drew (ob_new rfl)) H7.out)); (with_reducible have ZL := hid (obj_keep ZC.out hb8)); have HLT := hid (lt_of_block ZC.out); obtain ⟨⟨z0, z1, z2, z3, z4, z5⟩, ⟨f0, f1, f2, f3, f4, f5⟩⟩ := six_free ZL.out; clear ZC)
           | ((with_reducible have ZC := hid (ob_alloc (x := oP) (obj_keep (show (W6.alloc oZ).drew.heap[W6.heap.size]? = some (.cells #[.int .i64 0, .string ⟨#[]⟩, .string ⟨#[]⟩, .int .u64 0, .int .i64 0, .slice none 0 0] 25 (0, 0)) from ob_drew (ob_new rfl)) H7.out))); (with_reducible have ZL := hid (obj_keep ZC.out hb8)); have HLT := hid (lt_of_block ZC.out); obtain ⟨⟨z0, z1, z2, z3, z4, z5⟩, ⟨f0, f1, f2, f3, f4, f5⟩⟩ := six_free ZL.out; clear ZC)
           | ((with_reducible have ZC := hid (obj_keep (show ((W6.alloc oZ).alloc oP).drew.heap[W6.heap.size]? = some (.cells #[.int .i64 0, .string ⟨#[]⟩, .string ⟨#[]⟩, .int .u64 0, .int .i64 0, .slice none 0 0] 25 (0, 0)) from ob_drew (ob_alloc (ob_new rfl))) H7.out)); (with_reducible have ZL := hid (obj_keep ZC.out hb8)); have HLT := hid (lt_of_block ZC.out); obtain ⟨⟨z0, z1, z2, z3, z4, z5⟩, ⟨f0, f1, f2, f3, f4, f5⟩⟩ := six_free ZL.out; clear ZC)
           | ((with_reducible have ZC := hid (obj_keep (show ((W6.alloc oP).alloc oZ).drew.heap[W6.heap.size + 1]? = some (.cells #[.int .i64 0, .string ⟨#[]⟩, .string ⟨#[]⟩, .int .u64 0, .int .i64 0, .slice none 0 0] 25 (0, 0)) from ob_drew (ob_new (by simp))) H7.out)); (with_reducible have ZL := hid (obj_keep ZC.out hb8)); have HLT := hid (lt_of_block ZC.out); obtain ⟨⟨z0, z1, z2, z3, z4, z5⟩, ⟨f0, f1, f2, f3, f4, f5⟩⟩ := six_free ZL.out; clear ZC)
           | skip)
         have C8 := hid b8
         have H8 := hid hb8
         clear b8 hb8 hTl)))
  all_goals go_wp2
  all_goals first
    | (with_reducible exact awakeN U6.out BW.out V6.out C8.out TL.out)
    | (with_reducible exact awakeS U6.out BW.out V6.out C8.out ZL.out (by omega) HLT.out TL.out)
    | fail
end Go.Proofs.YtkapejcbmonfkaaGreatDoor

namespace Go.Proofs.YtkapejcbmonfkaaGreatDoor
open Go.RowKit

set_option maxRecDepth 100000 in
set_option maxHeartbeats 8000000 in
theorem awake_true (w : World) (hU : Utf w) : Calls Tryz.prog 10 #[] w fun e w' => e = .returned (.bool true) ∧ Below w.heap.size w w' := by
  have U0 := hid hU
  have R0 := hid (Below.refl w.heap.size w)
  have CV := hid callVars2
  have CF := hid callF2
  clear hU
  go_enter Tryz.func10, Tryz.ntmps10
  show Code.wp Tryz.prog (Code.seq (headA 0) (tailA 1)) (QA w) _ _
  conv => arg 2; arg 1; whnf
  go_wp2_with fail
  show Code.wp Tryz.prog (Code.seq (headA 1) (tailA 2)) (QA w) _ _
  conv => arg 2; arg 1; whnf
  go_wp2_with (go_at_call 40; (with_reducible refine (callA _ _).mono ?_); rintro e w1 ⟨rfl, hb1⟩; have B1 := hid (hb1.alloc hb1.size (.cells #[.int .i64 2, .string ⟨#[97]⟩, .string ⟨#[]⟩, .int .u64 0, .int .i64 0, .slice none 0 0] 25)); have OA := hid (World.alloc_heap_new w1 (.cells #[.int .i64 2, .string ⟨#[97]⟩, .string ⟨#[]⟩, .int .u64 0, .int .i64 0, .slice none 0 0] 25)); clear hb1 R0)
  show Code.wp Tryz.prog (Code.seq (headA 2) (tailA 3)) (QA w) _ _
  conv => arg 2; arg 1; whnf
  go_wp2_with (first
    | (go_at_call 42; have tok := B1; (with_reducible refine (callV 7 _).mono ?_); rintro e w2 ⟨rfl, hb2⟩; have B2 := hid (B1.out.trans (hb2.mono B1.out.size)); have OA2 := hid (obj_keep OA.out hb2); clear hb2 B1 OA tok)
    | (go_at_call 42; have tok := B2; (with_reducible refine (callV 3 _).mono ?_); rintro e w3 ⟨rfl, hb3⟩; have B3 := hid (B2.out.trans (hb3.mono B2.out.size)); have OA3 := hid (obj_keep OA2.out hb3); clear hb3 B2 OA2 tok)
    | (go_at_call 42; have tok := B3; (with_reducible refine (callV 7 _).mono ?_); rintro e w4 ⟨rfl, hb4⟩; have B4 := hid (B3.out.trans (hb4.mono B3.out.size)); have OA4 := hid (obj_keep OA3.out hb4); clear hb4 B3 OA3 tok)
    | (go_at_call 41; (with_reducible refine (CF.out w4).mono ?_); rintro e w5 ⟨px, cx, rfl, hTx, hb5⟩; have B5 := hid ((B4.out.trans (hb5.mono B4.out.size)).alloc (by have := B4.out.size; have := hb5.size; omega) (.cells #[.int .i64 5, .string ⟨#[102]⟩, .string ⟨#[]⟩, .int .u64 0, .int .i64 0, .slice px 3 cx] 25)); have OA5 := hid (obj_keep (obj_keep OA4.out hb5) ((Below.refl w5.heap.size w5).alloc (Nat.le_refl _) (.cells #[.int .i64 5, .string ⟨#[102]⟩, .string ⟨#[]⟩, .int .u64 0, .int .i64 0, .slice px 3 cx] 25))); have TX := hid (hTx.keep ((Below.refl w5.heap.size w5).alloc (Nat.le_refl _) (.cells #[.int .i64 5, .string ⟨#[102]⟩, .string ⟨#[]⟩, .int .u64 0, .int .i64 0, .slice px 3 cx] 25))); clear hb5 hTx B4 OA4))
  show Code.wp Tryz.prog (Code.seq (headA 3) (tailA 4)) (QA w) _ _
  conv => arg 2; arg 1; whnf
  go_wp2_with (go_at_call 16; have hv := CV.out _ px cx TX.out (U0.out.keep B5.out); rw [World.size_alloc] at hv; (with_reducible refine hv.mono ?_); clear hv; rintro e w6 ⟨vv, rfl, hvv, hb6⟩; rw [← World.size_alloc w5 (.cells #[.int .i64 5, .string ⟨#[102]⟩, .string ⟨#[]⟩, .int .u64 0, .int .i64 0, .slice px 3 cx] 25)] at hb6; have B6 := hid (B5.out.trans (hb6.mono B5.out.size)); have OA6 := hid (obj_keep OA5.out hb6); have VV := hid hvv; clear hb6 hvv B5 OA5 TX)
  exact awake4 (U0.out.keep B6.out) B6.out OA6.out VV.out
end Go.Proofs.YtkapejcbmonfkaaGreatDoor
