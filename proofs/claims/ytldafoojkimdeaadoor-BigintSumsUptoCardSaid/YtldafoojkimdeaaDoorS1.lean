/- The law BigintSums, item by item. No condition but those that each theorem names. -/
import Derived.Test.YtldafoojkimdeaaDoorRefc
namespace Go.Proofs.YtldafoojkimdeaaDoor
open Go.RowKit Lm

noncomputable def tail4 (n : Nat) : Code := seqDrop n (Tryd.f4.body.getD .skip)
noncomputable def head4 (n : Nat) : Code := seqHead (tail4 n)
noncomputable def Q4 (w : World) : Exit → Act → World → Prop := bodyPost Tryd.prog Tryd.f4 fun e w' => e = .returned (.bool true) ∧ Below w.heap.size w w'


set_option maxRecDepth 100000 in
set_option maxHeartbeats 8000000 in
theorem SU_16 {w wr : World}  {u0 u1 u2 u3 u4 u6 u7 u8 u9 u10 u11 u12 u13 u14 u15 u16 u22 u23 u24 u25 u26 u27 u28 u29 u30 u31 u32 u33 u34 u35 u36 u37 u38 u39 u40 u41 u42 u43 u44 u45 u46 u47 u48 u49 u50 u51 u52 u53 u54 u55 u56 u57 u58 u59 u60 u61 u62 u63 u64 u65 u66 u67 u68 u69 u70 u71 u72 u73 u74 u75 u76 u77 u78 u79 u80 u81 u82 u83 u84 u85 u86 u87 u88 u89 u90 u91 u92 u93 u94 u95 u96 u97 u98 u99 u100 u101 u102 : Value}
    (hb : Below w.heap.size w wr) :
    Code.wp Tryd.prog (tail4 16) (Q4 w) ⟨#[u0, u1, u2, u3, u4, .bool true, u6, u7, u8, u9, u10, u11, u12, u13, u14, u15, u16, .bool true, .bool true, .bool true, .bool true, .bool true, u22, u23, u24, u25, u26, u27, u28, u29, u30, u31, u32, u33, u34, u35, u36, u37, u38, u39, u40, u41, u42, u43, u44, u45, u46, u47, u48, u49, u50, u51, u52, u53, u54, u55, u56, u57, u58, u59, u60, u61, u62, u63, u64, u65, u66, u67, u68, u69, u70, u71, u72, u73, u74, u75, u76, u77, u78, u79, u80, u81, u82, u83, u84, u85, u86, u87, u88, u89, u90, u91, u92, u93, u94, u95, u96, u97, u98, u99, u100, u101, u102], []⟩ wr := by
  conv => arg 2; whnf
  unfold Q4
  go_wp2
  go_ret
  exact ⟨rfl, hb⟩

set_option maxRecDepth 100000 in
set_option maxHeartbeats 8000000 in
theorem SU_15 {w wr : World} {nb : Bool} {ab : Option Addr} {B : List Nat} {lb : Nat} {cb : Nat} {g3 : Nat} {g10 : Nat} {gu : Nat} {cu : Nat} {u0 u1 u2 u4 u6 u7 u8 u9 u11 u12 u13 u14 u15 u16 u21 u22 u23 u24 u25 u26 u27 u28 u29 u30 u31 u32 u33 u34 u35 u36 u37 u38 u39 u40 u41 u42 u43 u44 u45 u46 u47 u48 u49 u50 u51 u52 u53 u54 u55 u56 u57 u58 u59 u60 u61 u62 u63 u64 u65 u66 u67 u68 u69 u70 u71 u72 u73 u74 u75 u76 u77 u78 u79 u80 u81 u82 u83 u84 u85 u86 u87 u88 u89 u90 u91 u92 u93 u94 u95 u96 u97 u98 u99 u100 u101 u102 : Value}
    (rB : Rd w ab lb cb B)
    (sB : lb ≤ 1048576)
    (hb : Below w.heap.size w wr)
    (pb : Pr wr g3 24 (.bool nb) (.slice ab lb cb))
    (pu : Pr wr g10 24 (.bool nb) (.slice (some ⟨gu, 0, none⟩) lb cu))
    (lu : Lent w.heap.size wr gu lb cu B) :
    Code.wp Tryd.prog (tail4 15) (Q4 w) ⟨#[u0, u1, u2, .pointer (some ⟨g3, 0, none⟩), u4, .bool true, u6, u7, u8, u9, .pointer (some ⟨g10, 0, none⟩), u11, u12, u13, u14, u15, u16, .bool true, .bool true, .bool true, .bool true, u21, u22, u23, u24, u25, u26, u27, u28, u29, u30, u31, u32, u33, u34, u35, u36, u37, u38, u39, u40, u41, u42, u43, u44, u45, u46, u47, u48, u49, u50, u51, u52, u53, u54, u55, u56, u57, u58, u59, u60, u61, u62, u63, u64, u65, u66, u67, u68, u69, u70, u71, u72, u73, u74, u75, u76, u77, u78, u79, u80, u81, u82, u83, u84, u85, u86, u87, u88, u89, u90, u91, u92, u93, u94, u95, u96, u97, u98, u99, u100, u101, u102], []⟩ wr := by
  obtain ⟨kpu0, kpu1, _, _⟩ := two_cells pu
  obtain ⟨kpb0, kpb1, _, _⟩ := two_cells pb
  show Code.wp Tryd.prog (Code.seq (head4 15) (tail4 16)) _ _ _
  conv => arg 2; arg 1; whnf
  go_wp2_with fail
  refine (heldR nb gu cu ab lb cb B w wr rB hb lu (by omega)).mono ?_
  rintro e_ w2 ⟨rfl, hb2, hst⟩
  go_wp2
  exact SU_16 (hb2)

set_option maxRecDepth 100000 in
set_option maxHeartbeats 8000000 in
theorem SU_14 {w wk wr : World} {na : Bool} {nb : Bool} {nx : Bool} {ny : Bool} {aa : Option Addr} {ab : Option Addr} {xo : Option Addr} {yo : Option Addr} {A : List Nat} {B : List Nat} {va : Int} {vb : Int} {e : Int} {la : Nat} {ca : Nat} {lb : Nat} {cb : Nat} {xl : Nat} {xc : Nat} {yl : Nat} {yc : Nat} {g2 : Nat} {g3 : Nat} {g6 : Nat} {g7 : Nat} {g9 : Nat} {g10 : Nat} {gt : Nat} {ct : Nat} {gu : Nat} {cu : Nat} {u0 u1 u4 u11 u12 u13 u14 u15 u16 u20 u21 u22 u23 u24 u25 u26 u27 u28 u29 u30 u31 u32 u33 u34 u35 u36 u37 u38 u39 u40 u41 u42 u43 u44 u45 u46 u47 u48 u49 u50 u51 u52 u53 u54 u55 u56 u57 u58 u59 u60 u61 u62 u63 u64 u65 u66 u67 u68 u69 u70 u71 u72 u73 u74 u75 u76 u77 u78 u79 u80 u81 u82 u83 u84 u85 u86 u87 u88 u89 u90 u91 u92 u93 u94 u95 u96 u97 u98 u99 u100 u101 u102 : Value}
    (rA : Rd w aa la ca A)
    (rB : Rd w ab lb cb B)
    (zA : Hid (aa = none → ca = 0))
    (zB : Hid (ab = none → cb = 0))
    (sA : la ≤ 1048576)
    (sB : lb ≤ 1048576)
    (hva : Hid (num na A = va))
    (hvb : Hid (num nb B = vb))
    (hxl : xl ≤ 33554432)
    (hyl : yl ≤ 33554432)
    (he : Hid (e = if 4096 < xl ∨ 4096 < yl then 10 else 0))
    (hbad : Hid (e = if tooLong A || tooLong B then 10 else 0))
    (hg : Hid (gt < gu))
    (hbk : Below w.heap.size w wk)
    (pa : Pr wk g2 24 (.bool na) (.slice aa la ca))
    (pb : Pr wk g3 24 (.bool nb) (.slice ab lb cb))
    (px : Pr wk g6 28 (.bool nx) (.slice xo xl xc))
    (bx : Big wk nx xo xl xc va)
    (py : Pr wk g7 28 (.bool ny) (.slice yo yl yc))
    (b_y : Big wk ny yo yl yc vb)
    (pt : Pr wk g9 24 (.bool na) (.slice (some ⟨gt, 0, none⟩) la ct))
    (lt_ : Lent w.heap.size wk gt la ct A)
    (pu : Pr wk g10 24 (.bool nb) (.slice (some ⟨gu, 0, none⟩) lb cu))
    (lu : Lent w.heap.size wk gu lb cu B)
    (hk : Below wk.heap.size wk wr) :
    Code.wp Tryd.prog (tail4 14) (Q4 w) ⟨#[u0, u1, .pointer (some ⟨g2, 0, none⟩), .pointer (some ⟨g3, 0, none⟩), u4, .bool true, .pointer (some ⟨g6, 0, none⟩), .pointer (some ⟨g7, 0, none⟩), .int .i64 e, .pointer (some ⟨g9, 0, none⟩), .pointer (some ⟨g10, 0, none⟩), u11, u12, u13, u14, u15, u16, .bool true, .bool true, .bool true, u20, u21, u22, u23, u24, u25, u26, u27, u28, u29, u30, u31, u32, u33, u34, u35, u36, u37, u38, u39, u40, u41, u42, u43, u44, u45, u46, u47, u48, u49, u50, u51, u52, u53, u54, u55, u56, u57, u58, u59, u60, u61, u62, u63, u64, u65, u66, u67, u68, u69, u70, u71, u72, u73, u74, u75, u76, u77, u78, u79, u80, u81, u82, u83, u84, u85, u86, u87, u88, u89, u90, u91, u92, u93, u94, u95, u96, u97, u98, u99, u100, u101, u102], []⟩ wr := by
  have pa' := pa.keep hk
  have pb' := pb.keep hk
  have pt' := pt.keep hk
  have pu' := pu.keep hk
  have lt' := lt_.keep hk
  have lu' := lu.keep hk
  obtain ⟨a0, a1, _, _⟩ := two_cells pa'
  obtain ⟨t0, t1, _, _⟩ := two_cells pt'
  have n1 := lt'.apart pb'
  have n2 := lt'.apart pu'
  have hbW := hbk.trans (hk.mono hbk.size)
  show Code.wp Tryd.prog (Code.seq (head4 14) (tail4 15)) _ _ _
  conv => arg 2; arg 1; whnf
  go_wp2_with fail
  refine (heldR na gt ct aa la ca A w _ rA hbW lt' (by omega)).mono ?_
  rintro e_ w6 ⟨rfl, hb6, hst⟩
  have pb6 := (hst _ pb'.lt n1).trans pb'
  have pu6 := (hst _ pu'.lt n2).trans pu'
  have lu6 := lu'.same (hst _ lu'.ge.2 (by have := hg.out; omega))
  go_wp2
  exact SU_15 (rB) (sB) (hb6) (pb6) (pu6) (lu6)

set_option maxRecDepth 100000 in
set_option maxHeartbeats 8000000 in
theorem SU_13 {w wk wr : World} {na : Bool} {nb : Bool} {nx : Bool} {ny : Bool} {aa : Option Addr} {ab : Option Addr} {xo : Option Addr} {yo : Option Addr} {A : List Nat} {B : List Nat} {va : Int} {vb : Int} {e : Int} {la : Nat} {ca : Nat} {lb : Nat} {cb : Nat} {xl : Nat} {xc : Nat} {yl : Nat} {yc : Nat} {g2 : Nat} {g3 : Nat} {g6 : Nat} {g7 : Nat} {g9 : Nat} {g10 : Nat} {gt : Nat} {ct : Nat} {gu : Nat} {cu : Nat} {lwp upp gp lp : Nat} {np : Bool} {op : Option Addr} {cp : Int} {u0 u1 u4 u11 u12 u13 u14 u20 u21 u22 u23 u24 u25 u26 u27 u28 u29 u30 u31 u32 u33 u34 u35 u36 u37 u38 u39 u40 u41 u42 u43 u44 u45 u46 u47 u48 u49 u50 u51 u52 u53 u54 u55 u56 u57 u58 u59 u60 u61 u62 u63 u64 u65 u66 u67 u68 u69 u70 u71 u72 u73 u74 u75 u76 u77 u78 u79 u80 u81 u82 u83 u84 u85 u86 u87 u88 u89 u90 u91 u92 u93 u94 u95 u96 u97 u98 u99 u100 u101 u102 : Value}
    (rA : Rd w aa la ca A)
    (rB : Rd w ab lb cb B)
    (zA : Hid (aa = none → ca = 0))
    (zB : Hid (ab = none → cb = 0))
    (sA : la ≤ 1048576)
    (sB : lb ≤ 1048576)
    (hva : Hid (num na A = va))
    (hvb : Hid (num nb B = vb))
    (hxl : xl ≤ 33554432)
    (hyl : yl ≤ 33554432)
    (he : Hid (e = if 4096 < xl ∨ 4096 < yl then 10 else 0))
    (hbad : Hid (e = if tooLong A || tooLong B then 10 else 0))
    (hg : Hid (gt < gu))
    (hbk : Below w.heap.size w wk)
    (pa : Pr wk g2 24 (.bool na) (.slice aa la ca))
    (pb : Pr wk g3 24 (.bool nb) (.slice ab lb cb))
    (px : Pr wk g6 28 (.bool nx) (.slice xo xl xc))
    (bx : Big wk nx xo xl xc va)
    (py : Pr wk g7 28 (.bool ny) (.slice yo yl yc))
    (b_y : Big wk ny yo yl yc vb)
    (pt : Pr wk g9 24 (.bool na) (.slice (some ⟨gt, 0, none⟩) la ct))
    (lt_ : Lent w.heap.size wk gt la ct A)
    (pu : Pr wk g10 24 (.bool nb) (.slice (some ⟨gu, 0, none⟩) lb cu))
    (lu : Lent w.heap.size wk gu lb cu B)
    (hk : Below wk.heap.size wk wr)
    (dp : An wk.heap.size lwp upp wr gp np op lp cp e (va * vb)) :
    Code.wp Tryd.prog (tail4 13) (Q4 w) ⟨#[u0, u1, .pointer (some ⟨g2, 0, none⟩), .pointer (some ⟨g3, 0, none⟩), u4, .bool true, .pointer (some ⟨g6, 0, none⟩), .pointer (some ⟨g7, 0, none⟩), .int .i64 e, .pointer (some ⟨g9, 0, none⟩), .pointer (some ⟨g10, 0, none⟩), u11, u12, u13, u14, .pointer (some ⟨gp, 0, none⟩), .int .i64 cp, .bool true, .bool true, .bool true, u20, u21, u22, u23, u24, u25, u26, u27, u28, u29, u30, u31, u32, u33, u34, u35, u36, u37, u38, u39, u40, u41, u42, u43, u44, u45, u46, u47, u48, u49, u50, u51, u52, u53, u54, u55, u56, u57, u58, u59, u60, u61, u62, u63, u64, u65, u66, u67, u68, u69, u70, u71, u72, u73, u74, u75, u76, u77, u78, u79, u80, u81, u82, u83, u84, u85, u86, u87, u88, u89, u90, u91, u92, u93, u94, u95, u96, u97, u98, u99, u100, u101, u102], []⟩ wr := by
  show Code.wp Tryd.prog (Code.seq (head4 13) (tail4 14)) _ _ _
  conv => arg 2; arg 1; whnf
  by_cases hlong : 4096 < xl ∨ 4096 < yl
  · have hE : e = 10 := by rw [he.out, if_pos hlong]
    subst hE
    clear hlong
    obtain ⟨kc0, kc1, _, _⟩ := two_cells dp.box
    go_wp2_with (go_at_call 38; (with_reducible refine (isA hk dp.ans (Big.zero _) (fun h => absurd h (by decide))).mono ?_); rintro r w5 ⟨rfl, hbW, hst, hsz⟩)
    exact SU_14 (rA) (rB) (zA) (zB) (sA) (sB) (hva) (hvb) (hxl) (hyl) (he) (hbad) (hg) (hbk) (pa) (pb) (px) (bx) (py) (b_y) (pt) (lt_) (pu) (lu) (hbW)
  · have hE : e = 0 := by rw [he.out, if_neg hlong]
    subst hE
    have hx4 : xl ≤ 4096 := by omega
    have hy4 : yl ≤ 4096 := by omega
    clear hlong
    have h_c := hid (heap_keep dp.box (Below.refl _ _).drew)
    have h_px := hid (heap_keep px hk.drew)
    have h_py := hid (heap_keep py hk.drew)
    have d_bx := (bx.keep hk).drew
    have d_b_y := (b_y.keep hk).drew
    have ep := dp.drew
    have hacc : Below wk.heap.size wk wr.drew := hk.drew
    obtain ⟨kc0, kc1, _, _⟩ := two_cells dp.box
    obtain ⟨kpx0, kpx1, _, _⟩ := two_cells (px.keep hk)
    obtain ⟨kpy0, kpy1, _, _⟩ := two_cells (py.keep hk)
    go_wp2_with fail
    go_region_held3 (fun w' => w'.cell? ⟨gp, 0, none⟩ = some (.bool np) ∧ w'.cell? ⟨gp, 1, none⟩ = some (.slice op lp lp) ∧ w'.cell? ⟨g6, 0, none⟩ = some (.bool nx) ∧ w'.cell? ⟨g6, 1, none⟩ = some (.slice xo xl xc) ∧ w'.cell? ⟨g7, 0, none⟩ = some (.bool ny) ∧ w'.cell? ⟨g7, 1, none⟩ = some (.slice yo yl yc))
      (first
        | go_keep
        | (with_reducible exact ⟨(two_cells h_c.out).1, (two_cells h_c.out).2.1, (two_cells h_px.out).1, (two_cells h_px.out).2.1, (two_cells h_py.out).1, (two_cells h_py.out).2.1⟩))
      (first
        | (go_at_call 40; (with_reducible refine (timesR _ _ _ _ va _ _ _ _ vb _ d_bx d_b_y (by omega) (by omega)).mono ?_); rintro e w5 ⟨n2, o2, l2, k2, rfl, hl2, hS, hkk⟩; have h_c := hid (heap_keep h_c.out hkk); have h_px := hid (heap_keep h_px.out hkk); have h_py := hid (heap_keep h_py.out hkk); have d_bx := d_bx.keep hkk; have d_b_y := d_b_y.keep hkk; have ep := ep.keep hkk; have hacc := hacc.trans (hkk.mono hacc.size))
        | (go_at_call 38; (with_reducible refine (isA hacc ep.ans hS (fun _ => rfl)).mono ?_); rintro r w5 ⟨rfl, hbW, hst, hsz⟩; have h_c := hid ((hst _ (lt_of_block h_c.out) ep.apart).trans h_c.out); have h_px := hid (heap_keep px hbW); have h_py := hid (heap_keep py hbW); have hacc := hbW))
    all_goals
      go_wp2
      exact SU_14 (rA) (rB) (zA) (zB) (sA) (sB) (hva) (hvb) (hxl) (hyl) (he) (hbad) (hg) (hbk) (pa) (pb) (px) (bx) (py) (b_y) (pt) (lt_) (pu) (lu) (hacc)

set_option maxRecDepth 100000 in
set_option maxHeartbeats 8000000 in
theorem SU_12 {w wk wr : World} {na : Bool} {nb : Bool} {nx : Bool} {ny : Bool} {aa : Option Addr} {ab : Option Addr} {xo : Option Addr} {yo : Option Addr} {A : List Nat} {B : List Nat} {va : Int} {vb : Int} {e : Int} {la : Nat} {ca : Nat} {lb : Nat} {cb : Nat} {xl : Nat} {xc : Nat} {yl : Nat} {yc : Nat} {g2 : Nat} {g3 : Nat} {g6 : Nat} {g7 : Nat} {g9 : Nat} {g10 : Nat} {gt : Nat} {ct : Nat} {gu : Nat} {cu : Nat} {lwp upp gp lp : Nat} {np : Bool} {op : Option Addr} {cp : Int} {u0 u1 u4 u11 u12 u13 u14 u19 u20 u21 u22 u23 u24 u25 u26 u27 u28 u29 u30 u31 u32 u33 u34 u35 u36 u37 u38 u39 u40 u41 u42 u43 u44 u45 u46 u47 u48 u49 u50 u51 u52 u53 u54 u55 u56 u57 u58 u59 u60 u61 u62 u63 u64 u65 u66 u67 u68 u69 u70 u71 u72 u73 u74 u75 u76 u77 u78 u79 u80 u81 u82 u83 u84 u85 u86 u87 u88 u89 u90 u91 u92 u93 u94 u95 u96 u97 u98 u99 u100 u101 u102 : Value}
    (rA : Rd w aa la ca A)
    (rB : Rd w ab lb cb B)
    (zA : Hid (aa = none → ca = 0))
    (zB : Hid (ab = none → cb = 0))
    (sA : la ≤ 1048576)
    (sB : lb ≤ 1048576)
    (hva : Hid (num na A = va))
    (hvb : Hid (num nb B = vb))
    (hxl : xl ≤ 33554432)
    (hyl : yl ≤ 33554432)
    (he : Hid (e = if 4096 < xl ∨ 4096 < yl then 10 else 0))
    (hbad : Hid (e = if tooLong A || tooLong B then 10 else 0))
    (hg : Hid (gt < gu))
    (hbk : Below w.heap.size w wk)
    (pa : Pr wk g2 24 (.bool na) (.slice aa la ca))
    (pb : Pr wk g3 24 (.bool nb) (.slice ab lb cb))
    (px : Pr wk g6 28 (.bool nx) (.slice xo xl xc))
    (bx : Big wk nx xo xl xc va)
    (py : Pr wk g7 28 (.bool ny) (.slice yo yl yc))
    (b_y : Big wk ny yo yl yc vb)
    (pt : Pr wk g9 24 (.bool na) (.slice (some ⟨gt, 0, none⟩) la ct))
    (lt_ : Lent w.heap.size wk gt la ct A)
    (pu : Pr wk g10 24 (.bool nb) (.slice (some ⟨gu, 0, none⟩) lb cu))
    (lu : Lent w.heap.size wk gu lb cu B)
    (hk : Below wk.heap.size wk wr)
    (dp : An wk.heap.size lwp upp wr gp np op lp cp e (va * vb)) :
    Code.wp Tryd.prog (tail4 12) (Q4 w) ⟨#[u0, u1, .pointer (some ⟨g2, 0, none⟩), .pointer (some ⟨g3, 0, none⟩), u4, .bool true, .pointer (some ⟨g6, 0, none⟩), .pointer (some ⟨g7, 0, none⟩), .int .i64 e, .pointer (some ⟨g9, 0, none⟩), .pointer (some ⟨g10, 0, none⟩), u11, u12, u13, u14, .pointer (some ⟨gp, 0, none⟩), .int .i64 cp, .bool true, .bool true, u19, u20, u21, u22, u23, u24, u25, u26, u27, u28, u29, u30, u31, u32, u33, u34, u35, u36, u37, u38, u39, u40, u41, u42, u43, u44, u45, u46, u47, u48, u49, u50, u51, u52, u53, u54, u55, u56, u57, u58, u59, u60, u61, u62, u63, u64, u65, u66, u67, u68, u69, u70, u71, u72, u73, u74, u75, u76, u77, u78, u79, u80, u81, u82, u83, u84, u85, u86, u87, u88, u89, u90, u91, u92, u93, u94, u95, u96, u97, u98, u99, u100, u101, u102], []⟩ wr := by
  show Code.wp Tryd.prog (Code.seq (head4 12) (tail4 13)) _ _ _
  conv => arg 2; arg 1; whnf
  go_wp2
  exact SU_13 (rA) (rB) (zA) (zB) (sA) (sB) (hva) (hvb) (hxl) (hyl) (he) (hbad) (hg) (hbk) (pa) (pb) (px) (bx) (py) (b_y) (pt) (lt_) (pu) (lu) (hk) (dp)

set_option maxRecDepth 100000 in
set_option maxHeartbeats 8000000 in
theorem SU_11 {w wk wr : World} {na : Bool} {nb : Bool} {nx : Bool} {ny : Bool} {aa : Option Addr} {ab : Option Addr} {xo : Option Addr} {yo : Option Addr} {A : List Nat} {B : List Nat} {va : Int} {vb : Int} {e : Int} {la : Nat} {ca : Nat} {lb : Nat} {cb : Nat} {xl : Nat} {xc : Nat} {yl : Nat} {yc : Nat} {g2 : Nat} {g3 : Nat} {g6 : Nat} {g7 : Nat} {g9 : Nat} {g10 : Nat} {gt : Nat} {ct : Nat} {gu : Nat} {cu : Nat} {lwd upd gd ld : Nat} {nd : Bool} {od : Option Addr} {cd : Int} {lwp upp gp lp : Nat} {np : Bool} {op : Option Addr} {cp : Int} {u0 u1 u4 u11 u12 u18 u19 u20 u21 u22 u23 u24 u25 u26 u27 u28 u29 u30 u31 u32 u33 u34 u35 u36 u37 u38 u39 u40 u41 u42 u43 u44 u45 u46 u47 u48 u49 u50 u51 u52 u53 u54 u55 u56 u57 u58 u59 u60 u61 u62 u63 u64 u65 u66 u67 u68 u69 u70 u71 u72 u73 u74 u75 u76 u77 u78 u79 u80 u81 u82 u83 u84 u85 u86 u87 u88 u89 u90 u91 u92 u93 u94 u95 u96 u97 u98 u99 u100 u101 u102 : Value}
    (rA : Rd w aa la ca A)
    (rB : Rd w ab lb cb B)
    (zA : Hid (aa = none → ca = 0))
    (zB : Hid (ab = none → cb = 0))
    (sA : la ≤ 1048576)
    (sB : lb ≤ 1048576)
    (hva : Hid (num na A = va))
    (hvb : Hid (num nb B = vb))
    (hxl : xl ≤ 33554432)
    (hyl : yl ≤ 33554432)
    (he : Hid (e = if 4096 < xl ∨ 4096 < yl then 10 else 0))
    (hbad : Hid (e = if tooLong A || tooLong B then 10 else 0))
    (hg : Hid (gt < gu))
    (hbk : Below w.heap.size w wk)
    (pa : Pr wk g2 24 (.bool na) (.slice aa la ca))
    (pb : Pr wk g3 24 (.bool nb) (.slice ab lb cb))
    (px : Pr wk g6 28 (.bool nx) (.slice xo xl xc))
    (bx : Big wk nx xo xl xc va)
    (py : Pr wk g7 28 (.bool ny) (.slice yo yl yc))
    (b_y : Big wk ny yo yl yc vb)
    (pt : Pr wk g9 24 (.bool na) (.slice (some ⟨gt, 0, none⟩) la ct))
    (lt_ : Lent w.heap.size wk gt la ct A)
    (pu : Pr wk g10 24 (.bool nb) (.slice (some ⟨gu, 0, none⟩) lb cu))
    (lu : Lent w.heap.size wk gu lb cu B)
    (hk : Below wk.heap.size wk wr)
    (dd : An wk.heap.size lwd upd wr gd nd od ld cd e (va + -vb))
    (dp : An wk.heap.size lwp upp wr gp np op lp cp e (va * vb))
    (qdp : upd ≤ lwp) :
    Code.wp Tryd.prog (tail4 11) (Q4 w) ⟨#[u0, u1, .pointer (some ⟨g2, 0, none⟩), .pointer (some ⟨g3, 0, none⟩), u4, .bool true, .pointer (some ⟨g6, 0, none⟩), .pointer (some ⟨g7, 0, none⟩), .int .i64 e, .pointer (some ⟨g9, 0, none⟩), .pointer (some ⟨g10, 0, none⟩), u11, u12, .pointer (some ⟨gd, 0, none⟩), .int .i64 cd, .pointer (some ⟨gp, 0, none⟩), .int .i64 cp, .bool true, u18, u19, u20, u21, u22, u23, u24, u25, u26, u27, u28, u29, u30, u31, u32, u33, u34, u35, u36, u37, u38, u39, u40, u41, u42, u43, u44, u45, u46, u47, u48, u49, u50, u51, u52, u53, u54, u55, u56, u57, u58, u59, u60, u61, u62, u63, u64, u65, u66, u67, u68, u69, u70, u71, u72, u73, u74, u75, u76, u77, u78, u79, u80, u81, u82, u83, u84, u85, u86, u87, u88, u89, u90, u91, u92, u93, u94, u95, u96, u97, u98, u99, u100, u101, u102], []⟩ wr := by
  have h_c := hid (heap_keep dd.box (Below.refl _ _).drew)
  have h_px := hid (heap_keep px hk.drew)
  have h_py := hid (heap_keep py hk.drew)
  have d_bx := (bx.keep hk).drew
  have d_b_y := (b_y.keep hk).drew
  have ed := dd.drew
  have ep := dp.drew
  have hacc : Below wk.heap.size wk wr.drew := hk.drew
  obtain ⟨kc0, kc1, _, _⟩ := two_cells dd.box
  obtain ⟨kpx0, kpx1, _, _⟩ := two_cells (px.keep hk)
  obtain ⟨kpy0, kpy1, _, _⟩ := two_cells (py.keep hk)
  show Code.wp Tryd.prog (Code.seq (head4 11) (tail4 12)) _ _ _
  conv => arg 2; arg 1; whnf
  go_wp2_with fail
  go_region_held3 (fun w' => w'.cell? ⟨gd, 0, none⟩ = some (.bool nd) ∧ w'.cell? ⟨gd, 1, none⟩ = some (.slice od ld ld) ∧ w'.cell? ⟨g6, 0, none⟩ = some (.bool nx) ∧ w'.cell? ⟨g6, 1, none⟩ = some (.slice xo xl xc) ∧ w'.cell? ⟨g7, 0, none⟩ = some (.bool ny) ∧ w'.cell? ⟨g7, 1, none⟩ = some (.slice yo yl yc))
    (first
      | go_keep
      | (with_reducible exact ⟨(two_cells h_c.out).1, (two_cells h_c.out).2.1, (two_cells h_px.out).1, (two_cells h_px.out).2.1, (two_cells h_py.out).1, (two_cells h_py.out).2.1⟩))
    (first
      | (go_at_call 23; (with_reducible refine (minusR _ _ _ _ vb _ d_b_y).mono ?_); rintro e w5 ⟨n3, l3, rfl, hl3, hM, hkk⟩; have h_c := hid (heap_keep h_c.out hkk); have h_px := hid (heap_keep h_px.out hkk); have h_py := hid (heap_keep h_py.out hkk); have d_bx := d_bx.keep hkk; have d_b_y := d_b_y.keep hkk; have ed := ed.keep hkk; have ep := ep.keep hkk; have hacc := hacc.trans (hkk.mono hacc.size); (try have hS := hS.keep hkk))
      | (go_at_call 39; (with_reducible refine (sumR _ _ _ _ va _ _ _ _ (-vb) _ d_bx hM (by omega) (by omega)).mono ?_); rintro e w5 ⟨n2, o2, l2, k2, rfl, hl2, hS, hkk⟩; have h_c := hid (heap_keep h_c.out hkk); have h_px := hid (heap_keep h_px.out hkk); have h_py := hid (heap_keep h_py.out hkk); have d_bx := d_bx.keep hkk; have d_b_y := d_b_y.keep hkk; have ed := ed.keep hkk; have ep := ep.keep hkk; have hacc := hacc.trans (hkk.mono hacc.size); (try have hM := hM.keep hkk))
      | (go_at_call 38; (with_reducible refine (isA hacc ed.ans hS (fun _ => rfl)).mono ?_); rintro r w5 ⟨rfl, hbW, hst, hsz⟩; have h_c := hid ((hst _ (lt_of_block h_c.out) ed.apart).trans h_c.out); have h_px := hid (heap_keep px hbW); have h_py := hid (heap_keep py hbW); have ep := ep.keepA hsz hst (ed.later qdp); have hacc := hbW))
  all_goals
    go_wp2
    exact SU_12 (rA) (rB) (zA) (zB) (sA) (sB) (hva) (hvb) (hxl) (hyl) (he) (hbad) (hg) (hbk) (pa) (pb) (px) (bx) (py) (b_y) (pt) (lt_) (pu) (lu) (hacc) (ep)

set_option maxRecDepth 100000 in
set_option maxHeartbeats 8000000 in
theorem SU_10 {w wk wr : World} {na : Bool} {nb : Bool} {nx : Bool} {ny : Bool} {aa : Option Addr} {ab : Option Addr} {xo : Option Addr} {yo : Option Addr} {A : List Nat} {B : List Nat} {va : Int} {vb : Int} {e : Int} {la : Nat} {ca : Nat} {lb : Nat} {cb : Nat} {xl : Nat} {xc : Nat} {yl : Nat} {yc : Nat} {g2 : Nat} {g3 : Nat} {g6 : Nat} {g7 : Nat} {g9 : Nat} {g10 : Nat} {gt : Nat} {ct : Nat} {gu : Nat} {cu : Nat} {lwc upc gc lc : Nat} {nc : Bool} {oc : Option Addr} {cc : Int} {lwd upd gd ld : Nat} {nd : Bool} {od : Option Addr} {cd : Int} {lwp upp gp lp : Nat} {np : Bool} {op : Option Addr} {cp : Int} {u0 u1 u4 u17 u18 u19 u20 u21 u22 u23 u24 u25 u26 u27 u28 u29 u30 u31 u32 u33 u34 u35 u36 u37 u38 u39 u40 u41 u42 u43 u44 u45 u46 u47 u48 u49 u50 u51 u52 u53 u54 u55 u56 u57 u58 u59 u60 u61 u62 u63 u64 u65 u66 u67 u68 u69 u70 u71 u72 u73 u74 u75 u76 u77 u78 u79 u80 u81 u82 u83 u84 u85 u86 u87 u88 u89 u90 u91 u92 u93 u94 u95 u96 u97 u98 u99 u100 u101 u102 : Value}
    (rA : Rd w aa la ca A)
    (rB : Rd w ab lb cb B)
    (zA : Hid (aa = none → ca = 0))
    (zB : Hid (ab = none → cb = 0))
    (sA : la ≤ 1048576)
    (sB : lb ≤ 1048576)
    (hva : Hid (num na A = va))
    (hvb : Hid (num nb B = vb))
    (hxl : xl ≤ 33554432)
    (hyl : yl ≤ 33554432)
    (he : Hid (e = if 4096 < xl ∨ 4096 < yl then 10 else 0))
    (hbad : Hid (e = if tooLong A || tooLong B then 10 else 0))
    (hg : Hid (gt < gu))
    (hbk : Below w.heap.size w wk)
    (pa : Pr wk g2 24 (.bool na) (.slice aa la ca))
    (pb : Pr wk g3 24 (.bool nb) (.slice ab lb cb))
    (px : Pr wk g6 28 (.bool nx) (.slice xo xl xc))
    (bx : Big wk nx xo xl xc va)
    (py : Pr wk g7 28 (.bool ny) (.slice yo yl yc))
    (b_y : Big wk ny yo yl yc vb)
    (pt : Pr wk g9 24 (.bool na) (.slice (some ⟨gt, 0, none⟩) la ct))
    (lt_ : Lent w.heap.size wk gt la ct A)
    (pu : Pr wk g10 24 (.bool nb) (.slice (some ⟨gu, 0, none⟩) lb cu))
    (lu : Lent w.heap.size wk gu lb cu B)
    (hk : Below wk.heap.size wk wr)
    (dc : An wk.heap.size lwc upc wr gc nc oc lc cc e (va + vb))
    (dd : An wk.heap.size lwd upd wr gd nd od ld cd e (va + -vb))
    (dp : An wk.heap.size lwp upp wr gp np op lp cp e (va * vb))
    (qcd : upc ≤ lwd)
    (qcp : upc ≤ lwp)
    (qdp : upd ≤ lwp) :
    Code.wp Tryd.prog (tail4 10) (Q4 w) ⟨#[u0, u1, .pointer (some ⟨g2, 0, none⟩), .pointer (some ⟨g3, 0, none⟩), u4, .bool true, .pointer (some ⟨g6, 0, none⟩), .pointer (some ⟨g7, 0, none⟩), .int .i64 e, .pointer (some ⟨g9, 0, none⟩), .pointer (some ⟨g10, 0, none⟩), .pointer (some ⟨gc, 0, none⟩), .int .i64 cc, .pointer (some ⟨gd, 0, none⟩), .int .i64 cd, .pointer (some ⟨gp, 0, none⟩), .int .i64 cp, u17, u18, u19, u20, u21, u22, u23, u24, u25, u26, u27, u28, u29, u30, u31, u32, u33, u34, u35, u36, u37, u38, u39, u40, u41, u42, u43, u44, u45, u46, u47, u48, u49, u50, u51, u52, u53, u54, u55, u56, u57, u58, u59, u60, u61, u62, u63, u64, u65, u66, u67, u68, u69, u70, u71, u72, u73, u74, u75, u76, u77, u78, u79, u80, u81, u82, u83, u84, u85, u86, u87, u88, u89, u90, u91, u92, u93, u94, u95, u96, u97, u98, u99, u100, u101, u102], []⟩ wr := by
  have h_c := hid (heap_keep dc.box (Below.refl _ _).drew)
  have h_px := hid (heap_keep px hk.drew)
  have h_py := hid (heap_keep py hk.drew)
  have d_bx := (bx.keep hk).drew
  have d_b_y := (b_y.keep hk).drew
  have ec := dc.drew
  have ed := dd.drew
  have ep := dp.drew
  have hacc : Below wk.heap.size wk wr.drew := hk.drew
  obtain ⟨kc0, kc1, _, _⟩ := two_cells dc.box
  obtain ⟨kpx0, kpx1, _, _⟩ := two_cells (px.keep hk)
  obtain ⟨kpy0, kpy1, _, _⟩ := two_cells (py.keep hk)
  show Code.wp Tryd.prog (Code.seq (head4 10) (tail4 11)) _ _ _
  conv => arg 2; arg 1; whnf
  go_wp2_with fail
  go_region_held3 (fun w' => w'.cell? ⟨gc, 0, none⟩ = some (.bool nc) ∧ w'.cell? ⟨gc, 1, none⟩ = some (.slice oc lc lc) ∧ w'.cell? ⟨g6, 0, none⟩ = some (.bool nx) ∧ w'.cell? ⟨g6, 1, none⟩ = some (.slice xo xl xc) ∧ w'.cell? ⟨g7, 0, none⟩ = some (.bool ny) ∧ w'.cell? ⟨g7, 1, none⟩ = some (.slice yo yl yc))
    (first
      | go_keep
      | (with_reducible exact ⟨(two_cells h_c.out).1, (two_cells h_c.out).2.1, (two_cells h_px.out).1, (two_cells h_px.out).2.1, (two_cells h_py.out).1, (two_cells h_py.out).2.1⟩))
    (first
      | (go_at_call 39; (with_reducible refine (sumR _ _ _ _ va _ _ _ _ vb _ d_bx d_b_y (by omega) (by omega)).mono ?_); rintro e w5 ⟨n2, o2, l2, k2, rfl, hl2, hS, hkk⟩; have h_c := hid (heap_keep h_c.out hkk); have h_px := hid (heap_keep h_px.out hkk); have h_py := hid (heap_keep h_py.out hkk); have d_bx := d_bx.keep hkk; have d_b_y := d_b_y.keep hkk; have ec := ec.keep hkk; have ed := ed.keep hkk; have ep := ep.keep hkk; have hacc := hacc.trans (hkk.mono hacc.size))
      | (go_at_call 38; (with_reducible refine (isA hacc ec.ans hS (fun _ => rfl)).mono ?_); rintro r w5 ⟨rfl, hbW, hst, hsz⟩; have h_c := hid ((hst _ (lt_of_block h_c.out) ec.apart).trans h_c.out); have h_px := hid (heap_keep px hbW); have h_py := hid (heap_keep py hbW); have ed := ed.keepA hsz hst (ec.later qcd); have ep := ep.keepA hsz hst (ec.later qcp); have hacc := hbW))
  all_goals
    go_wp2
    exact SU_11 (rA) (rB) (zA) (zB) (sA) (sB) (hva) (hvb) (hxl) (hyl) (he) (hbad) (hg) (hbk) (pa) (pb) (px) (bx) (py) (b_y) (pt) (lt_) (pu) (lu) (hacc) (ed) (ep) (qdp)

set_option maxRecDepth 100000 in
set_option maxHeartbeats 8000000 in
theorem SU_9 {w wk wr : World} {na : Bool} {nb : Bool} {nx : Bool} {ny : Bool} {aa : Option Addr} {ab : Option Addr} {xo : Option Addr} {yo : Option Addr} {A : List Nat} {B : List Nat} {va : Int} {vb : Int} {e : Int} {la : Nat} {ca : Nat} {lb : Nat} {cb : Nat} {xl : Nat} {xc : Nat} {yl : Nat} {yc : Nat} {g2 : Nat} {g3 : Nat} {g6 : Nat} {g7 : Nat} {g9 : Nat} {g10 : Nat} {gt : Nat} {ct : Nat} {gu : Nat} {cu : Nat} {lwc upc gc lc : Nat} {nc : Bool} {oc : Option Addr} {cc : Int} {lwd upd gd ld : Nat} {nd : Bool} {od : Option Addr} {cd : Int} {u0 u1 u4 u15 u16 u17 u18 u19 u20 u21 u22 u23 u24 u25 u26 u27 u28 u29 u30 u31 u32 u33 u34 u35 u36 u37 u38 u39 u40 u41 u42 u43 u44 u45 u46 u47 u48 u49 u50 u51 u52 u53 u54 u55 u56 u57 u58 u59 u60 u61 u62 u63 u64 u65 u66 u67 u68 u69 u70 u71 u72 u73 u74 u75 u76 u77 u78 u79 u80 u81 u82 u83 u84 u85 u86 u87 u88 u89 u90 u91 u92 u93 u94 u95 u96 u97 u98 u99 u100 u101 u102 : Value}
    (rA : Rd w aa la ca A)
    (rB : Rd w ab lb cb B)
    (zA : Hid (aa = none → ca = 0))
    (zB : Hid (ab = none → cb = 0))
    (sA : la ≤ 1048576)
    (sB : lb ≤ 1048576)
    (hva : Hid (num na A = va))
    (hvb : Hid (num nb B = vb))
    (hxl : xl ≤ 33554432)
    (hyl : yl ≤ 33554432)
    (he : Hid (e = if 4096 < xl ∨ 4096 < yl then 10 else 0))
    (hbad : Hid (e = if tooLong A || tooLong B then 10 else 0))
    (hg : Hid (gt < gu))
    (hbk : Below w.heap.size w wk)
    (pa : Pr wk g2 24 (.bool na) (.slice aa la ca))
    (pb : Pr wk g3 24 (.bool nb) (.slice ab lb cb))
    (px : Pr wk g6 28 (.bool nx) (.slice xo xl xc))
    (bx : Big wk nx xo xl xc va)
    (py : Pr wk g7 28 (.bool ny) (.slice yo yl yc))
    (b_y : Big wk ny yo yl yc vb)
    (pt : Pr wk g9 24 (.bool na) (.slice (some ⟨gt, 0, none⟩) la ct))
    (lt_ : Lent w.heap.size wk gt la ct A)
    (pu : Pr wk g10 24 (.bool nb) (.slice (some ⟨gu, 0, none⟩) lb cu))
    (lu : Lent w.heap.size wk gu lb cu B)
    (hk : Below wk.heap.size wk wr)
    (dc : An wk.heap.size lwc upc wr gc nc oc lc cc e (va + vb))
    (dd : An wk.heap.size lwd upd wr gd nd od ld cd e (va + -vb))
    (qcd : upc ≤ lwd) :
    Code.wp Tryd.prog (tail4 9) (Q4 w) ⟨#[u0, u1, .pointer (some ⟨g2, 0, none⟩), .pointer (some ⟨g3, 0, none⟩), u4, .bool true, .pointer (some ⟨g6, 0, none⟩), .pointer (some ⟨g7, 0, none⟩), .int .i64 e, .pointer (some ⟨g9, 0, none⟩), .pointer (some ⟨g10, 0, none⟩), .pointer (some ⟨gc, 0, none⟩), .int .i64 cc, .pointer (some ⟨gd, 0, none⟩), .int .i64 cd, u15, u16, u17, u18, u19, u20, u21, u22, u23, u24, u25, u26, u27, u28, u29, u30, u31, u32, u33, u34, u35, u36, u37, u38, u39, u40, u41, u42, u43, u44, u45, u46, u47, u48, u49, u50, u51, u52, u53, u54, u55, u56, u57, u58, u59, u60, u61, u62, u63, u64, u65, u66, u67, u68, u69, u70, u71, u72, u73, u74, u75, u76, u77, u78, u79, u80, u81, u82, u83, u84, u85, u86, u87, u88, u89, u90, u91, u92, u93, u94, u95, u96, u97, u98, u99, u100, u101, u102], []⟩ wr := by
  obtain ⟨kpt0, kpt1, _, _⟩ := two_cells (pt.keep hk)
  obtain ⟨kpu0, kpu1, _, _⟩ := two_cells (pu.keep hk)
  show Code.wp Tryd.prog (Code.seq (head4 9) (tail4 10)) _ _ _
  conv => arg 2; arg 1; whnf
  go_wp2_with fail
  refine (mulE ((lt_.keep hk).rd rA.ok (by omega)) ((lu.keep hk).rd rB.ok (by omega)) hva.out hvb.out hbad.out hk.size).mono ?_
  rintro r w2 ⟨n1, o1, l1, c1, rfl, hA1, hb2⟩
  have hs2 := hb2.size
  go_wp2
  exact SU_10 (rA) (rB) (zA) (zB) (sA) (sB) (hva) (hvb) (hxl) (hyl) (he) (hbad) (hg) (hbk) (pa) (pb) (px) (bx) (py) (b_y) (pt) (lt_) (pu) (lu) ((hk.trans (hb2.mono hk.size)).alloc (hk.trans (hb2.mono hk.size)).size _) ((dc.keep hb2).alloc _) ((dd.keep hb2).alloc _) (An.new hA1 (Nat.le_refl _) hs2) (qcd) (dc.top) (dd.top)

set_option maxRecDepth 100000 in
set_option maxHeartbeats 8000000 in
theorem SU_8 {w wk wr : World} {na : Bool} {nb : Bool} {nx : Bool} {ny : Bool} {aa : Option Addr} {ab : Option Addr} {xo : Option Addr} {yo : Option Addr} {A : List Nat} {B : List Nat} {va : Int} {vb : Int} {e : Int} {la : Nat} {ca : Nat} {lb : Nat} {cb : Nat} {xl : Nat} {xc : Nat} {yl : Nat} {yc : Nat} {g2 : Nat} {g3 : Nat} {g6 : Nat} {g7 : Nat} {g9 : Nat} {g10 : Nat} {gt : Nat} {ct : Nat} {gu : Nat} {cu : Nat} {lwc upc gc lc : Nat} {nc : Bool} {oc : Option Addr} {cc : Int} {u0 u1 u4 u13 u14 u15 u16 u17 u18 u19 u20 u21 u22 u23 u24 u25 u26 u27 u28 u29 u30 u31 u32 u33 u34 u35 u36 u37 u38 u39 u40 u41 u42 u43 u44 u45 u46 u47 u48 u49 u50 u51 u52 u53 u54 u55 u56 u57 u58 u59 u60 u61 u62 u63 u64 u65 u66 u67 u68 u69 u70 u71 u72 u73 u74 u75 u76 u77 u78 u79 u80 u81 u82 u83 u84 u85 u86 u87 u88 u89 u90 u91 u92 u93 u94 u95 u96 u97 u98 u99 u100 u101 u102 : Value}
    (rA : Rd w aa la ca A)
    (rB : Rd w ab lb cb B)
    (zA : Hid (aa = none → ca = 0))
    (zB : Hid (ab = none → cb = 0))
    (sA : la ≤ 1048576)
    (sB : lb ≤ 1048576)
    (hva : Hid (num na A = va))
    (hvb : Hid (num nb B = vb))
    (hxl : xl ≤ 33554432)
    (hyl : yl ≤ 33554432)
    (he : Hid (e = if 4096 < xl ∨ 4096 < yl then 10 else 0))
    (hbad : Hid (e = if tooLong A || tooLong B then 10 else 0))
    (hg : Hid (gt < gu))
    (hbk : Below w.heap.size w wk)
    (pa : Pr wk g2 24 (.bool na) (.slice aa la ca))
    (pb : Pr wk g3 24 (.bool nb) (.slice ab lb cb))
    (px : Pr wk g6 28 (.bool nx) (.slice xo xl xc))
    (bx : Big wk nx xo xl xc va)
    (py : Pr wk g7 28 (.bool ny) (.slice yo yl yc))
    (b_y : Big wk ny yo yl yc vb)
    (pt : Pr wk g9 24 (.bool na) (.slice (some ⟨gt, 0, none⟩) la ct))
    (lt_ : Lent w.heap.size wk gt la ct A)
    (pu : Pr wk g10 24 (.bool nb) (.slice (some ⟨gu, 0, none⟩) lb cu))
    (lu : Lent w.heap.size wk gu lb cu B)
    (hk : Below wk.heap.size wk wr)
    (dc : An wk.heap.size lwc upc wr gc nc oc lc cc e (va + vb)) :
    Code.wp Tryd.prog (tail4 8) (Q4 w) ⟨#[u0, u1, .pointer (some ⟨g2, 0, none⟩), .pointer (some ⟨g3, 0, none⟩), u4, .bool true, .pointer (some ⟨g6, 0, none⟩), .pointer (some ⟨g7, 0, none⟩), .int .i64 e, .pointer (some ⟨g9, 0, none⟩), .pointer (some ⟨g10, 0, none⟩), .pointer (some ⟨gc, 0, none⟩), .int .i64 cc, u13, u14, u15, u16, u17, u18, u19, u20, u21, u22, u23, u24, u25, u26, u27, u28, u29, u30, u31, u32, u33, u34, u35, u36, u37, u38, u39, u40, u41, u42, u43, u44, u45, u46, u47, u48, u49, u50, u51, u52, u53, u54, u55, u56, u57, u58, u59, u60, u61, u62, u63, u64, u65, u66, u67, u68, u69, u70, u71, u72, u73, u74, u75, u76, u77, u78, u79, u80, u81, u82, u83, u84, u85, u86, u87, u88, u89, u90, u91, u92, u93, u94, u95, u96, u97, u98, u99, u100, u101, u102], []⟩ wr := by
  obtain ⟨kpt0, kpt1, _, _⟩ := two_cells (pt.keep hk)
  obtain ⟨kpu0, kpu1, _, _⟩ := two_cells (pu.keep hk)
  show Code.wp Tryd.prog (Code.seq (head4 8) (tail4 9)) _ _ _
  conv => arg 2; arg 1; whnf
  go_wp2_with fail
  refine (subE ((lt_.keep hk).rd rA.ok (by omega)) ((lu.keep hk).rd rB.ok (by omega)) hva.out hvb.out hbad.out hk.size).mono ?_
  rintro r w2 ⟨n1, o1, l1, c1, rfl, hA1, hb2⟩
  have hs2 := hb2.size
  go_wp2
  exact SU_9 (rA) (rB) (zA) (zB) (sA) (sB) (hva) (hvb) (hxl) (hyl) (he) (hbad) (hg) (hbk) (pa) (pb) (px) (bx) (py) (b_y) (pt) (lt_) (pu) (lu) ((hk.trans (hb2.mono hk.size)).alloc (hk.trans (hb2.mono hk.size)).size _) ((dc.keep hb2).alloc _) (An.new hA1 (Nat.le_refl _) hs2) (dc.top)

set_option maxRecDepth 100000 in
set_option maxHeartbeats 8000000 in
theorem SU_7 {w wk wr : World} {na : Bool} {nb : Bool} {nx : Bool} {ny : Bool} {aa : Option Addr} {ab : Option Addr} {xo : Option Addr} {yo : Option Addr} {A : List Nat} {B : List Nat} {va : Int} {vb : Int} {e : Int} {la : Nat} {ca : Nat} {lb : Nat} {cb : Nat} {xl : Nat} {xc : Nat} {yl : Nat} {yc : Nat} {g2 : Nat} {g3 : Nat} {g6 : Nat} {g7 : Nat} {g9 : Nat} {g10 : Nat} {gt : Nat} {ct : Nat} {gu : Nat} {cu : Nat} {u0 u1 u4 u11 u12 u13 u14 u15 u16 u17 u18 u19 u20 u21 u22 u23 u24 u25 u26 u27 u28 u29 u30 u31 u32 u33 u34 u35 u36 u37 u38 u39 u40 u41 u42 u43 u44 u45 u46 u47 u48 u49 u50 u51 u52 u53 u54 u55 u56 u57 u58 u59 u60 u61 u62 u63 u64 u65 u66 u67 u68 u69 u70 u71 u72 u73 u74 u75 u76 u77 u78 u79 u80 u81 u82 u83 u84 u85 u86 u87 u88 u89 u90 u91 u92 u93 u94 u95 u96 u97 u98 u99 u100 u101 u102 : Value}
    (rA : Rd w aa la ca A)
    (rB : Rd w ab lb cb B)
    (zA : Hid (aa = none → ca = 0))
    (zB : Hid (ab = none → cb = 0))
    (sA : la ≤ 1048576)
    (sB : lb ≤ 1048576)
    (hva : Hid (num na A = va))
    (hvb : Hid (num nb B = vb))
    (hxl : xl ≤ 33554432)
    (hyl : yl ≤ 33554432)
    (he : Hid (e = if 4096 < xl ∨ 4096 < yl then 10 else 0))
    (hbad : Hid (e = if tooLong A || tooLong B then 10 else 0))
    (hg : Hid (gt < gu))
    (hbk : Below w.heap.size w wk)
    (pa : Pr wk g2 24 (.bool na) (.slice aa la ca))
    (pb : Pr wk g3 24 (.bool nb) (.slice ab lb cb))
    (px : Pr wk g6 28 (.bool nx) (.slice xo xl xc))
    (bx : Big wk nx xo xl xc va)
    (py : Pr wk g7 28 (.bool ny) (.slice yo yl yc))
    (b_y : Big wk ny yo yl yc vb)
    (pt : Pr wk g9 24 (.bool na) (.slice (some ⟨gt, 0, none⟩) la ct))
    (lt_ : Lent w.heap.size wk gt la ct A)
    (pu : Pr wk g10 24 (.bool nb) (.slice (some ⟨gu, 0, none⟩) lb cu))
    (lu : Lent w.heap.size wk gu lb cu B)
    (hk : Below wk.heap.size wk wr) :
    Code.wp Tryd.prog (tail4 7) (Q4 w) ⟨#[u0, u1, .pointer (some ⟨g2, 0, none⟩), .pointer (some ⟨g3, 0, none⟩), u4, .bool true, .pointer (some ⟨g6, 0, none⟩), .pointer (some ⟨g7, 0, none⟩), .int .i64 e, .pointer (some ⟨g9, 0, none⟩), .pointer (some ⟨g10, 0, none⟩), u11, u12, u13, u14, u15, u16, u17, u18, u19, u20, u21, u22, u23, u24, u25, u26, u27, u28, u29, u30, u31, u32, u33, u34, u35, u36, u37, u38, u39, u40, u41, u42, u43, u44, u45, u46, u47, u48, u49, u50, u51, u52, u53, u54, u55, u56, u57, u58, u59, u60, u61, u62, u63, u64, u65, u66, u67, u68, u69, u70, u71, u72, u73, u74, u75, u76, u77, u78, u79, u80, u81, u82, u83, u84, u85, u86, u87, u88, u89, u90, u91, u92, u93, u94, u95, u96, u97, u98, u99, u100, u101, u102], []⟩ wr := by
  obtain ⟨kpt0, kpt1, _, _⟩ := two_cells (pt.keep hk)
  obtain ⟨kpu0, kpu1, _, _⟩ := two_cells (pu.keep hk)
  show Code.wp Tryd.prog (Code.seq (head4 7) (tail4 8)) _ _ _
  conv => arg 2; arg 1; whnf
  go_wp2_with fail
  refine (addE ((lt_.keep hk).rd rA.ok (by omega)) ((lu.keep hk).rd rB.ok (by omega)) hva.out hvb.out hbad.out hk.size).mono ?_
  rintro r w2 ⟨n1, o1, l1, c1, rfl, hA1, hb2⟩
  have hs2 := hb2.size
  go_wp2
  exact SU_8 (rA) (rB) (zA) (zB) (sA) (sB) (hva) (hvb) (hxl) (hyl) (he) (hbad) (hg) (hbk) (pa) (pb) (px) (bx) (py) (b_y) (pt) (lt_) (pu) (lu) ((hk.trans (hb2.mono hk.size)).alloc (hk.trans (hb2.mono hk.size)).size _) (An.new hA1 (Nat.le_refl _) hs2)

set_option maxRecDepth 100000 in
set_option maxHeartbeats 8000000 in
theorem SU_6 {w wr : World} {na : Bool} {nb : Bool} {nx : Bool} {ny : Bool} {aa : Option Addr} {ab : Option Addr} {xo : Option Addr} {yo : Option Addr} {A : List Nat} {B : List Nat} {va : Int} {vb : Int} {e : Int} {la : Nat} {ca : Nat} {lb : Nat} {cb : Nat} {xl : Nat} {xc : Nat} {yl : Nat} {yc : Nat} {g2 : Nat} {g3 : Nat} {g6 : Nat} {g7 : Nat} {g9 : Nat} {gt : Nat} {ct : Nat} {u0 u1 u4 u10 u11 u12 u13 u14 u15 u16 u17 u18 u19 u20 u21 u22 u23 u24 u25 u26 u27 u28 u29 u30 u31 u32 u33 u34 u35 u36 u37 u38 u39 u40 u41 u42 u43 u44 u45 u46 u47 u48 u49 u50 u51 u52 u53 u54 u55 u56 u57 u58 u59 u60 u61 u62 u63 u64 u65 u66 u67 u68 u69 u70 u71 u72 u73 u74 u75 u76 u77 u78 u79 u80 u81 u82 u83 u84 u85 u86 u87 u88 u89 u90 u91 u92 u93 u94 u95 u96 u97 u98 u99 u100 u101 u102 : Value}
    (rA : Rd w aa la ca A)
    (rB : Rd w ab lb cb B)
    (zA : Hid (aa = none → ca = 0))
    (zB : Hid (ab = none → cb = 0))
    (sA : la ≤ 1048576)
    (sB : lb ≤ 1048576)
    (hva : Hid (num na A = va))
    (hvb : Hid (num nb B = vb))
    (hxl : xl ≤ 33554432)
    (hyl : yl ≤ 33554432)
    (he : Hid (e = if 4096 < xl ∨ 4096 < yl then 10 else 0))
    (hbad : Hid (e = if tooLong A || tooLong B then 10 else 0))
    (hb : Below w.heap.size w wr)
    (pa : Pr wr g2 24 (.bool na) (.slice aa la ca))
    (pb : Pr wr g3 24 (.bool nb) (.slice ab lb cb))
    (px : Pr wr g6 28 (.bool nx) (.slice xo xl xc))
    (bx : Big wr nx xo xl xc va)
    (py : Pr wr g7 28 (.bool ny) (.slice yo yl yc))
    (b_y : Big wr ny yo yl yc vb)
    (pt : Pr wr g9 24 (.bool na) (.slice (some ⟨gt, 0, none⟩) la ct))
    (lt_ : Lent w.heap.size wr gt la ct A) :
    Code.wp Tryd.prog (tail4 6) (Q4 w) ⟨#[u0, u1, .pointer (some ⟨g2, 0, none⟩), .pointer (some ⟨g3, 0, none⟩), u4, .bool true, .pointer (some ⟨g6, 0, none⟩), .pointer (some ⟨g7, 0, none⟩), .int .i64 e, .pointer (some ⟨g9, 0, none⟩), u10, u11, u12, u13, u14, u15, u16, u17, u18, u19, u20, u21, u22, u23, u24, u25, u26, u27, u28, u29, u30, u31, u32, u33, u34, u35, u36, u37, u38, u39, u40, u41, u42, u43, u44, u45, u46, u47, u48, u49, u50, u51, u52, u53, u54, u55, u56, u57, u58, u59, u60, u61, u62, u63, u64, u65, u66, u67, u68, u69, u70, u71, u72, u73, u74, u75, u76, u77, u78, u79, u80, u81, u82, u83, u84, u85, u86, u87, u88, u89, u90, u91, u92, u93, u94, u95, u96, u97, u98, u99, u100, u101, u102], []⟩ wr := by
  obtain ⟨kpb0, kpb1, _, _⟩ := two_cells pb
  show Code.wp Tryd.prog (Code.seq (head4 6) (tail4 7)) _ _ _
  conv => arg 2; arg 1; whnf
  go_wp2_with fail
  refine (lentR nb ab lb cb B _ (rB.keep hb) zB.out (by omega)).mono ?_
  rintro e_ w2 ⟨gu, cu, rfl, lu, hb2⟩
  have hgg := Nat.lt_of_lt_of_le lt_.ge.2 lu.ge.1
  go_wp2
  have hb3 := hb.trans (hb2.mono hb.size)
  exact SU_7 (rA) (rB) (zA) (zB) (sA) (sB) (hva) (hvb) (hxl) (hyl) (he) (hbad) (hid hgg) (hb3.alloc hb3.size _) ((pa.keep hb2).alloc _) ((pb.keep hb2).alloc _) ((px.keep hb2).alloc _) ((bx.keep hb2).alloc _) ((py.keep hb2).alloc _) ((b_y.keep hb2).alloc _) ((pt.keep hb2).alloc _) ((lt_.keep hb2).alloc _) (Pr.new _ _ _ _) ((lu.base hb.size).alloc _) (Below.refl _ _)

set_option maxRecDepth 100000 in
set_option maxHeartbeats 8000000 in
theorem SU_5 {w wr : World} {na : Bool} {nb : Bool} {nx : Bool} {ny : Bool} {aa : Option Addr} {ab : Option Addr} {xo : Option Addr} {yo : Option Addr} {A : List Nat} {B : List Nat} {va : Int} {vb : Int} {e : Int} {la : Nat} {ca : Nat} {lb : Nat} {cb : Nat} {xl : Nat} {xc : Nat} {yl : Nat} {yc : Nat} {g2 : Nat} {g3 : Nat} {g6 : Nat} {g7 : Nat} {u0 u1 u4 u9 u10 u11 u12 u13 u14 u15 u16 u17 u18 u19 u20 u21 u22 u23 u24 u25 u26 u27 u28 u29 u30 u31 u32 u33 u34 u35 u36 u37 u38 u39 u40 u41 u42 u43 u44 u45 u46 u47 u48 u49 u50 u51 u52 u53 u54 u55 u56 u57 u58 u59 u60 u61 u62 u63 u64 u65 u66 u67 u68 u69 u70 u71 u72 u73 u74 u75 u76 u77 u78 u79 u80 u81 u82 u83 u84 u85 u86 u87 u88 u89 u90 u91 u92 u93 u94 u95 u96 u97 u98 u99 u100 u101 u102 : Value}
    (rA : Rd w aa la ca A)
    (rB : Rd w ab lb cb B)
    (zA : Hid (aa = none → ca = 0))
    (zB : Hid (ab = none → cb = 0))
    (sA : la ≤ 1048576)
    (sB : lb ≤ 1048576)
    (hva : Hid (num na A = va))
    (hvb : Hid (num nb B = vb))
    (hxl : xl ≤ 33554432)
    (hyl : yl ≤ 33554432)
    (he : Hid (e = if 4096 < xl ∨ 4096 < yl then 10 else 0))
    (hbad : Hid (e = if tooLong A || tooLong B then 10 else 0))
    (hb : Below w.heap.size w wr)
    (pa : Pr wr g2 24 (.bool na) (.slice aa la ca))
    (pb : Pr wr g3 24 (.bool nb) (.slice ab lb cb))
    (px : Pr wr g6 28 (.bool nx) (.slice xo xl xc))
    (bx : Big wr nx xo xl xc va)
    (py : Pr wr g7 28 (.bool ny) (.slice yo yl yc))
    (b_y : Big wr ny yo yl yc vb) :
    Code.wp Tryd.prog (tail4 5) (Q4 w) ⟨#[u0, u1, .pointer (some ⟨g2, 0, none⟩), .pointer (some ⟨g3, 0, none⟩), u4, .bool true, .pointer (some ⟨g6, 0, none⟩), .pointer (some ⟨g7, 0, none⟩), .int .i64 e, u9, u10, u11, u12, u13, u14, u15, u16, u17, u18, u19, u20, u21, u22, u23, u24, u25, u26, u27, u28, u29, u30, u31, u32, u33, u34, u35, u36, u37, u38, u39, u40, u41, u42, u43, u44, u45, u46, u47, u48, u49, u50, u51, u52, u53, u54, u55, u56, u57, u58, u59, u60, u61, u62, u63, u64, u65, u66, u67, u68, u69, u70, u71, u72, u73, u74, u75, u76, u77, u78, u79, u80, u81, u82, u83, u84, u85, u86, u87, u88, u89, u90, u91, u92, u93, u94, u95, u96, u97, u98, u99, u100, u101, u102], []⟩ wr := by
  obtain ⟨kpa0, kpa1, _, _⟩ := two_cells pa
  show Code.wp Tryd.prog (Code.seq (head4 5) (tail4 6)) _ _ _
  conv => arg 2; arg 1; whnf
  go_wp2_with fail
  refine (lentR na aa la ca A _ (rA.keep hb) zA.out (by omega)).mono ?_
  rintro e w2 ⟨g_, c_, rfl, lx, hb2⟩
  go_wp2
  have hb3 := hb.trans (hb2.mono hb.size)
  exact SU_6 (rA) (rB) (zA) (zB) (sA) (sB) (hva) (hvb) (hxl) (hyl) (he) (hbad) (hb3.alloc hb3.size _) ((pa.keep hb2).alloc _) ((pb.keep hb2).alloc _) ((px.keep hb2).alloc _) ((bx.keep hb2).alloc _) ((py.keep hb2).alloc _) ((b_y.keep hb2).alloc _) (Pr.new _ _ _ _) ((lx.base hb.size).alloc _)

set_option maxRecDepth 100000 in
set_option maxHeartbeats 8000000 in
theorem SU_4 {w wr : World} {na : Bool} {nb : Bool} {nx : Bool} {ny : Bool} {aa : Option Addr} {ab : Option Addr} {xo : Option Addr} {yo : Option Addr} {A : List Nat} {B : List Nat} {va : Int} {vb : Int} {la : Nat} {ca : Nat} {lb : Nat} {cb : Nat} {xl : Nat} {xc : Nat} {yl : Nat} {yc : Nat} {g2 : Nat} {g3 : Nat} {g6 : Nat} {g7 : Nat} {u0 u1 u4 u8 u9 u10 u11 u12 u13 u14 u15 u16 u17 u18 u19 u20 u21 u22 u23 u24 u25 u26 u27 u28 u29 u30 u31 u32 u33 u34 u35 u36 u37 u38 u39 u40 u41 u42 u43 u44 u45 u46 u47 u48 u49 u50 u51 u52 u53 u54 u55 u56 u57 u58 u59 u60 u61 u62 u63 u64 u65 u66 u67 u68 u69 u70 u71 u72 u73 u74 u75 u76 u77 u78 u79 u80 u81 u82 u83 u84 u85 u86 u87 u88 u89 u90 u91 u92 u93 u94 u95 u96 u97 u98 u99 u100 u101 u102 : Value}
    (rA : Rd w aa la ca A)
    (rB : Rd w ab lb cb B)
    (zA : Hid (aa = none → ca = 0))
    (zB : Hid (ab = none → cb = 0))
    (sA : la ≤ 1048576)
    (sB : lb ≤ 1048576)
    (hva : Hid (num na A = va))
    (hvb : Hid (num nb B = vb))
    (hxl : xl ≤ 33554432)
    (hyl : yl ≤ 33554432)
    (hb : Below w.heap.size w wr)
    (pa : Pr wr g2 24 (.bool na) (.slice aa la ca))
    (pb : Pr wr g3 24 (.bool nb) (.slice ab lb cb))
    (px : Pr wr g6 28 (.bool nx) (.slice xo xl xc))
    (bx : Big wr nx xo xl xc va)
    (py : Pr wr g7 28 (.bool ny) (.slice yo yl yc))
    (b_y : Big wr ny yo yl yc vb) :
    Code.wp Tryd.prog (tail4 4) (Q4 w) ⟨#[u0, u1, .pointer (some ⟨g2, 0, none⟩), .pointer (some ⟨g3, 0, none⟩), u4, .bool true, .pointer (some ⟨g6, 0, none⟩), .pointer (some ⟨g7, 0, none⟩), u8, u9, u10, u11, u12, u13, u14, u15, u16, u17, u18, u19, u20, u21, u22, u23, u24, u25, u26, u27, u28, u29, u30, u31, u32, u33, u34, u35, u36, u37, u38, u39, u40, u41, u42, u43, u44, u45, u46, u47, u48, u49, u50, u51, u52, u53, u54, u55, u56, u57, u58, u59, u60, u61, u62, u63, u64, u65, u66, u67, u68, u69, u70, u71, u72, u73, u74, u75, u76, u77, u78, u79, u80, u81, u82, u83, u84, u85, u86, u87, u88, u89, u90, u91, u92, u93, u94, u95, u96, u97, u98, u99, u100, u101, u102], []⟩ wr := by
  obtain ⟨kpx0, kpx1, _, _⟩ := two_cells px
  obtain ⟨kpy0, kpy1, _, _⟩ := two_cells py
  show Code.wp Tryd.prog (Code.seq (head4 4) (tail4 5)) _ _ _
  conv => arg 2; arg 1; whnf
  go_wp2_with fail
  refine (longR nx xo xl xc ny yo yl yc _).mono ?_
  rintro r w2 ⟨rfl, hb2⟩
  obtain ⟨e, hx1⟩ : ∃ e : Int, e = if 4096 < xl ∨ 4096 < yl then 10 else 0 := ⟨_, rfl⟩
  rw [← hx1]
  have he := hid hx1
  have hbad : Hid (e = if tooLong A || tooLong B then 10 else 0) := hid (hx1.trans (bad_of hva.out hvb.out bx.len b_y.len).symm)
  clear hx1
  go_wp2
  have hb3 := hb.trans (hb2.mono hb.size)
  exact SU_5 (rA) (rB) (zA) (zB) (sA) (sB) (hva) (hvb) (hxl) (hyl) (he) (hbad) (hb3) (pa.keep hb2) (pb.keep hb2) (px.keep hb2) (bx.keep hb2) (py.keep hb2) (b_y.keep hb2)

set_option maxRecDepth 100000 in
set_option maxHeartbeats 8000000 in
theorem SU_3 {w wr : World} {na : Bool} {nb : Bool} {nx : Bool} {aa : Option Addr} {ab : Option Addr} {xo : Option Addr} {A : List Nat} {B : List Nat} {va : Int} {vb : Int} {la : Nat} {ca : Nat} {lb : Nat} {cb : Nat} {xl : Nat} {xc : Nat} {g2 : Nat} {g3 : Nat} {g6 : Nat} {u0 u1 u4 u7 u8 u9 u10 u11 u12 u13 u14 u15 u16 u17 u18 u19 u20 u21 u22 u23 u24 u25 u26 u27 u28 u29 u30 u31 u32 u33 u34 u35 u36 u37 u38 u39 u40 u41 u42 u43 u44 u45 u46 u47 u48 u49 u50 u51 u52 u53 u54 u55 u56 u57 u58 u59 u60 u61 u62 u63 u64 u65 u66 u67 u68 u69 u70 u71 u72 u73 u74 u75 u76 u77 u78 u79 u80 u81 u82 u83 u84 u85 u86 u87 u88 u89 u90 u91 u92 u93 u94 u95 u96 u97 u98 u99 u100 u101 u102 : Value}
    (rA : Rd w aa la ca A)
    (rB : Rd w ab lb cb B)
    (zA : Hid (aa = none → ca = 0))
    (zB : Hid (ab = none → cb = 0))
    (sA : la ≤ 1048576)
    (sB : lb ≤ 1048576)
    (hva : Hid (num na A = va))
    (hvb : Hid (num nb B = vb))
    (hxl : xl ≤ 33554432)
    (hb : Below w.heap.size w wr)
    (pa : Pr wr g2 24 (.bool na) (.slice aa la ca))
    (pb : Pr wr g3 24 (.bool nb) (.slice ab lb cb))
    (px : Pr wr g6 28 (.bool nx) (.slice xo xl xc))
    (bx : Big wr nx xo xl xc va) :
    Code.wp Tryd.prog (tail4 3) (Q4 w) ⟨#[u0, u1, .pointer (some ⟨g2, 0, none⟩), .pointer (some ⟨g3, 0, none⟩), u4, .bool true, .pointer (some ⟨g6, 0, none⟩), u7, u8, u9, u10, u11, u12, u13, u14, u15, u16, u17, u18, u19, u20, u21, u22, u23, u24, u25, u26, u27, u28, u29, u30, u31, u32, u33, u34, u35, u36, u37, u38, u39, u40, u41, u42, u43, u44, u45, u46, u47, u48, u49, u50, u51, u52, u53, u54, u55, u56, u57, u58, u59, u60, u61, u62, u63, u64, u65, u66, u67, u68, u69, u70, u71, u72, u73, u74, u75, u76, u77, u78, u79, u80, u81, u82, u83, u84, u85, u86, u87, u88, u89, u90, u91, u92, u93, u94, u95, u96, u97, u98, u99, u100, u101, u102], []⟩ wr := by
  obtain ⟨kpb0, kpb1, _, _⟩ := two_cells pb
  show Code.wp Tryd.prog (Code.seq (head4 3) (tail4 4)) _ _ _
  conv => arg 2; arg 1; whnf
  go_wp2_with fail
  refine (ofR nb ab lb cb B _ (rB.keep hb) (by omega)).mono ?_
  rintro e w2 ⟨ny, yo, yl, yc, rfl, hl, bnew, hb2⟩
  go_wp2
  have hb3 := hb.trans (hb2.mono hb.size)
  exact SU_4 (rA) (rB) (zA) (zB) (sA) (sB) (hva) (hvb) (hxl) (by omega) (hb3.alloc hb3.size _) ((pa.keep hb2).alloc _) ((pb.keep hb2).alloc _) ((px.keep hb2).alloc _) ((bx.keep hb2).alloc _) (Pr.new _ _ _ _) ((bnew.cast hvb.out).alloc _)

set_option maxRecDepth 100000 in
set_option maxHeartbeats 8000000 in
theorem SU_2 {w wr : World} {na : Bool} {nb : Bool} {aa : Option Addr} {ab : Option Addr} {A : List Nat} {B : List Nat} {va : Int} {vb : Int} {la : Nat} {ca : Nat} {lb : Nat} {cb : Nat} {g2 : Nat} {g3 : Nat} {u0 u1 u4 u6 u7 u8 u9 u10 u11 u12 u13 u14 u15 u16 u17 u18 u19 u20 u21 u22 u23 u24 u25 u26 u27 u28 u29 u30 u31 u32 u33 u34 u35 u36 u37 u38 u39 u40 u41 u42 u43 u44 u45 u46 u47 u48 u49 u50 u51 u52 u53 u54 u55 u56 u57 u58 u59 u60 u61 u62 u63 u64 u65 u66 u67 u68 u69 u70 u71 u72 u73 u74 u75 u76 u77 u78 u79 u80 u81 u82 u83 u84 u85 u86 u87 u88 u89 u90 u91 u92 u93 u94 u95 u96 u97 u98 u99 u100 u101 u102 : Value}
    (rA : Rd w aa la ca A)
    (rB : Rd w ab lb cb B)
    (zA : Hid (aa = none → ca = 0))
    (zB : Hid (ab = none → cb = 0))
    (sA : la ≤ 1048576)
    (sB : lb ≤ 1048576)
    (hva : Hid (num na A = va))
    (hvb : Hid (num nb B = vb))
    (hb : Below w.heap.size w wr)
    (pa : Pr wr g2 24 (.bool na) (.slice aa la ca))
    (pb : Pr wr g3 24 (.bool nb) (.slice ab lb cb)) :
    Code.wp Tryd.prog (tail4 2) (Q4 w) ⟨#[u0, u1, .pointer (some ⟨g2, 0, none⟩), .pointer (some ⟨g3, 0, none⟩), u4, .bool true, u6, u7, u8, u9, u10, u11, u12, u13, u14, u15, u16, u17, u18, u19, u20, u21, u22, u23, u24, u25, u26, u27, u28, u29, u30, u31, u32, u33, u34, u35, u36, u37, u38, u39, u40, u41, u42, u43, u44, u45, u46, u47, u48, u49, u50, u51, u52, u53, u54, u55, u56, u57, u58, u59, u60, u61, u62, u63, u64, u65, u66, u67, u68, u69, u70, u71, u72, u73, u74, u75, u76, u77, u78, u79, u80, u81, u82, u83, u84, u85, u86, u87, u88, u89, u90, u91, u92, u93, u94, u95, u96, u97, u98, u99, u100, u101, u102], []⟩ wr := by
  obtain ⟨kpa0, kpa1, _, _⟩ := two_cells pa
  show Code.wp Tryd.prog (Code.seq (head4 2) (tail4 3)) _ _ _
  conv => arg 2; arg 1; whnf
  go_wp2_with fail
  refine (ofR na aa la ca A _ (rA.keep hb) (by omega)).mono ?_
  rintro e w2 ⟨nx, xo, xl, xc, rfl, hl, bnew, hb2⟩
  go_wp2
  have hb3 := hb.trans (hb2.mono hb.size)
  exact SU_3 (rA) (rB) (zA) (zB) (sA) (sB) (hva) (hvb) (by omega) (hb3.alloc hb3.size _) ((pa.keep hb2).alloc _) ((pb.keep hb2).alloc _) (Pr.new _ _ _ _) ((bnew.cast hva.out).alloc _)

set_option maxRecDepth 100000 in
set_option maxHeartbeats 2000000 in
theorem sums_yes {na : Bool} {aa : Option Addr} {la ca : Nat} {A : List Nat} {nb : Bool} {ab : Option Addr} {lb cb : Nat} {B : List Nat} (w : World) (hA : Rd w aa la ca A) (sA : la ≤ 1048576) (zA : aa = none → ca = 0) (hB : Rd w ab lb cb B) (sB : lb ≤ 1048576) (zB : ab = none → cb = 0) :
    Calls Tryd.prog 4 #[.agg #[.bool na, .slice aa la ca], .agg #[.bool nb, .slice ab lb cb]] w fun e w' => e = .returned (.bool true) ∧ Below w.heap.size w w' := by
  have X0 := (Pr.new w 24 (.bool na) (.slice aa la ca)).alloc (.cells #[.bool nb, .slice ab lb cb] 24)
  have X1 := Pr.new (w.alloc (.cells #[.bool na, .slice aa la ca] 24)) 24 (.bool nb) (.slice ab lb cb)
  rw [show (w.alloc (.cells #[.bool na, .slice aa la ca] 24)).heap.size = w.heap.size + 1 by simp] at X1
  have hb := ((Below.refl w.heap.size w).alloc (Nat.le_refl _) (.cells #[.bool na, .slice aa la ca] 24)).alloc (by simp) (.cells #[.bool nb, .slice ab lb cb] 24)
  have z1 := hid zA
  have z2 := hid zB
  clear zA zB
  go_enter Tryd.func4, Tryd.ntmps4
  change Code.wp Tryd.prog (Code.seq (head4 0) (tail4 1)) (Q4 w) _ _
  conv => arg 2; arg 1; whnf
  go_wp2
  show Code.wp Tryd.prog (Code.seq (head4 1) (tail4 2)) _ _ _
  conv => arg 2; arg 1; whnf
  go_wp2_with fail
  refine (awake_yes _).mono ?_
  rintro e w2 ⟨rfl, hb2⟩
  go_wp2
  exact SU_2 hA hB z1 z2 sA sB (hid rfl) (hid rfl) (hb.trans (hb2.mono hb.size)) (X0.keep hb2) (X1.keep hb2)

end Go.Proofs.YtldafoojkimdeaaDoor
