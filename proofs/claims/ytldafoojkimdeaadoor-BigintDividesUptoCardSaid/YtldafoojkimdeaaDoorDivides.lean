/- For every input of bulk at most 1048576 (values and letters together; beyond 2^45 limbs the law's own lists of bits would be longer than a slice can be) the law BigintDivides answers true and leaves its arguments alone: no other condition; the package-level tables that its row lists are tied to the program's text by the given tie. -/
import Derived.Test.YtldafoojkimdeaaDoorRefdm
import Derived.Deep.CutBlock
import Derived.Test.YtldafoojkimdeaaDoorR12m
namespace Go.Proofs.YtldafoojkimdeaaDoor
open Go.RowKit Lm

noncomputable def tail5 (n : Nat) : Code := seqDrop n (Tryd.f5.body.getD .skip)
noncomputable def head5 (n : Nat) : Code := seqHead (tail5 n)
noncomputable def Q5 (w : World) : Exit → Act → World → Prop := bodyPost Tryd.prog Tryd.f5 fun e w' => e = .returned (.bool true) ∧ Below w.heap.size w w'


set_option maxRecDepth 100000 in
set_option maxHeartbeats 8000000 in
theorem DI_22 {w wr : World}  {u0 u1 u2 u3 u4 u6 u7 u8 u9 u10 u11 u12 u13 u14 u15 u16 u17 u18 u19 u20 u21 u22 u29 u30 u31 u32 u33 u34 u35 u36 u37 u38 u39 u40 u41 u42 u43 u44 u45 u46 u47 u48 u49 u50 u51 u52 u53 u54 u55 u56 u57 u58 u59 u60 u61 u62 u63 u64 u65 u66 u67 u68 u69 u70 u71 u72 u73 u74 u75 u76 u77 u78 u79 u80 u81 u82 u83 u84 u85 u86 u87 u88 u89 u90 u91 u92 u93 u94 u95 u96 u97 u98 u99 u100 u101 u102 u103 u104 u105 u106 u107 u108 u109 u110 u111 u112 u113 u114 u115 u116 u117 u118 u119 u120 u121 u122 u123 u124 u125 u126 u127 u128 u129 u130 u131 u132 u133 u134 u135 : Value}
    (hb : Below w.heap.size w wr) :
    Code.wp Tryd.prog (tail5 22) (Q5 w) ⟨#[u0, u1, u2, u3, u4, .bool true, u6, u7, u8, u9, u10, u11, u12, u13, u14, u15, u16, u17, u18, u19, u20, u21, u22, .bool true, .bool true, .bool true, .bool true, .bool true, .bool true, u29, u30, u31, u32, u33, u34, u35, u36, u37, u38, u39, u40, u41, u42, u43, u44, u45, u46, u47, u48, u49, u50, u51, u52, u53, u54, u55, u56, u57, u58, u59, u60, u61, u62, u63, u64, u65, u66, u67, u68, u69, u70, u71, u72, u73, u74, u75, u76, u77, u78, u79, u80, u81, u82, u83, u84, u85, u86, u87, u88, u89, u90, u91, u92, u93, u94, u95, u96, u97, u98, u99, u100, u101, u102, u103, u104, u105, u106, u107, u108, u109, u110, u111, u112, u113, u114, u115, u116, u117, u118, u119, u120, u121, u122, u123, u124, u125, u126, u127, u128, u129, u130, u131, u132, u133, u134, u135], []⟩ wr := by
  conv => arg 2; whnf
  unfold Q5
  go_wp2
  go_ret
  exact ⟨rfl, hb⟩

set_option maxRecDepth 100000 in
set_option maxHeartbeats 8000000 in
theorem DI_21 {w wr : World} {nb : Bool} {ab : Option Addr} {B : List Nat} {lb : Nat} {cb : Nat} {g3 : Nat} {g10 : Nat} {gu : Nat} {cu : Nat} {u0 u1 u2 u4 u6 u7 u8 u9 u11 u12 u13 u14 u15 u16 u17 u18 u19 u20 u21 u22 u28 u29 u30 u31 u32 u33 u34 u35 u36 u37 u38 u39 u40 u41 u42 u43 u44 u45 u46 u47 u48 u49 u50 u51 u52 u53 u54 u55 u56 u57 u58 u59 u60 u61 u62 u63 u64 u65 u66 u67 u68 u69 u70 u71 u72 u73 u74 u75 u76 u77 u78 u79 u80 u81 u82 u83 u84 u85 u86 u87 u88 u89 u90 u91 u92 u93 u94 u95 u96 u97 u98 u99 u100 u101 u102 u103 u104 u105 u106 u107 u108 u109 u110 u111 u112 u113 u114 u115 u116 u117 u118 u119 u120 u121 u122 u123 u124 u125 u126 u127 u128 u129 u130 u131 u132 u133 u134 u135 : Value}
    (rB : Rd w ab lb cb B)
    (sB : lb ≤ 1048576)
    (hb : Below w.heap.size w wr)
    (pb : Pr wr g3 24 (.bool nb) (.slice ab lb cb))
    (pu : Pr wr g10 24 (.bool nb) (.slice (some ⟨gu, 0, none⟩) lb cu))
    (lu : Lent w.heap.size wr gu lb cu B) :
    Code.wp Tryd.prog (tail5 21) (Q5 w) ⟨#[u0, u1, u2, .pointer (some ⟨g3, 0, none⟩), u4, .bool true, u6, u7, u8, u9, .pointer (some ⟨g10, 0, none⟩), u11, u12, u13, u14, u15, u16, u17, u18, u19, u20, u21, u22, .bool true, .bool true, .bool true, .bool true, .bool true, u28, u29, u30, u31, u32, u33, u34, u35, u36, u37, u38, u39, u40, u41, u42, u43, u44, u45, u46, u47, u48, u49, u50, u51, u52, u53, u54, u55, u56, u57, u58, u59, u60, u61, u62, u63, u64, u65, u66, u67, u68, u69, u70, u71, u72, u73, u74, u75, u76, u77, u78, u79, u80, u81, u82, u83, u84, u85, u86, u87, u88, u89, u90, u91, u92, u93, u94, u95, u96, u97, u98, u99, u100, u101, u102, u103, u104, u105, u106, u107, u108, u109, u110, u111, u112, u113, u114, u115, u116, u117, u118, u119, u120, u121, u122, u123, u124, u125, u126, u127, u128, u129, u130, u131, u132, u133, u134, u135], []⟩ wr := by
  obtain ⟨kpu0, kpu1, _, _⟩ := two_cells pu
  obtain ⟨kpb0, kpb1, _, _⟩ := two_cells pb
  show Code.wp Tryd.prog (Code.seq (head5 21) (tail5 22)) _ _ _
  conv => arg 2; arg 1; whnf
  go_wp2_with fail
  refine (heldR nb gu cu ab lb cb B w wr rB hb lu (by omega)).mono ?_
  rintro e_ w2 ⟨rfl, hb2, hst⟩
  go_wp2
  exact DI_22 (hb2)

set_option maxRecDepth 100000 in
set_option maxHeartbeats 8000000 in
theorem DI_20 {w wk wr : World} {na : Bool} {nb : Bool} {nx : Bool} {ny : Bool} {aa : Option Addr} {ab : Option Addr} {xo : Option Addr} {yo : Option Addr} {A : List Nat} {B : List Nat} {va : Int} {vb : Int} {e : Int} {la : Nat} {ca : Nat} {lb : Nat} {cb : Nat} {xl : Nat} {xc : Nat} {yl : Nat} {yc : Nat} {g2 : Nat} {g3 : Nat} {g6 : Nat} {g7 : Nat} {g9 : Nat} {g10 : Nat} {gt : Nat} {ct : Nat} {gu : Nat} {cu : Nat} {u0 u1 u4 u11 u12 u13 u14 u15 u16 u17 u18 u19 u20 u21 u22 u27 u28 u29 u30 u31 u32 u33 u34 u35 u36 u37 u38 u39 u40 u41 u42 u43 u44 u45 u46 u47 u48 u49 u50 u51 u52 u53 u54 u55 u56 u57 u58 u59 u60 u61 u62 u63 u64 u65 u66 u67 u68 u69 u70 u71 u72 u73 u74 u75 u76 u77 u78 u79 u80 u81 u82 u83 u84 u85 u86 u87 u88 u89 u90 u91 u92 u93 u94 u95 u96 u97 u98 u99 u100 u101 u102 u103 u104 u105 u106 u107 u108 u109 u110 u111 u112 u113 u114 u115 u116 u117 u118 u119 u120 u121 u122 u123 u124 u125 u126 u127 u128 u129 u130 u131 u132 u133 u134 u135 : Value}
    (rA : Rd w aa la ca A)
    (rB : Rd w ab lb cb B)
    (zA : Hid (aa = none → ca = 0))
    (zB : Hid (ab = none → cb = 0))
    (sA : la ≤ 1048576)
    (sB : lb ≤ 1048576)
    (hva : Hid (num na A = va))
    (hvb : Hid (num nb B = vb))
    (hxl : xl ≤ 33554432)
    (hyl : yl ≤ 33554432)
    (he : Hid (e = if 4096 < xl ∨ 4096 < yl then 10 else if yl = 0 then 11 else 0))
    (hbad : Hid (e = if (tooLong A || tooLong B) = true then 10 else if vb = 0 then 11 else 0))
    (hyz : Hid (yl = 0 ↔ vb = 0))
    (hg : Hid (gt < gu))
    (hbk : Below w.heap.size w wk)
    (pa : Pr wk g2 24 (.bool na) (.slice aa la ca))
    (pb : Pr wk g3 24 (.bool nb) (.slice ab lb cb))
    (px : Pr wk g6 28 (.bool nx) (.slice xo xl xc))
    (bx : Big wk nx xo xl xc va)
    (py : Pr wk g7 28 (.bool ny) (.slice yo yl yc))
    (b_y : Big wk ny yo yl yc vb)
    (pt : Pr wk g9 24 (.bool na) (.slice (some ⟨gt, 0, none⟩) la ct))
    (lt_ : Lent w.heap.size wk gt la ct A)
    (pu : Pr wk g10 24 (.bool nb) (.slice (some ⟨gu, 0, none⟩) lb cu))
    (lu : Lent w.heap.size wk gu lb cu B)
    (hk : Below wk.heap.size wk wr) :
    Code.wp Tryd.prog (tail5 20) (Q5 w) ⟨#[u0, u1, .pointer (some ⟨g2, 0, none⟩), .pointer (some ⟨g3, 0, none⟩), u4, .bool true, .pointer (some ⟨g6, 0, none⟩), .pointer (some ⟨g7, 0, none⟩), .int .i64 e, .pointer (some ⟨g9, 0, none⟩), .pointer (some ⟨g10, 0, none⟩), u11, u12, u13, u14, u15, u16, u17, u18, u19, u20, u21, u22, .bool true, .bool true, .bool true, .bool true, u27, u28, u29, u30, u31, u32, u33, u34, u35, u36, u37, u38, u39, u40, u41, u42, u43, u44, u45, u46, u47, u48, u49, u50, u51, u52, u53, u54, u55, u56, u57, u58, u59, u60, u61, u62, u63, u64, u65, u66, u67, u68, u69, u70, u71, u72, u73, u74, u75, u76, u77, u78, u79, u80, u81, u82, u83, u84, u85, u86, u87, u88, u89, u90, u91, u92, u93, u94, u95, u96, u97, u98, u99, u100, u101, u102, u103, u104, u105, u106, u107, u108, u109, u110, u111, u112, u113, u114, u115, u116, u117, u118, u119, u120, u121, u122, u123, u124, u125, u126, u127, u128, u129, u130, u131, u132, u133, u134, u135], []⟩ wr := by
  have pa' := pa.keep hk
  have pb' := pb.keep hk
  have pt' := pt.keep hk
  have pu' := pu.keep hk
  have lt' := lt_.keep hk
  have lu' := lu.keep hk
  obtain ⟨a0, a1, _, _⟩ := two_cells pa'
  obtain ⟨t0, t1, _, _⟩ := two_cells pt'
  have n1 := lt'.apart pb'
  have n2 := lt'.apart pu'
  have hbW := hbk.trans (hk.mono hbk.size)
  show Code.wp Tryd.prog (Code.seq (head5 20) (tail5 21)) _ _ _
  conv => arg 2; arg 1; whnf
  go_wp2_with fail
  refine (heldR na gt ct aa la ca A w _ rA hbW lt' (by omega)).mono ?_
  rintro e_ w6 ⟨rfl, hb6, hst⟩
  have pb6 := (hst _ pb'.lt n1).trans pb'
  have pu6 := (hst _ pu'.lt n2).trans pu'
  have lu6 := lu'.same (hst _ lu'.ge.2 (by have := hg.out; omega))
  go_wp2
  exact DI_21 (rB) (sB) (hb6) (pb6) (pu6) (lu6)

set_option maxRecDepth 100000 in
set_option maxHeartbeats 8000000 in
theorem DI_19 {w wk wr : World} {na : Bool} {nb : Bool} {nx : Bool} {ny : Bool} {nl : Bool} {aa : Option Addr} {ab : Option Addr} {xo : Option Addr} {yo : Option Addr} {lo : Option Addr} {A : List Nat} {B : List Nat} {va : Int} {vb : Int} {e : Int} {vv : Int} {ww : Int} {kv : Int} {lv : Int} {la : Nat} {ca : Nat} {lb : Nat} {cb : Nat} {xl : Nat} {xc : Nat} {yl : Nat} {yc : Nat} {g2 : Nat} {g3 : Nat} {g6 : Nat} {g7 : Nat} {g9 : Nat} {g10 : Nat} {gt : Nat} {ct : Nat} {gu : Nat} {cu : Nat} {g20 : Nat} {ll : Nat} {lc : Nat} {vq : Int} {vr : Int} {vd : Int} {vm : Int} {cd : Int} {gm lm : Nat} {nm : Bool} {om : Option Addr} {u0 u1 u4 u11 u12 u13 u14 u17 u18 u19 u26 u27 u28 u29 u30 u31 u32 u33 u34 u35 u36 u37 u38 u39 u40 u41 u42 u43 u44 u45 u46 u47 u48 u49 u50 u51 u52 u53 u54 u55 u56 u57 u58 u59 u60 u61 u62 u63 u64 u65 u66 u67 u68 u69 u70 u71 u72 u73 u74 u75 u76 u77 u78 u79 u80 u81 u82 u83 u84 u85 u86 u87 u88 u89 u90 u91 u92 u93 u94 u95 u96 u97 u98 u99 u100 u101 u102 u103 u104 u105 u106 u107 u108 u109 u110 u111 u112 u113 u114 u115 u116 u117 u118 u119 u120 u121 u122 u123 u124 u125 u126 u127 u128 u129 u130 u131 u132 u133 u134 u135 : Value}
    (rA : Rd w aa la ca A)
    (rB : Rd w ab lb cb B)
    (zA : Hid (aa = none → ca = 0))
    (zB : Hid (ab = none → cb = 0))
    (sA : la ≤ 1048576)
    (sB : lb ≤ 1048576)
    (hva : Hid (num na A = va))
    (hvb : Hid (num nb B = vb))
    (hxl : xl ≤ 33554432)
    (hyl : yl ≤ 33554432)
    (he : Hid (e = if 4096 < xl ∨ 4096 < yl then 10 else if yl = 0 then 11 else 0))
    (hbad : Hid (e = if (tooLong A || tooLong B) = true then 10 else if vb = 0 then 11 else 0))
    (hyz : Hid (yl = 0 ↔ vb = 0))
    (hg : Hid (gt < gu))
    (hT1 : Hid (e = 0 → TruncDiv va vb vq vr))
    (hF1 : Hid (e = 0 → Floors va vb vd vm))
    (hT2 : Hid (e = 0 → TruncDiv va vb vv ww))
    (hF2 : Hid (e = 0 → Floors va vb kv lv))
    (hbk : Below w.heap.size w wk)
    (pa : Pr wk g2 24 (.bool na) (.slice aa la ca))
    (pb : Pr wk g3 24 (.bool nb) (.slice ab lb cb))
    (px : Pr wk g6 28 (.bool nx) (.slice xo xl xc))
    (bx : Big wk nx xo xl xc va)
    (py : Pr wk g7 28 (.bool ny) (.slice yo yl yc))
    (b_y : Big wk ny yo yl yc vb)
    (pt : Pr wk g9 24 (.bool na) (.slice (some ⟨gt, 0, none⟩) la ct))
    (lt_ : Lent w.heap.size wk gt la ct A)
    (pu : Pr wk g10 24 (.bool nb) (.slice (some ⟨gu, 0, none⟩) lb cu))
    (lu : Lent w.heap.size wk gu lb cu B)
    (hk : Below wk.heap.size wk wr)
    (dm : Aw wk.heap.size wr gm nm om lm cd e (vm))
    (pl : Pr wr g20 28 (.bool nl) (.slice lo ll lc))
    (bl_ : Big wr nl lo ll lc lv) :
    Code.wp Tryd.prog (tail5 19) (Q5 w) ⟨#[u0, u1, .pointer (some ⟨g2, 0, none⟩), .pointer (some ⟨g3, 0, none⟩), u4, .bool true, .pointer (some ⟨g6, 0, none⟩), .pointer (some ⟨g7, 0, none⟩), .int .i64 e, .pointer (some ⟨g9, 0, none⟩), .pointer (some ⟨g10, 0, none⟩), u11, u12, u13, u14, .pointer (some ⟨gm, 0, none⟩), .int .i64 cd, u17, u18, u19, .pointer (some ⟨g20, 0, none⟩), .int .i64 e, .int .i64 e, .bool true, .bool true, .bool true, u26, u27, u28, u29, u30, u31, u32, u33, u34, u35, u36, u37, u38, u39, u40, u41, u42, u43, u44, u45, u46, u47, u48, u49, u50, u51, u52, u53, u54, u55, u56, u57, u58, u59, u60, u61, u62, u63, u64, u65, u66, u67, u68, u69, u70, u71, u72, u73, u74, u75, u76, u77, u78, u79, u80, u81, u82, u83, u84, u85, u86, u87, u88, u89, u90, u91, u92, u93, u94, u95, u96, u97, u98, u99, u100, u101, u102, u103, u104, u105, u106, u107, u108, u109, u110, u111, u112, u113, u114, u115, u116, u117, u118, u119, u120, u121, u122, u123, u124, u125, u126, u127, u128, u129, u130, u131, u132, u133, u134, u135], []⟩ wr := by
  obtain ⟨kc0, kc1, _, _⟩ := two_cells dm.box
  obtain ⟨kv0, kv1, _, _⟩ := two_cells pl
  have hu := dm.ans.u32
  show Code.wp Tryd.prog (Code.seq (head5 19) (tail5 20)) _ _ _
  conv => arg 2; arg 1; whnf
  go_wp2_with (go_at_call 38; (with_reducible refine (isA hk dm.ans bl_ (fun h => (floors_one (hF1.out h) (hF2.out h)).2)).mono ?_); rintro r w5 ⟨rfl, hbW, hst, hsz⟩)
  exact DI_20 (rA) (rB) (zA) (zB) (sA) (sB) (hva) (hvb) (hxl) (hyl) (he) (hbad) (hyz) (hg) (hbk) (pa) (pb) (px) (bx) (py) (b_y) (pt) (lt_) (pu) (lu) (hbW)

set_option maxRecDepth 100000 in
set_option maxHeartbeats 8000000 in
theorem DI_18 {w wk wr : World} {na : Bool} {nb : Bool} {nx : Bool} {ny : Bool} {nk : Bool} {nl : Bool} {aa : Option Addr} {ab : Option Addr} {xo : Option Addr} {yo : Option Addr} {ko : Option Addr} {lo : Option Addr} {A : List Nat} {B : List Nat} {va : Int} {vb : Int} {e : Int} {vv : Int} {ww : Int} {kv : Int} {lv : Int} {la : Nat} {ca : Nat} {lb : Nat} {cb : Nat} {xl : Nat} {xc : Nat} {yl : Nat} {yc : Nat} {g2 : Nat} {g3 : Nat} {g6 : Nat} {g7 : Nat} {g9 : Nat} {g10 : Nat} {gt : Nat} {ct : Nat} {gu : Nat} {cu : Nat} {g19 : Nat} {g20 : Nat} {kl : Nat} {kc : Nat} {ll : Nat} {lc : Nat} {vq : Int} {vr : Int} {vd : Int} {vm : Int} {cd : Int} {gd ld : Nat} {nd : Bool} {od : Option Addr} {gm lm : Nat} {nm : Bool} {om : Option Addr} {u0 u1 u4 u11 u12 u13 u17 u18 u25 u26 u27 u28 u29 u30 u31 u32 u33 u34 u35 u36 u37 u38 u39 u40 u41 u42 u43 u44 u45 u46 u47 u48 u49 u50 u51 u52 u53 u54 u55 u56 u57 u58 u59 u60 u61 u62 u63 u64 u65 u66 u67 u68 u69 u70 u71 u72 u73 u74 u75 u76 u77 u78 u79 u80 u81 u82 u83 u84 u85 u86 u87 u88 u89 u90 u91 u92 u93 u94 u95 u96 u97 u98 u99 u100 u101 u102 u103 u104 u105 u106 u107 u108 u109 u110 u111 u112 u113 u114 u115 u116 u117 u118 u119 u120 u121 u122 u123 u124 u125 u126 u127 u128 u129 u130 u131 u132 u133 u134 u135 : Value}
    (rA : Rd w aa la ca A)
    (rB : Rd w ab lb cb B)
    (zA : Hid (aa = none → ca = 0))
    (zB : Hid (ab = none → cb = 0))
    (sA : la ≤ 1048576)
    (sB : lb ≤ 1048576)
    (hva : Hid (num na A = va))
    (hvb : Hid (num nb B = vb))
    (hxl : xl ≤ 33554432)
    (hyl : yl ≤ 33554432)
    (he : Hid (e = if 4096 < xl ∨ 4096 < yl then 10 else if yl = 0 then 11 else 0))
    (hbad : Hid (e = if (tooLong A || tooLong B) = true then 10 else if vb = 0 then 11 else 0))
    (hyz : Hid (yl = 0 ↔ vb = 0))
    (hg : Hid (gt < gu))
    (hT1 : Hid (e = 0 → TruncDiv va vb vq vr))
    (hF1 : Hid (e = 0 → Floors va vb vd vm))
    (hT2 : Hid (e = 0 → TruncDiv va vb vv ww))
    (hF2 : Hid (e = 0 → Floors va vb kv lv))
    (hbk : Below w.heap.size w wk)
    (pa : Pr wk g2 24 (.bool na) (.slice aa la ca))
    (pb : Pr wk g3 24 (.bool nb) (.slice ab lb cb))
    (px : Pr wk g6 28 (.bool nx) (.slice xo xl xc))
    (bx : Big wk nx xo xl xc va)
    (py : Pr wk g7 28 (.bool ny) (.slice yo yl yc))
    (b_y : Big wk ny yo yl yc vb)
    (pt : Pr wk g9 24 (.bool na) (.slice (some ⟨gt, 0, none⟩) la ct))
    (lt_ : Lent w.heap.size wk gt la ct A)
    (pu : Pr wk g10 24 (.bool nb) (.slice (some ⟨gu, 0, none⟩) lb cu))
    (lu : Lent w.heap.size wk gu lb cu B)
    (hk : Below wk.heap.size wk wr)
    (dd : Aw wk.heap.size wr gd nd od ld cd e (vd))
    (dm : Aw wk.heap.size wr gm nm om lm cd e (vm))
    (qdm : Disj od om)
    (pk : Pr wr g19 28 (.bool nk) (.slice ko kl kc))
    (bk : Big wr nk ko kl kc kv)
    (pl : Pr wr g20 28 (.bool nl) (.slice lo ll lc))
    (bl_ : Big wr nl lo ll lc lv) :
    Code.wp Tryd.prog (tail5 18) (Q5 w) ⟨#[u0, u1, .pointer (some ⟨g2, 0, none⟩), .pointer (some ⟨g3, 0, none⟩), u4, .bool true, .pointer (some ⟨g6, 0, none⟩), .pointer (some ⟨g7, 0, none⟩), .int .i64 e, .pointer (some ⟨g9, 0, none⟩), .pointer (some ⟨g10, 0, none⟩), u11, u12, u13, .pointer (some ⟨gd, 0, none⟩), .pointer (some ⟨gm, 0, none⟩), .int .i64 cd, u17, u18, .pointer (some ⟨g19, 0, none⟩), .pointer (some ⟨g20, 0, none⟩), .int .i64 e, .int .i64 e, .bool true, .bool true, u25, u26, u27, u28, u29, u30, u31, u32, u33, u34, u35, u36, u37, u38, u39, u40, u41, u42, u43, u44, u45, u46, u47, u48, u49, u50, u51, u52, u53, u54, u55, u56, u57, u58, u59, u60, u61, u62, u63, u64, u65, u66, u67, u68, u69, u70, u71, u72, u73, u74, u75, u76, u77, u78, u79, u80, u81, u82, u83, u84, u85, u86, u87, u88, u89, u90, u91, u92, u93, u94, u95, u96, u97, u98, u99, u100, u101, u102, u103, u104, u105, u106, u107, u108, u109, u110, u111, u112, u113, u114, u115, u116, u117, u118, u119, u120, u121, u122, u123, u124, u125, u126, u127, u128, u129, u130, u131, u132, u133, u134, u135], []⟩ wr := by
  obtain ⟨kc0, kc1, _, _⟩ := two_cells dd.box
  obtain ⟨kv0, kv1, _, _⟩ := two_cells pk
  have hu := dd.ans.u32
  show Code.wp Tryd.prog (Code.seq (head5 18) (tail5 19)) _ _ _
  conv => arg 2; arg 1; whnf
  go_wp2_with (go_at_call 38; (with_reducible refine (isA hk dd.ans bk (fun h => (floors_one (hF1.out h) (hF2.out h)).1)).mono ?_); rintro r w5 ⟨rfl, hbW, hst, hsz⟩)
  exact DI_19 (rA) (rB) (zA) (zB) (sA) (sB) (hva) (hvb) (hxl) (hyl) (he) (hbad) (hyz) (hg) (hT1) (hF1) (hT2) (hF2) (hbk) (pa) (pb) (px) (bx) (py) (b_y) (pt) (lt_) (pu) (lu) (hbW) (dm.keepA hu hst qdm) (pl.keepA (by decide) hu hst) (bl_.keepA hu hst)

set_option maxRecDepth 100000 in
set_option maxHeartbeats 8000000 in
theorem DI_17 {w wk wr : World} {na : Bool} {nb : Bool} {nx : Bool} {ny : Bool} {nw : Bool} {nk : Bool} {nl : Bool} {aa : Option Addr} {ab : Option Addr} {xo : Option Addr} {yo : Option Addr} {wo : Option Addr} {ko : Option Addr} {lo : Option Addr} {A : List Nat} {B : List Nat} {va : Int} {vb : Int} {e : Int} {vv : Int} {ww : Int} {kv : Int} {lv : Int} {la : Nat} {ca : Nat} {lb : Nat} {cb : Nat} {xl : Nat} {xc : Nat} {yl : Nat} {yc : Nat} {g2 : Nat} {g3 : Nat} {g6 : Nat} {g7 : Nat} {g9 : Nat} {g10 : Nat} {gt : Nat} {ct : Nat} {gu : Nat} {cu : Nat} {g18 : Nat} {g19 : Nat} {g20 : Nat} {wl : Nat} {wc : Nat} {kl : Nat} {kc : Nat} {ll : Nat} {lc : Nat} {vq : Int} {vr : Int} {cq : Int} {vd : Int} {vm : Int} {cd : Int} {gr lr : Nat} {nr : Bool} {or : Option Addr} {gd ld : Nat} {nd : Bool} {od : Option Addr} {gm lm : Nat} {nm : Bool} {om : Option Addr} {u0 u1 u4 u11 u17 u24 u25 u26 u27 u28 u29 u30 u31 u32 u33 u34 u35 u36 u37 u38 u39 u40 u41 u42 u43 u44 u45 u46 u47 u48 u49 u50 u51 u52 u53 u54 u55 u56 u57 u58 u59 u60 u61 u62 u63 u64 u65 u66 u67 u68 u69 u70 u71 u72 u73 u74 u75 u76 u77 u78 u79 u80 u81 u82 u83 u84 u85 u86 u87 u88 u89 u90 u91 u92 u93 u94 u95 u96 u97 u98 u99 u100 u101 u102 u103 u104 u105 u106 u107 u108 u109 u110 u111 u112 u113 u114 u115 u116 u117 u118 u119 u120 u121 u122 u123 u124 u125 u126 u127 u128 u129 u130 u131 u132 u133 u134 u135 : Value}
    (rA : Rd w aa la ca A)
    (rB : Rd w ab lb cb B)
    (zA : Hid (aa = none → ca = 0))
    (zB : Hid (ab = none → cb = 0))
    (sA : la ≤ 1048576)
    (sB : lb ≤ 1048576)
    (hva : Hid (num na A = va))
    (hvb : Hid (num nb B = vb))
    (hxl : xl ≤ 33554432)
    (hyl : yl ≤ 33554432)
    (he : Hid (e = if 4096 < xl ∨ 4096 < yl then 10 else if yl = 0 then 11 else 0))
    (hbad : Hid (e = if (tooLong A || tooLong B) = true then 10 else if vb = 0 then 11 else 0))
    (hyz : Hid (yl = 0 ↔ vb = 0))
    (hg : Hid (gt < gu))
    (hT1 : Hid (e = 0 → TruncDiv va vb vq vr))
    (hF1 : Hid (e = 0 → Floors va vb vd vm))
    (hT2 : Hid (e = 0 → TruncDiv va vb vv ww))
    (hF2 : Hid (e = 0 → Floors va vb kv lv))
    (hbk : Below w.heap.size w wk)
    (pa : Pr wk g2 24 (.bool na) (.slice aa la ca))
    (pb : Pr wk g3 24 (.bool nb) (.slice ab lb cb))
    (px : Pr wk g6 28 (.bool nx) (.slice xo xl xc))
    (bx : Big wk nx xo xl xc va)
    (py : Pr wk g7 28 (.bool ny) (.slice yo yl yc))
    (b_y : Big wk ny yo yl yc vb)
    (pt : Pr wk g9 24 (.bool na) (.slice (some ⟨gt, 0, none⟩) la ct))
    (lt_ : Lent w.heap.size wk gt la ct A)
    (pu : Pr wk g10 24 (.bool nb) (.slice (some ⟨gu, 0, none⟩) lb cu))
    (lu : Lent w.heap.size wk gu lb cu B)
    (hk : Below wk.heap.size wk wr)
    (dr : Aw wk.heap.size wr gr nr or lr cq e (vr))
    (dd : Aw wk.heap.size wr gd nd od ld cd e (vd))
    (dm : Aw wk.heap.size wr gm nm om lm cd e (vm))
    (qrd : Disj or od)
    (qrm : Disj or om)
    (qdm : Disj od om)
    (pw : Pr wr g18 28 (.bool nw) (.slice wo wl wc))
    (bw : Big wr nw wo wl wc ww)
    (pk : Pr wr g19 28 (.bool nk) (.slice ko kl kc))
    (bk : Big wr nk ko kl kc kv)
    (pl : Pr wr g20 28 (.bool nl) (.slice lo ll lc))
    (bl_ : Big wr nl lo ll lc lv) :
    Code.wp Tryd.prog (tail5 17) (Q5 w) ⟨#[u0, u1, .pointer (some ⟨g2, 0, none⟩), .pointer (some ⟨g3, 0, none⟩), u4, .bool true, .pointer (some ⟨g6, 0, none⟩), .pointer (some ⟨g7, 0, none⟩), .int .i64 e, .pointer (some ⟨g9, 0, none⟩), .pointer (some ⟨g10, 0, none⟩), u11, .pointer (some ⟨gr, 0, none⟩), .int .i64 cq, .pointer (some ⟨gd, 0, none⟩), .pointer (some ⟨gm, 0, none⟩), .int .i64 cd, u17, .pointer (some ⟨g18, 0, none⟩), .pointer (some ⟨g19, 0, none⟩), .pointer (some ⟨g20, 0, none⟩), .int .i64 e, .int .i64 e, .bool true, u24, u25, u26, u27, u28, u29, u30, u31, u32, u33, u34, u35, u36, u37, u38, u39, u40, u41, u42, u43, u44, u45, u46, u47, u48, u49, u50, u51, u52, u53, u54, u55, u56, u57, u58, u59, u60, u61, u62, u63, u64, u65, u66, u67, u68, u69, u70, u71, u72, u73, u74, u75, u76, u77, u78, u79, u80, u81, u82, u83, u84, u85, u86, u87, u88, u89, u90, u91, u92, u93, u94, u95, u96, u97, u98, u99, u100, u101, u102, u103, u104, u105, u106, u107, u108, u109, u110, u111, u112, u113, u114, u115, u116, u117, u118, u119, u120, u121, u122, u123, u124, u125, u126, u127, u128, u129, u130, u131, u132, u133, u134, u135], []⟩ wr := by
  obtain ⟨kc0, kc1, _, _⟩ := two_cells dr.box
  obtain ⟨kv0, kv1, _, _⟩ := two_cells pw
  have hu := dr.ans.u32
  show Code.wp Tryd.prog (Code.seq (head5 17) (tail5 18)) _ _ _
  conv => arg 2; arg 1; whnf
  go_wp2_with (go_at_call 38; (with_reducible refine (isA hk dr.ans bw (fun h => (trunc_one (hT1.out h) (hT2.out h)).2)).mono ?_); rintro r w5 ⟨rfl, hbW, hst, hsz⟩)
  exact DI_18 (rA) (rB) (zA) (zB) (sA) (sB) (hva) (hvb) (hxl) (hyl) (he) (hbad) (hyz) (hg) (hT1) (hF1) (hT2) (hF2) (hbk) (pa) (pb) (px) (bx) (py) (b_y) (pt) (lt_) (pu) (lu) (hbW) (dd.keepA hu hst qrd) (dm.keepA hu hst qrm) (qdm) (pk.keepA (by decide) hu hst) (bk.keepA hu hst) (pl.keepA (by decide) hu hst) (bl_.keepA hu hst)

set_option maxRecDepth 100000 in
set_option maxHeartbeats 8000000 in
theorem DI_16 {w wk wr : World} {na : Bool} {nb : Bool} {nx : Bool} {ny : Bool} {nv : Bool} {nw : Bool} {nk : Bool} {nl : Bool} {aa : Option Addr} {ab : Option Addr} {xo : Option Addr} {yo : Option Addr} {vo : Option Addr} {wo : Option Addr} {ko : Option Addr} {lo : Option Addr} {A : List Nat} {B : List Nat} {va : Int} {vb : Int} {e : Int} {vv : Int} {ww : Int} {kv : Int} {lv : Int} {la : Nat} {ca : Nat} {lb : Nat} {cb : Nat} {xl : Nat} {xc : Nat} {yl : Nat} {yc : Nat} {g2 : Nat} {g3 : Nat} {g6 : Nat} {g7 : Nat} {g9 : Nat} {g10 : Nat} {gt : Nat} {ct : Nat} {gu : Nat} {cu : Nat} {g17 : Nat} {g18 : Nat} {g19 : Nat} {g20 : Nat} {vl : Nat} {vc : Nat} {wl : Nat} {wc : Nat} {kl : Nat} {kc : Nat} {ll : Nat} {lc : Nat} {vq : Int} {vr : Int} {cq : Int} {vd : Int} {vm : Int} {cd : Int} {gq lq : Nat} {nq : Bool} {oq : Option Addr} {gr lr : Nat} {nr : Bool} {or : Option Addr} {gd ld : Nat} {nd : Bool} {od : Option Addr} {gm lm : Nat} {nm : Bool} {om : Option Addr} {u0 u1 u4 u23 u24 u25 u26 u27 u28 u29 u30 u31 u32 u33 u34 u35 u36 u37 u38 u39 u40 u41 u42 u43 u44 u45 u46 u47 u48 u49 u50 u51 u52 u53 u54 u55 u56 u57 u58 u59 u60 u61 u62 u63 u64 u65 u66 u67 u68 u69 u70 u71 u72 u73 u74 u75 u76 u77 u78 u79 u80 u81 u82 u83 u84 u85 u86 u87 u88 u89 u90 u91 u92 u93 u94 u95 u96 u97 u98 u99 u100 u101 u102 u103 u104 u105 u106 u107 u108 u109 u110 u111 u112 u113 u114 u115 u116 u117 u118 u119 u120 u121 u122 u123 u124 u125 u126 u127 u128 u129 u130 u131 u132 u133 u134 u135 : Value}
    (rA : Rd w aa la ca A)
    (rB : Rd w ab lb cb B)
    (zA : Hid (aa = none → ca = 0))
    (zB : Hid (ab = none → cb = 0))
    (sA : la ≤ 1048576)
    (sB : lb ≤ 1048576)
    (hva : Hid (num na A = va))
    (hvb : Hid (num nb B = vb))
    (hxl : xl ≤ 33554432)
    (hyl : yl ≤ 33554432)
    (he : Hid (e = if 4096 < xl ∨ 4096 < yl then 10 else if yl = 0 then 11 else 0))
    (hbad : Hid (e = if (tooLong A || tooLong B) = true then 10 else if vb = 0 then 11 else 0))
    (hyz : Hid (yl = 0 ↔ vb = 0))
    (hg : Hid (gt < gu))
    (hT1 : Hid (e = 0 → TruncDiv va vb vq vr))
    (hF1 : Hid (e = 0 → Floors va vb vd vm))
    (hT2 : Hid (e = 0 → TruncDiv va vb vv ww))
    (hF2 : Hid (e = 0 → Floors va vb kv lv))
    (hbk : Below w.heap.size w wk)
    (pa : Pr wk g2 24 (.bool na) (.slice aa la ca))
    (pb : Pr wk g3 24 (.bool nb) (.slice ab lb cb))
    (px : Pr wk g6 28 (.bool nx) (.slice xo xl xc))
    (bx : Big wk nx xo xl xc va)
    (py : Pr wk g7 28 (.bool ny) (.slice yo yl yc))
    (b_y : Big wk ny yo yl yc vb)
    (pt : Pr wk g9 24 (.bool na) (.slice (some ⟨gt, 0, none⟩) la ct))
    (lt_ : Lent w.heap.size wk gt la ct A)
    (pu : Pr wk g10 24 (.bool nb) (.slice (some ⟨gu, 0, none⟩) lb cu))
    (lu : Lent w.heap.size wk gu lb cu B)
    (hk : Below wk.heap.size wk wr)
    (dq : Aw wk.heap.size wr gq nq oq lq cq e (vq))
    (dr : Aw wk.heap.size wr gr nr or lr cq e (vr))
    (dd : Aw wk.heap.size wr gd nd od ld cd e (vd))
    (dm : Aw wk.heap.size wr gm nm om lm cd e (vm))
    (qqr : Disj oq or)
    (qqd : Disj oq od)
    (qqm : Disj oq om)
    (qrd : Disj or od)
    (qrm : Disj or om)
    (qdm : Disj od om)
    (pv : Pr wr g17 28 (.bool nv) (.slice vo vl vc))
    (bv_ : Big wr nv vo vl vc vv)
    (pw : Pr wr g18 28 (.bool nw) (.slice wo wl wc))
    (bw : Big wr nw wo wl wc ww)
    (pk : Pr wr g19 28 (.bool nk) (.slice ko kl kc))
    (bk : Big wr nk ko kl kc kv)
    (pl : Pr wr g20 28 (.bool nl) (.slice lo ll lc))
    (bl_ : Big wr nl lo ll lc lv) :
    Code.wp Tryd.prog (tail5 16) (Q5 w) ⟨#[u0, u1, .pointer (some ⟨g2, 0, none⟩), .pointer (some ⟨g3, 0, none⟩), u4, .bool true, .pointer (some ⟨g6, 0, none⟩), .pointer (some ⟨g7, 0, none⟩), .int .i64 e, .pointer (some ⟨g9, 0, none⟩), .pointer (some ⟨g10, 0, none⟩), .pointer (some ⟨gq, 0, none⟩), .pointer (some ⟨gr, 0, none⟩), .int .i64 cq, .pointer (some ⟨gd, 0, none⟩), .pointer (some ⟨gm, 0, none⟩), .int .i64 cd, .pointer (some ⟨g17, 0, none⟩), .pointer (some ⟨g18, 0, none⟩), .pointer (some ⟨g19, 0, none⟩), .pointer (some ⟨g20, 0, none⟩), .int .i64 e, .int .i64 e, u23, u24, u25, u26, u27, u28, u29, u30, u31, u32, u33, u34, u35, u36, u37, u38, u39, u40, u41, u42, u43, u44, u45, u46, u47, u48, u49, u50, u51, u52, u53, u54, u55, u56, u57, u58, u59, u60, u61, u62, u63, u64, u65, u66, u67, u68, u69, u70, u71, u72, u73, u74, u75, u76, u77, u78, u79, u80, u81, u82, u83, u84, u85, u86, u87, u88, u89, u90, u91, u92, u93, u94, u95, u96, u97, u98, u99, u100, u101, u102, u103, u104, u105, u106, u107, u108, u109, u110, u111, u112, u113, u114, u115, u116, u117, u118, u119, u120, u121, u122, u123, u124, u125, u126, u127, u128, u129, u130, u131, u132, u133, u134, u135], []⟩ wr := by
  obtain ⟨kc0, kc1, _, _⟩ := two_cells dq.box
  obtain ⟨kv0, kv1, _, _⟩ := two_cells pv
  have hu := dq.ans.u32
  show Code.wp Tryd.prog (Code.seq (head5 16) (tail5 17)) _ _ _
  conv => arg 2; arg 1; whnf
  go_wp2_with (go_at_call 38; (with_reducible refine (isA hk dq.ans bv_ (fun h => (trunc_one (hT1.out h) (hT2.out h)).1)).mono ?_); rintro r w5 ⟨rfl, hbW, hst, hsz⟩)
  exact DI_17 (rA) (rB) (zA) (zB) (sA) (sB) (hva) (hvb) (hxl) (hyl) (he) (hbad) (hyz) (hg) (hT1) (hF1) (hT2) (hF2) (hbk) (pa) (pb) (px) (bx) (py) (b_y) (pt) (lt_) (pu) (lu) (hbW) (dr.keepA hu hst qqr) (dd.keepA hu hst qqd) (dm.keepA hu hst qqm) (qrd) (qrm) (qdm) (pw.keepA (by decide) hu hst) (bw.keepA hu hst) (pk.keepA (by decide) hu hst) (bk.keepA hu hst) (pl.keepA (by decide) hu hst) (bl_.keepA hu hst)

set_option maxRecDepth 100000 in
set_option maxHeartbeats 8000000 in
theorem DI_15 {w wk wr : World} {na : Bool} {nb : Bool} {nx : Bool} {ny : Bool} {nv : Bool} {nw : Bool} {nk : Bool} {nl : Bool} {aa : Option Addr} {ab : Option Addr} {xo : Option Addr} {yo : Option Addr} {vo : Option Addr} {wo : Option Addr} {ko : Option Addr} {lo : Option Addr} {A : List Nat} {B : List Nat} {va : Int} {vb : Int} {e : Int} {vv : Int} {ww : Int} {kv : Int} {lv : Int} {la : Nat} {ca : Nat} {lb : Nat} {cb : Nat} {xl : Nat} {xc : Nat} {yl : Nat} {yc : Nat} {g2 : Nat} {g3 : Nat} {g6 : Nat} {g7 : Nat} {g9 : Nat} {g10 : Nat} {gt : Nat} {ct : Nat} {gu : Nat} {cu : Nat} {g17 : Nat} {g18 : Nat} {g19 : Nat} {g20 : Nat} {vl : Nat} {vc : Nat} {wl : Nat} {wc : Nat} {kl : Nat} {kc : Nat} {ll : Nat} {lc : Nat} {vq : Int} {vr : Int} {cq : Int} {vd : Int} {vm : Int} {cd : Int} {gq lq : Nat} {nq : Bool} {oq : Option Addr} {gr lr : Nat} {nr : Bool} {or : Option Addr} {gd ld : Nat} {nd : Bool} {od : Option Addr} {gm lm : Nat} {nm : Bool} {om : Option Addr} {u0 u1 u4 u23 u24 u25 u26 u27 u28 u29 u30 u31 u32 u33 u34 u35 u36 u37 u38 u39 u40 u41 u42 u43 u44 u45 u46 u47 u48 u49 u50 u51 u52 u53 u54 u55 u56 u57 u58 u59 u60 u61 u62 u63 u64 u65 u66 u67 u68 u69 u70 u71 u72 u73 u74 u75 u76 u77 u78 u79 u80 u81 u82 u83 u84 u85 u86 u87 u88 u89 u90 u91 u92 u93 u94 u95 u96 u97 u98 u99 u100 u101 u102 u103 u104 u105 u106 u107 u108 u109 u110 u111 u112 u113 u114 u115 u116 u117 u118 u119 u120 u121 u122 u123 u124 u125 u126 u127 u128 u129 u130 u131 u132 u133 u134 u135 : Value}
    (rA : Rd w aa la ca A)
    (rB : Rd w ab lb cb B)
    (zA : Hid (aa = none → ca = 0))
    (zB : Hid (ab = none → cb = 0))
    (sA : la ≤ 1048576)
    (sB : lb ≤ 1048576)
    (hva : Hid (num na A = va))
    (hvb : Hid (num nb B = vb))
    (hxl : xl ≤ 33554432)
    (hyl : yl ≤ 33554432)
    (he : Hid (e = if 4096 < xl ∨ 4096 < yl then 10 else if yl = 0 then 11 else 0))
    (hbad : Hid (e = if (tooLong A || tooLong B) = true then 10 else if vb = 0 then 11 else 0))
    (hyz : Hid (yl = 0 ↔ vb = 0))
    (hg : Hid (gt < gu))
    (hT1 : Hid (e = 0 → TruncDiv va vb vq vr))
    (hF1 : Hid (e = 0 → Floors va vb vd vm))
    (hT2 : Hid (e = 0 → TruncDiv va vb vv ww))
    (hF2 : Hid (e = 0 → Floors va vb kv lv))
    (hbk : Below w.heap.size w wk)
    (pa : Pr wk g2 24 (.bool na) (.slice aa la ca))
    (pb : Pr wk g3 24 (.bool nb) (.slice ab lb cb))
    (px : Pr wk g6 28 (.bool nx) (.slice xo xl xc))
    (bx : Big wk nx xo xl xc va)
    (py : Pr wk g7 28 (.bool ny) (.slice yo yl yc))
    (b_y : Big wk ny yo yl yc vb)
    (pt : Pr wk g9 24 (.bool na) (.slice (some ⟨gt, 0, none⟩) la ct))
    (lt_ : Lent w.heap.size wk gt la ct A)
    (pu : Pr wk g10 24 (.bool nb) (.slice (some ⟨gu, 0, none⟩) lb cu))
    (lu : Lent w.heap.size wk gu lb cu B)
    (hk : Below wk.heap.size wk wr)
    (dq : Aw wk.heap.size wr gq nq oq lq cq e (vq))
    (dr : Aw wk.heap.size wr gr nr or lr cq e (vr))
    (dd : Aw wk.heap.size wr gd nd od ld cd e (vd))
    (dm : Aw wk.heap.size wr gm nm om lm cd e (vm))
    (qqr : Disj oq or)
    (qqd : Disj oq od)
    (qqm : Disj oq om)
    (qrd : Disj or od)
    (qrm : Disj or om)
    (qdm : Disj od om)
    (pv : Pr wr g17 28 (.bool nv) (.slice vo vl vc))
    (bv_ : Big wr nv vo vl vc vv)
    (pw : Pr wr g18 28 (.bool nw) (.slice wo wl wc))
    (bw : Big wr nw wo wl wc ww)
    (pk : Pr wr g19 28 (.bool nk) (.slice ko kl kc))
    (bk : Big wr nk ko kl kc kv)
    (pl : Pr wr g20 28 (.bool nl) (.slice lo ll lc))
    (bl_ : Big wr nl lo ll lc lv) :
    Code.wp Tryd.prog (tail5 15) (Q5 w) ⟨#[u0, u1, .pointer (some ⟨g2, 0, none⟩), .pointer (some ⟨g3, 0, none⟩), u4, .bool true, .pointer (some ⟨g6, 0, none⟩), .pointer (some ⟨g7, 0, none⟩), .int .i64 e, .pointer (some ⟨g9, 0, none⟩), .pointer (some ⟨g10, 0, none⟩), .pointer (some ⟨gq, 0, none⟩), .pointer (some ⟨gr, 0, none⟩), .int .i64 cq, .pointer (some ⟨gd, 0, none⟩), .pointer (some ⟨gm, 0, none⟩), .int .i64 cd, .pointer (some ⟨g17, 0, none⟩), .pointer (some ⟨g18, 0, none⟩), .pointer (some ⟨g19, 0, none⟩), .pointer (some ⟨g20, 0, none⟩), .int .i64 e, .int .i64 e, u23, u24, u25, u26, u27, u28, u29, u30, u31, u32, u33, u34, u35, u36, u37, u38, u39, u40, u41, u42, u43, u44, u45, u46, u47, u48, u49, u50, u51, u52, u53, u54, u55, u56, u57, u58, u59, u60, u61, u62, u63, u64, u65, u66, u67, u68, u69, u70, u71, u72, u73, u74, u75, u76, u77, u78, u79, u80, u81, u82, u83, u84, u85, u86, u87, u88, u89, u90, u91, u92, u93, u94, u95, u96, u97, u98, u99, u100, u101, u102, u103, u104, u105, u106, u107, u108, u109, u110, u111, u112, u113, u114, u115, u116, u117, u118, u119, u120, u121, u122, u123, u124, u125, u126, u127, u128, u129, u130, u131, u132, u133, u134, u135], []⟩ wr := by
  obtain ⟨kv0, kv1, _, _⟩ := two_cells pk
  have hlen := hid bk.len
  show Code.wp Tryd.prog (Code.seq (head5 15) (tail5 16)) _ _ _
  conv => arg 2; arg 1; whnf
  by_cases hE : e = 0
  · have hz1 : (e == 0) = true := by simpa using hE
    have hd : decide (4096 < kl) = false := decide_eq_false (by
      have h := he.out
      rw [hE] at h
      by_cases h1 : 4096 < xl ∨ 4096 < yl
      · rw [if_pos h1] at h; exact absurd h (by decide)
      · rw [if_neg h1] at h
        by_cases h2 : yl = 0
        · rw [if_pos h2] at h; exact absurd h (by decide)
        · have h3 := bl_mono (floors_le (fun h => h2 (hyz.out.2 h)) (hF2.out hE)).1
          have h4 := (bx.keep hk).len
          rw [hlen.out]; omega)
    have HD := hid hd
    clear hd hE
    go_wp2_with (go_at_call 45; (with_reducible refine (longR1 _ _ _ _ _).mono ?_); rintro r w5 ⟨rfl, hb5⟩; rw [HD.out])
    exact DI_16 (rA) (rB) (zA) (zB) (sA) (sB) (hva) (hvb) (hxl) (hyl) (he) (hbad) (hyz) (hg) (hT1) (hF1) (hT2) (hF2) (hbk) (pa) (pb) (px) (bx) (py) (b_y) (pt) (lt_) (pu) (lu) (hk.trans (hb5.mono hk.size)) (dq.keep hb5) (dr.keep hb5) (dd.keep hb5) (dm.keep hb5) (qqr) (qqd) (qqm) (qrd) (qrm) (qdm) (pv.keep hb5) (bv_.keep hb5) (pw.keep hb5) (bw.keep hb5) (pk.keep hb5) (bk.keep hb5) (pl.keep hb5) (bl_.keep hb5)
  · have hne : (e == 0) = false := by simpa using hE
    clear hE
    go_wp2
    exact DI_16 (rA) (rB) (zA) (zB) (sA) (sB) (hva) (hvb) (hxl) (hyl) (he) (hbad) (hyz) (hg) (hT1) (hF1) (hT2) (hF2) (hbk) (pa) (pb) (px) (bx) (py) (b_y) (pt) (lt_) (pu) (lu) (hk) (dq) (dr) (dd) (dm) (qqr) (qqd) (qqm) (qrd) (qrm) (qdm) (pv) (bv_) (pw) (bw) (pk) (bk) (pl) (bl_)

set_option maxRecDepth 100000 in
set_option maxHeartbeats 8000000 in
theorem DI_14 {w wk wr : World} {na : Bool} {nb : Bool} {nx : Bool} {ny : Bool} {nv : Bool} {nw : Bool} {nk : Bool} {nl : Bool} {aa : Option Addr} {ab : Option Addr} {xo : Option Addr} {yo : Option Addr} {vo : Option Addr} {wo : Option Addr} {ko : Option Addr} {lo : Option Addr} {A : List Nat} {B : List Nat} {va : Int} {vb : Int} {e : Int} {vv : Int} {ww : Int} {kv : Int} {lv : Int} {la : Nat} {ca : Nat} {lb : Nat} {cb : Nat} {xl : Nat} {xc : Nat} {yl : Nat} {yc : Nat} {g2 : Nat} {g3 : Nat} {g6 : Nat} {g7 : Nat} {g9 : Nat} {g10 : Nat} {gt : Nat} {ct : Nat} {gu : Nat} {cu : Nat} {g17 : Nat} {g18 : Nat} {g19 : Nat} {g20 : Nat} {vl : Nat} {vc : Nat} {wl : Nat} {wc : Nat} {kl : Nat} {kc : Nat} {ll : Nat} {lc : Nat} {vq : Int} {vr : Int} {cq : Int} {vd : Int} {vm : Int} {cd : Int} {gq lq : Nat} {nq : Bool} {oq : Option Addr} {gr lr : Nat} {nr : Bool} {or : Option Addr} {gd ld : Nat} {nd : Bool} {od : Option Addr} {gm lm : Nat} {nm : Bool} {om : Option Addr} {u0 u1 u4 u22 u23 u24 u25 u26 u27 u28 u29 u30 u31 u32 u33 u34 u35 u36 u37 u38 u39 u40 u41 u42 u43 u44 u45 u46 u47 u48 u49 u50 u51 u52 u53 u54 u55 u56 u57 u58 u59 u60 u61 u62 u63 u64 u65 u66 u67 u68 u69 u70 u71 u72 u73 u74 u75 u76 u77 u78 u79 u80 u81 u82 u83 u84 u85 u86 u87 u88 u89 u90 u91 u92 u93 u94 u95 u96 u97 u98 u99 u100 u101 u102 u103 u104 u105 u106 u107 u108 u109 u110 u111 u112 u113 u114 u115 u116 u117 u118 u119 u120 u121 u122 u123 u124 u125 u126 u127 u128 u129 u130 u131 u132 u133 u134 u135 : Value}
    (rA : Rd w aa la ca A)
    (rB : Rd w ab lb cb B)
    (zA : Hid (aa = none → ca = 0))
    (zB : Hid (ab = none → cb = 0))
    (sA : la ≤ 1048576)
    (sB : lb ≤ 1048576)
    (hva : Hid (num na A = va))
    (hvb : Hid (num nb B = vb))
    (hxl : xl ≤ 33554432)
    (hyl : yl ≤ 33554432)
    (he : Hid (e = if 4096 < xl ∨ 4096 < yl then 10 else if yl = 0 then 11 else 0))
    (hbad : Hid (e = if (tooLong A || tooLong B) = true then 10 else if vb = 0 then 11 else 0))
    (hyz : Hid (yl = 0 ↔ vb = 0))
    (hg : Hid (gt < gu))
    (hT1 : Hid (e = 0 → TruncDiv va vb vq vr))
    (hF1 : Hid (e = 0 → Floors va vb vd vm))
    (hT2 : Hid (e = 0 → TruncDiv va vb vv ww))
    (hF2 : Hid (e = 0 → Floors va vb kv lv))
    (hbk : Below w.heap.size w wk)
    (pa : Pr wk g2 24 (.bool na) (.slice aa la ca))
    (pb : Pr wk g3 24 (.bool nb) (.slice ab lb cb))
    (px : Pr wk g6 28 (.bool nx) (.slice xo xl xc))
    (bx : Big wk nx xo xl xc va)
    (py : Pr wk g7 28 (.bool ny) (.slice yo yl yc))
    (b_y : Big wk ny yo yl yc vb)
    (pt : Pr wk g9 24 (.bool na) (.slice (some ⟨gt, 0, none⟩) la ct))
    (lt_ : Lent w.heap.size wk gt la ct A)
    (pu : Pr wk g10 24 (.bool nb) (.slice (some ⟨gu, 0, none⟩) lb cu))
    (lu : Lent w.heap.size wk gu lb cu B)
    (hk : Below wk.heap.size wk wr)
    (dq : Aw wk.heap.size wr gq nq oq lq cq e (vq))
    (dr : Aw wk.heap.size wr gr nr or lr cq e (vr))
    (dd : Aw wk.heap.size wr gd nd od ld cd e (vd))
    (dm : Aw wk.heap.size wr gm nm om lm cd e (vm))
    (qqr : Disj oq or)
    (qqd : Disj oq od)
    (qqm : Disj oq om)
    (qrd : Disj or od)
    (qrm : Disj or om)
    (qdm : Disj od om)
    (pv : Pr wr g17 28 (.bool nv) (.slice vo vl vc))
    (bv_ : Big wr nv vo vl vc vv)
    (pw : Pr wr g18 28 (.bool nw) (.slice wo wl wc))
    (bw : Big wr nw wo wl wc ww)
    (pk : Pr wr g19 28 (.bool nk) (.slice ko kl kc))
    (bk : Big wr nk ko kl kc kv)
    (pl : Pr wr g20 28 (.bool nl) (.slice lo ll lc))
    (bl_ : Big wr nl lo ll lc lv) :
    Code.wp Tryd.prog (tail5 14) (Q5 w) ⟨#[u0, u1, .pointer (some ⟨g2, 0, none⟩), .pointer (some ⟨g3, 0, none⟩), u4, .bool true, .pointer (some ⟨g6, 0, none⟩), .pointer (some ⟨g7, 0, none⟩), .int .i64 e, .pointer (some ⟨g9, 0, none⟩), .pointer (some ⟨g10, 0, none⟩), .pointer (some ⟨gq, 0, none⟩), .pointer (some ⟨gr, 0, none⟩), .int .i64 cq, .pointer (some ⟨gd, 0, none⟩), .pointer (some ⟨gm, 0, none⟩), .int .i64 cd, .pointer (some ⟨g17, 0, none⟩), .pointer (some ⟨g18, 0, none⟩), .pointer (some ⟨g19, 0, none⟩), .pointer (some ⟨g20, 0, none⟩), .int .i64 e, u22, u23, u24, u25, u26, u27, u28, u29, u30, u31, u32, u33, u34, u35, u36, u37, u38, u39, u40, u41, u42, u43, u44, u45, u46, u47, u48, u49, u50, u51, u52, u53, u54, u55, u56, u57, u58, u59, u60, u61, u62, u63, u64, u65, u66, u67, u68, u69, u70, u71, u72, u73, u74, u75, u76, u77, u78, u79, u80, u81, u82, u83, u84, u85, u86, u87, u88, u89, u90, u91, u92, u93, u94, u95, u96, u97, u98, u99, u100, u101, u102, u103, u104, u105, u106, u107, u108, u109, u110, u111, u112, u113, u114, u115, u116, u117, u118, u119, u120, u121, u122, u123, u124, u125, u126, u127, u128, u129, u130, u131, u132, u133, u134, u135], []⟩ wr := by
  show Code.wp Tryd.prog (Code.seq (head5 14) (tail5 15)) _ _ _
  conv => arg 2; arg 1; whnf
  go_wp2
  exact DI_15 (rA) (rB) (zA) (zB) (sA) (sB) (hva) (hvb) (hxl) (hyl) (he) (hbad) (hyz) (hg) (hT1) (hF1) (hT2) (hF2) (hbk) (pa) (pb) (px) (bx) (py) (b_y) (pt) (lt_) (pu) (lu) (hk) (dq) (dr) (dd) (dm) (qqr) (qqd) (qqm) (qrd) (qrm) (qdm) (pv) (bv_) (pw) (bw) (pk) (bk) (pl) (bl_)

set_option maxRecDepth 100000 in
set_option maxHeartbeats 8000000 in
theorem DI_13 {w wk wr : World} {na : Bool} {nb : Bool} {nx : Bool} {ny : Bool} {nv : Bool} {nw : Bool} {nk : Bool} {nl : Bool} {aa : Option Addr} {ab : Option Addr} {xo : Option Addr} {yo : Option Addr} {vo : Option Addr} {wo : Option Addr} {ko : Option Addr} {lo : Option Addr} {A : List Nat} {B : List Nat} {va : Int} {vb : Int} {e : Int} {vv : Int} {ww : Int} {kv : Int} {lv : Int} {la : Nat} {ca : Nat} {lb : Nat} {cb : Nat} {xl : Nat} {xc : Nat} {yl : Nat} {yc : Nat} {g2 : Nat} {g3 : Nat} {g6 : Nat} {g7 : Nat} {g9 : Nat} {g10 : Nat} {gt : Nat} {ct : Nat} {gu : Nat} {cu : Nat} {g17 : Nat} {g18 : Nat} {g19 : Nat} {g20 : Nat} {vl : Nat} {vc : Nat} {wl : Nat} {wc : Nat} {kl : Nat} {kc : Nat} {ll : Nat} {lc : Nat} {vq : Int} {vr : Int} {cq : Int} {vd : Int} {vm : Int} {cd : Int} {gq lq : Nat} {nq : Bool} {oq : Option Addr} {gr lr : Nat} {nr : Bool} {or : Option Addr} {gd ld : Nat} {nd : Bool} {od : Option Addr} {gm lm : Nat} {nm : Bool} {om : Option Addr} {u0 u1 u4 u22 u23 u24 u25 u26 u27 u28 u29 u30 u31 u32 u33 u34 u35 u36 u37 u38 u39 u40 u41 u42 u43 u44 u45 u46 u47 u48 u49 u50 u51 u52 u53 u54 u55 u56 u57 u58 u59 u60 u61 u62 u63 u64 u65 u66 u67 u68 u69 u70 u71 u72 u73 u74 u75 u76 u77 u78 u79 u80 u81 u82 u83 u84 u85 u86 u87 u88 u89 u90 u91 u92 u93 u94 u95 u96 u97 u98 u99 u100 u101 u102 u103 u104 u105 u106 u107 u108 u109 u110 u111 u112 u113 u114 u115 u116 u117 u118 u119 u120 u121 u122 u123 u124 u125 u126 u127 u128 u129 u130 u131 u132 u133 u134 u135 : Value}
    (rA : Rd w aa la ca A)
    (rB : Rd w ab lb cb B)
    (zA : Hid (aa = none → ca = 0))
    (zB : Hid (ab = none → cb = 0))
    (sA : la ≤ 1048576)
    (sB : lb ≤ 1048576)
    (hva : Hid (num na A = va))
    (hvb : Hid (num nb B = vb))
    (hxl : xl ≤ 33554432)
    (hyl : yl ≤ 33554432)
    (he : Hid (e = if 4096 < xl ∨ 4096 < yl then 10 else if yl = 0 then 11 else 0))
    (hbad : Hid (e = if (tooLong A || tooLong B) = true then 10 else if vb = 0 then 11 else 0))
    (hyz : Hid (yl = 0 ↔ vb = 0))
    (hg : Hid (gt < gu))
    (hT1 : Hid (e = 0 → TruncDiv va vb vq vr))
    (hF1 : Hid (e = 0 → Floors va vb vd vm))
    (hT2 : Hid (e = 0 → TruncDiv va vb vv ww))
    (hF2 : Hid (e = 0 → Floors va vb kv lv))
    (hbk : Below w.heap.size w wk)
    (pa : Pr wk g2 24 (.bool na) (.slice aa la ca))
    (pb : Pr wk g3 24 (.bool nb) (.slice ab lb cb))
    (px : Pr wk g6 28 (.bool nx) (.slice xo xl xc))
    (bx : Big wk nx xo xl xc va)
    (py : Pr wk g7 28 (.bool ny) (.slice yo yl yc))
    (b_y : Big wk ny yo yl yc vb)
    (pt : Pr wk g9 24 (.bool na) (.slice (some ⟨gt, 0, none⟩) la ct))
    (lt_ : Lent w.heap.size wk gt la ct A)
    (pu : Pr wk g10 24 (.bool nb) (.slice (some ⟨gu, 0, none⟩) lb cu))
    (lu : Lent w.heap.size wk gu lb cu B)
    (hk : Below wk.heap.size wk wr)
    (dq : Aw wk.heap.size wr gq nq oq lq cq e (vq))
    (dr : Aw wk.heap.size wr gr nr or lr cq e (vr))
    (dd : Aw wk.heap.size wr gd nd od ld cd e (vd))
    (dm : Aw wk.heap.size wr gm nm om lm cd e (vm))
    (qqr : Disj oq or)
    (qqd : Disj oq od)
    (qqm : Disj oq om)
    (qrd : Disj or od)
    (qrm : Disj or om)
    (qdm : Disj od om)
    (pv : Pr wr g17 28 (.bool nv) (.slice vo vl vc))
    (bv_ : Big wr nv vo vl vc vv)
    (pw : Pr wr g18 28 (.bool nw) (.slice wo wl wc))
    (bw : Big wr nw wo wl wc ww)
    (pk : Pr wr g19 28 (.bool nk) (.slice ko kl kc))
    (bk : Big wr nk ko kl kc kv)
    (pl : Pr wr g20 28 (.bool nl) (.slice lo ll lc))
    (bl_ : Big wr nl lo ll lc lv) :
    Code.wp Tryd.prog (tail5 13) (Q5 w) ⟨#[u0, u1, .pointer (some ⟨g2, 0, none⟩), .pointer (some ⟨g3, 0, none⟩), u4, .bool true, .pointer (some ⟨g6, 0, none⟩), .pointer (some ⟨g7, 0, none⟩), .int .i64 e, .pointer (some ⟨g9, 0, none⟩), .pointer (some ⟨g10, 0, none⟩), .pointer (some ⟨gq, 0, none⟩), .pointer (some ⟨gr, 0, none⟩), .int .i64 cq, .pointer (some ⟨gd, 0, none⟩), .pointer (some ⟨gm, 0, none⟩), .int .i64 cd, .pointer (some ⟨g17, 0, none⟩), .pointer (some ⟨g18, 0, none⟩), .pointer (some ⟨g19, 0, none⟩), .pointer (some ⟨g20, 0, none⟩), .int .i64 e, u22, u23, u24, u25, u26, u27, u28, u29, u30, u31, u32, u33, u34, u35, u36, u37, u38, u39, u40, u41, u42, u43, u44, u45, u46, u47, u48, u49, u50, u51, u52, u53, u54, u55, u56, u57, u58, u59, u60, u61, u62, u63, u64, u65, u66, u67, u68, u69, u70, u71, u72, u73, u74, u75, u76, u77, u78, u79, u80, u81, u82, u83, u84, u85, u86, u87, u88, u89, u90, u91, u92, u93, u94, u95, u96, u97, u98, u99, u100, u101, u102, u103, u104, u105, u106, u107, u108, u109, u110, u111, u112, u113, u114, u115, u116, u117, u118, u119, u120, u121, u122, u123, u124, u125, u126, u127, u128, u129, u130, u131, u132, u133, u134, u135], []⟩ wr := by
  obtain ⟨kv0, kv1, _, _⟩ := two_cells pv
  have hlen := hid bv_.len
  show Code.wp Tryd.prog (Code.seq (head5 13) (tail5 14)) _ _ _
  conv => arg 2; arg 1; whnf
  by_cases hE : e = 0
  · have hz1 : (e == 0) = true := by simpa using hE
    have hd : decide (4096 < vl) = false := decide_eq_false (by
      have h := he.out
      rw [hE] at h
      by_cases h1 : 4096 < xl ∨ 4096 < yl
      · rw [if_pos h1] at h; exact absurd h (by decide)
      · rw [if_neg h1] at h
        by_cases h2 : yl = 0
        · rw [if_pos h2] at h; exact absurd h (by decide)
        · have h3 := bl_mono (trunc_le (fun h => h2 (hyz.out.2 h)) (hT2.out hE)).1
          have h4 := (bx.keep hk).len
          rw [hlen.out]; omega)
    have HD := hid hd
    clear hd hE
    go_wp2_with (go_at_call 45; (with_reducible refine (longR1 _ _ _ _ _).mono ?_); rintro r w5 ⟨rfl, hb5⟩; rw [HD.out])
    exact DI_14 (rA) (rB) (zA) (zB) (sA) (sB) (hva) (hvb) (hxl) (hyl) (he) (hbad) (hyz) (hg) (hT1) (hF1) (hT2) (hF2) (hbk) (pa) (pb) (px) (bx) (py) (b_y) (pt) (lt_) (pu) (lu) (hk.trans (hb5.mono hk.size)) (dq.keep hb5) (dr.keep hb5) (dd.keep hb5) (dm.keep hb5) (qqr) (qqd) (qqm) (qrd) (qrm) (qdm) (pv.keep hb5) (bv_.keep hb5) (pw.keep hb5) (bw.keep hb5) (pk.keep hb5) (bk.keep hb5) (pl.keep hb5) (bl_.keep hb5)
  · have hne : (e == 0) = false := by simpa using hE
    clear hE
    go_wp2
    exact DI_14 (rA) (rB) (zA) (zB) (sA) (sB) (hva) (hvb) (hxl) (hyl) (he) (hbad) (hyz) (hg) (hT1) (hF1) (hT2) (hF2) (hbk) (pa) (pb) (px) (bx) (py) (b_y) (pt) (lt_) (pu) (lu) (hk) (dq) (dr) (dd) (dm) (qqr) (qqd) (qqm) (qrd) (qrm) (qdm) (pv) (bv_) (pw) (bw) (pk) (bk) (pl) (bl_)

set_option maxRecDepth 100000 in
set_option maxHeartbeats 8000000 in
theorem DI_12 {w wk wr : World} {na : Bool} {nb : Bool} {nx : Bool} {ny : Bool} {nv : Bool} {nw : Bool} {nk : Bool} {nl : Bool} {aa : Option Addr} {ab : Option Addr} {xo : Option Addr} {yo : Option Addr} {vo : Option Addr} {wo : Option Addr} {ko : Option Addr} {lo : Option Addr} {A : List Nat} {B : List Nat} {va : Int} {vb : Int} {e : Int} {vv : Int} {ww : Int} {kv : Int} {lv : Int} {la : Nat} {ca : Nat} {lb : Nat} {cb : Nat} {xl : Nat} {xc : Nat} {yl : Nat} {yc : Nat} {g2 : Nat} {g3 : Nat} {g6 : Nat} {g7 : Nat} {g9 : Nat} {g10 : Nat} {gt : Nat} {ct : Nat} {gu : Nat} {cu : Nat} {g17 : Nat} {g18 : Nat} {g19 : Nat} {g20 : Nat} {vl : Nat} {vc : Nat} {wl : Nat} {wc : Nat} {kl : Nat} {kc : Nat} {ll : Nat} {lc : Nat} {vq : Int} {vr : Int} {cq : Int} {vd : Int} {vm : Int} {cd : Int} {gq lq : Nat} {nq : Bool} {oq : Option Addr} {gr lr : Nat} {nr : Bool} {or : Option Addr} {gd ld : Nat} {nd : Bool} {od : Option Addr} {gm lm : Nat} {nm : Bool} {om : Option Addr} {u0 u1 u4 u21 u22 u23 u24 u25 u26 u27 u28 u29 u30 u31 u32 u33 u34 u35 u36 u37 u38 u39 u40 u41 u42 u43 u44 u45 u46 u47 u48 u49 u50 u51 u52 u53 u54 u55 u56 u57 u58 u59 u60 u61 u62 u63 u64 u65 u66 u67 u68 u69 u70 u71 u72 u73 u74 u75 u76 u77 u78 u79 u80 u81 u82 u83 u84 u85 u86 u87 u88 u89 u90 u91 u92 u93 u94 u95 u96 u97 u98 u99 u100 u101 u102 u103 u104 u105 u106 u107 u108 u109 u110 u111 u112 u113 u114 u115 u116 u117 u118 u119 u120 u121 u122 u123 u124 u125 u126 u127 u128 u129 u130 u131 u132 u133 u134 u135 : Value}
    (rA : Rd w aa la ca A)
    (rB : Rd w ab lb cb B)
    (zA : Hid (aa = none → ca = 0))
    (zB : Hid (ab = none → cb = 0))
    (sA : la ≤ 1048576)
    (sB : lb ≤ 1048576)
    (hva : Hid (num na A = va))
    (hvb : Hid (num nb B = vb))
    (hxl : xl ≤ 33554432)
    (hyl : yl ≤ 33554432)
    (he : Hid (e = if 4096 < xl ∨ 4096 < yl then 10 else if yl = 0 then 11 else 0))
    (hbad : Hid (e = if (tooLong A || tooLong B) = true then 10 else if vb = 0 then 11 else 0))
    (hyz : Hid (yl = 0 ↔ vb = 0))
    (hg : Hid (gt < gu))
    (hT1 : Hid (e = 0 → TruncDiv va vb vq vr))
    (hF1 : Hid (e = 0 → Floors va vb vd vm))
    (hT2 : Hid (e = 0 → TruncDiv va vb vv ww))
    (hF2 : Hid (e = 0 → Floors va vb kv lv))
    (hbk : Below w.heap.size w wk)
    (pa : Pr wk g2 24 (.bool na) (.slice aa la ca))
    (pb : Pr wk g3 24 (.bool nb) (.slice ab lb cb))
    (px : Pr wk g6 28 (.bool nx) (.slice xo xl xc))
    (bx : Big wk nx xo xl xc va)
    (py : Pr wk g7 28 (.bool ny) (.slice yo yl yc))
    (b_y : Big wk ny yo yl yc vb)
    (pt : Pr wk g9 24 (.bool na) (.slice (some ⟨gt, 0, none⟩) la ct))
    (lt_ : Lent w.heap.size wk gt la ct A)
    (pu : Pr wk g10 24 (.bool nb) (.slice (some ⟨gu, 0, none⟩) lb cu))
    (lu : Lent w.heap.size wk gu lb cu B)
    (hk : Below wk.heap.size wk wr)
    (dq : Aw wk.heap.size wr gq nq oq lq cq e (vq))
    (dr : Aw wk.heap.size wr gr nr or lr cq e (vr))
    (dd : Aw wk.heap.size wr gd nd od ld cd e (vd))
    (dm : Aw wk.heap.size wr gm nm om lm cd e (vm))
    (qqr : Disj oq or)
    (qqd : Disj oq od)
    (qqm : Disj oq om)
    (qrd : Disj or od)
    (qrm : Disj or om)
    (qdm : Disj od om)
    (pv : Pr wr g17 28 (.bool nv) (.slice vo vl vc))
    (bv_ : Big wr nv vo vl vc vv)
    (pw : Pr wr g18 28 (.bool nw) (.slice wo wl wc))
    (bw : Big wr nw wo wl wc ww)
    (pk : Pr wr g19 28 (.bool nk) (.slice ko kl kc))
    (bk : Big wr nk ko kl kc kv)
    (pl : Pr wr g20 28 (.bool nl) (.slice lo ll lc))
    (bl_ : Big wr nl lo ll lc lv) :
    Code.wp Tryd.prog (tail5 12) (Q5 w) ⟨#[u0, u1, .pointer (some ⟨g2, 0, none⟩), .pointer (some ⟨g3, 0, none⟩), u4, .bool true, .pointer (some ⟨g6, 0, none⟩), .pointer (some ⟨g7, 0, none⟩), .int .i64 e, .pointer (some ⟨g9, 0, none⟩), .pointer (some ⟨g10, 0, none⟩), .pointer (some ⟨gq, 0, none⟩), .pointer (some ⟨gr, 0, none⟩), .int .i64 cq, .pointer (some ⟨gd, 0, none⟩), .pointer (some ⟨gm, 0, none⟩), .int .i64 cd, .pointer (some ⟨g17, 0, none⟩), .pointer (some ⟨g18, 0, none⟩), .pointer (some ⟨g19, 0, none⟩), .pointer (some ⟨g20, 0, none⟩), u21, u22, u23, u24, u25, u26, u27, u28, u29, u30, u31, u32, u33, u34, u35, u36, u37, u38, u39, u40, u41, u42, u43, u44, u45, u46, u47, u48, u49, u50, u51, u52, u53, u54, u55, u56, u57, u58, u59, u60, u61, u62, u63, u64, u65, u66, u67, u68, u69, u70, u71, u72, u73, u74, u75, u76, u77, u78, u79, u80, u81, u82, u83, u84, u85, u86, u87, u88, u89, u90, u91, u92, u93, u94, u95, u96, u97, u98, u99, u100, u101, u102, u103, u104, u105, u106, u107, u108, u109, u110, u111, u112, u113, u114, u115, u116, u117, u118, u119, u120, u121, u122, u123, u124, u125, u126, u127, u128, u129, u130, u131, u132, u133, u134, u135], []⟩ wr := by
  show Code.wp Tryd.prog (Code.seq (head5 12) (tail5 13)) _ _ _
  conv => arg 2; arg 1; whnf
  go_wp2
  exact DI_13 (rA) (rB) (zA) (zB) (sA) (sB) (hva) (hvb) (hxl) (hyl) (he) (hbad) (hyz) (hg) (hT1) (hF1) (hT2) (hF2) (hbk) (pa) (pb) (px) (bx) (py) (b_y) (pt) (lt_) (pu) (lu) (hk) (dq) (dr) (dd) (dm) (qqr) (qqd) (qqm) (qrd) (qrm) (qdm) (pv) (bv_) (pw) (bw) (pk) (bk) (pl) (bl_)

set_option maxRecDepth 100000 in
set_option maxHeartbeats 8000000 in
theorem DI_10 {w wk wr : World} {na : Bool} {nb : Bool} {nx : Bool} {ny : Bool} {aa : Option Addr} {ab : Option Addr} {xo : Option Addr} {yo : Option Addr} {A : List Nat} {B : List Nat} {va : Int} {vb : Int} {e : Int} {la : Nat} {ca : Nat} {lb : Nat} {cb : Nat} {xl : Nat} {xc : Nat} {yl : Nat} {yc : Nat} {g2 : Nat} {g3 : Nat} {g6 : Nat} {g7 : Nat} {g9 : Nat} {g10 : Nat} {gt : Nat} {ct : Nat} {gu : Nat} {cu : Nat} {vq : Int} {vr : Int} {cq : Int} {vd : Int} {vm : Int} {cd : Int} {gq lq : Nat} {nq : Bool} {oq : Option Addr} {gr lr : Nat} {nr : Bool} {or : Option Addr} {gd ld : Nat} {nd : Bool} {od : Option Addr} {gm lm : Nat} {nm : Bool} {om : Option Addr} {u0 u1 u4 u17 u18 u19 u20 u21 u22 u23 u24 u25 u26 u27 u28 u29 u30 u31 u32 u33 u34 u35 u36 u37 u38 u39 u40 u41 u42 u43 u44 u45 u46 u47 u48 u49 u50 u51 u52 u53 u54 u55 u56 u57 u58 u59 u60 u61 u62 u63 u64 u65 u66 u67 u68 u69 u70 u71 u72 u73 u74 u75 u76 u77 u78 u79 u80 u81 u82 u83 u84 u85 u86 u87 u88 u89 u90 u91 u92 u93 u94 u95 u96 u97 u98 u99 u100 u101 u102 u103 u104 u105 u106 u107 u108 u109 u110 u111 u112 u113 u114 u115 u116 u117 u118 u119 u120 u121 u122 u123 u124 u125 u126 u127 u128 u129 u130 u131 u132 u133 u134 u135 : Value}
    (rA : Rd w aa la ca A)
    (rB : Rd w ab lb cb B)
    (zA : Hid (aa = none → ca = 0))
    (zB : Hid (ab = none → cb = 0))
    (sA : la ≤ 1048576)
    (sB : lb ≤ 1048576)
    (hva : Hid (num na A = va))
    (hvb : Hid (num nb B = vb))
    (hxl : xl ≤ 33554432)
    (hyl : yl ≤ 33554432)
    (he : Hid (e = if 4096 < xl ∨ 4096 < yl then 10 else if yl = 0 then 11 else 0))
    (hbad : Hid (e = if (tooLong A || tooLong B) = true then 10 else if vb = 0 then 11 else 0))
    (hyz : Hid (yl = 0 ↔ vb = 0))
    (hg : Hid (gt < gu))
    (hT1 : Hid (e = 0 → TruncDiv va vb vq vr))
    (hF1 : Hid (e = 0 → Floors va vb vd vm))
    (hbk : Below w.heap.size w wk)
    (pa : Pr wk g2 24 (.bool na) (.slice aa la ca))
    (pb : Pr wk g3 24 (.bool nb) (.slice ab lb cb))
    (px : Pr wk g6 28 (.bool nx) (.slice xo xl xc))
    (bx : Big wk nx xo xl xc va)
    (py : Pr wk g7 28 (.bool ny) (.slice yo yl yc))
    (b_y : Big wk ny yo yl yc vb)
    (pt : Pr wk g9 24 (.bool na) (.slice (some ⟨gt, 0, none⟩) la ct))
    (lt_ : Lent w.heap.size wk gt la ct A)
    (pu : Pr wk g10 24 (.bool nb) (.slice (some ⟨gu, 0, none⟩) lb cu))
    (lu : Lent w.heap.size wk gu lb cu B)
    (hk : Below wk.heap.size wk wr)
    (dq : Aw wk.heap.size wr gq nq oq lq cq e (vq))
    (dr : Aw wk.heap.size wr gr nr or lr cq e (vr))
    (dd : Aw wk.heap.size wr gd nd od ld cd e (vd))
    (dm : Aw wk.heap.size wr gm nm om lm cd e (vm))
    (qqr : Disj oq or)
    (qqd : Disj oq od)
    (qqm : Disj oq om)
    (qrd : Disj or od)
    (qrm : Disj or om)
    (qdm : Disj od om) :
    Code.wp Tryd.prog (tail5 10) (Q5 w) ⟨#[u0, u1, .pointer (some ⟨g2, 0, none⟩), .pointer (some ⟨g3, 0, none⟩), u4, .bool true, .pointer (some ⟨g6, 0, none⟩), .pointer (some ⟨g7, 0, none⟩), .int .i64 e, .pointer (some ⟨g9, 0, none⟩), .pointer (some ⟨g10, 0, none⟩), .pointer (some ⟨gq, 0, none⟩), .pointer (some ⟨gr, 0, none⟩), .int .i64 cq, .pointer (some ⟨gd, 0, none⟩), .pointer (some ⟨gm, 0, none⟩), .int .i64 cd, u17, u18, u19, u20, u21, u22, u23, u24, u25, u26, u27, u28, u29, u30, u31, u32, u33, u34, u35, u36, u37, u38, u39, u40, u41, u42, u43, u44, u45, u46, u47, u48, u49, u50, u51, u52, u53, u54, u55, u56, u57, u58, u59, u60, u61, u62, u63, u64, u65, u66, u67, u68, u69, u70, u71, u72, u73, u74, u75, u76, u77, u78, u79, u80, u81, u82, u83, u84, u85, u86, u87, u88, u89, u90, u91, u92, u93, u94, u95, u96, u97, u98, u99, u100, u101, u102, u103, u104, u105, u106, u107, u108, u109, u110, u111, u112, u113, u114, u115, u116, u117, u118, u119, u120, u121, u122, u123, u124, u125, u126, u127, u128, u129, u130, u131, u132, u133, u134, u135], []⟩ wr := by
  show Code.wp Tryd.prog (Code.seq (head5 10) (Code.seq (head5 11) (tail5 12))) _ _ _
  conv => arg 2; arg 1; whnf
  conv => arg 2; arg 2; arg 1; whnf
  go_upto_region 12 with fail
  obtain ⟨wv, hwv⟩ : ∃ wv, wv = (((wr.alloc (.cells #[.bool false, .slice none 0 0] 28)).alloc (.cells #[.bool false, .slice none 0 0] 28)).alloc (.cells #[.bool false, .slice none 0 0] 28)).alloc (.cells #[.bool false, .slice none 0 0] 28) := ⟨_, rfl⟩
  obtain ⟨p17, p18, p19, p20, hnv, hnl⟩ := new4 hwv
  rw [← hwv]
  clear hwv
  have hkv := hk.trans (hnv.mono hk.size)
  by_cases hE : e = 0
  · have hz1 : (e == 0) = true := by simpa using hE
    have hsm : xl ≤ 4096 ∧ yl ≤ 4096 ∧ yl ≠ 0 := by
      have h := he.out
      rw [hE] at h
      by_cases h1 : 4096 < xl ∨ 4096 < yl
      · rw [if_pos h1] at h; exact absurd h (by decide)
      · rw [if_neg h1] at h
        by_cases h2 : yl = 0
        · rw [if_pos h2] at h; exact absurd h (by decide)
        · omega
    obtain ⟨hx4, hy4, hy0⟩ := hsm
    have HV0 := hid (show vb ≠ 0 from fun h => hy0 (hyz.out.2 h))
    clear hy0 hE
    obtain ⟨kx0, kx1, _, _⟩ := two_cells (px.keep hkv)
    obtain ⟨ky0, ky1, _, _⟩ := two_cells (py.keep hkv)
    have hbxv := bx.keep hkv
    have hbyv := b_y.keep hkv
    have P17 := hid p17
    have P18 := hid p18
    have P19 := hid (show wv.heap[wr.heap.size + 1 + 1]? = _ from p19)
    have P20 := hid (show wv.heap[wr.heap.size + 1 + 1 + 1]? = _ from p20)
    clear p17 p18 p19 p20
    go_upto_region 14 with (go_at_call 43; (with_reducible refine (quoR _ _ _ _ va _ _ _ _ vb _ hbxv hbyv (by omega) HV0.out).mono ?_); rintro r w5 ⟨nv, vo, vl, vc, nw, wo, wl, wc, vv, ww, rfl, hl1, hl2, hv, hw, hT, hb5⟩; have f17 := hid (heap_keep P17.out hb5); have f18 := hid (heap_keep P18.out hb5); obtain ⟨z170, z171, _, _⟩ := two_cells f17.out; obtain ⟨z180, z181, _, _⟩ := two_cells f18.out)
    obtain ⟨wq, hwq⟩ : ∃ wq, wq = (((w5.setCell ⟨wr.heap.size, 0, none⟩ (.bool nv)).setCell ⟨wr.heap.size, 1, none⟩ (.slice vo vl vc)).setCell ⟨wr.heap.size + 1, 0, none⟩ (.bool nw)).setCell ⟨wr.heap.size + 1, 1, none⟩ (.slice wo wl wc) := ⟨_, rfl⟩
    rw [← hwq]
    have f17 := heap_keep P17.out hb5
    have f18 := heap_keep P18.out hb5
    have f19 := heap_keep P19.out hb5
    have f20 := heap_keep P20.out hb5
    have hs5 := hb5.size
    have hrq : Below wr.heap.size wr wq := by rw [hwq]; exact (((((hnv.trans (hb5.mono hnv.size)).setCell (Nat.le_refl _) _).setCell (Nat.le_refl _) _).setCell (by first | (simp; done) | (simp; omega)) _).setCell (by first | (simp; done) | (simp; omega)) _)
    have g17 := hid (show wq.heap[wr.heap.size]? = some (.cells #[.bool nv, .slice vo vl vc] 28 (0, 0)) by rw [hwq]; exact heap_set (heap_set (set_pair f17 _ _) (by first | (simp; done) | (simp; omega))) (by first | (simp; done) | (simp; omega)))
    have g18 := hid (show wq.heap[wr.heap.size + 1]? = some (.cells #[.bool nw, .slice wo wl wc] 28 (0, 0)) by rw [hwq]; exact set_pair (heap_set (heap_set f18 (by first | (simp; done) | (simp; omega))) (by first | (simp; done) | (simp; omega))) _ _)
    have g19 := hid (show wq.heap[wr.heap.size + 1 + 1]? = some (.cells #[.bool false, .slice none 0 0] 28 (0, 0)) by rw [hwq]; exact heap_set (heap_set (heap_set (heap_set f19 (by first | (simp; done) | (simp; omega))) (by first | (simp; done) | (simp; omega))) (by first | (simp; done) | (simp; omega))) (by first | (simp; done) | (simp; omega)))
    have g20 := hid (show wq.heap[wr.heap.size + 1 + 1 + 1]? = some (.cells #[.bool false, .slice none 0 0] 28 (0, 0)) by rw [hwq]; exact heap_set (heap_set (heap_set (heap_set f20 (by first | (simp; done) | (simp; omega))) (by first | (simp; done) | (simp; omega))) (by first | (simp; done) | (simp; omega))) (by first | (simp; done) | (simp; omega)))
    have hvq : Big wq nv vo vl vc vv := by rw [hwq]; exact (hv.other f17 (by first | (simp; done) | (simp; omega)) (by first | (simp; done) | (simp; omega)) _ _).other (heap_set (heap_set f18 (by first | (simp; done) | (simp; omega))) (by first | (simp; done) | (simp; omega))) (by first | (simp; done) | (simp; omega)) (by first | (simp; done) | (simp; omega)) _ _
    have hwq2 : Big wq nw wo wl wc ww := by rw [hwq]; exact (hw.other f17 (by first | (simp; done) | (simp; omega)) (by first | (simp; done) | (simp; omega)) _ _).other (heap_set (heap_set f18 (by first | (simp; done) | (simp; omega))) (by first | (simp; done) | (simp; omega))) (by first | (simp; done) | (simp; omega)) (by first | (simp; done) | (simp; omega)) _ _
    clear hwq f17 f18 f19 f20 hv hw P17 P18 P19 P20 hbxv hbyv kx0 kx1 ky0 ky1
    have hkq := hk.trans (hrq.mono hk.size)
    obtain ⟨kx0, kx1, _, _⟩ := two_cells (px.keep hkq)
    obtain ⟨ky0, ky1, _, _⟩ := two_cells (py.keep hkq)
    have hbxv := bx.keep hkq
    have hbyv := b_y.keep hkq
    go_wp2_with (go_at_call 44; (with_reducible refine (divR _ _ _ _ va _ _ _ _ vb _ hbxv hbyv (by omega) (by omega) HV0.out).mono ?_); rintro r w6 ⟨nk, ko, kl, kc, nl, lo, ll, lc, kv, lv, rfl, hkz, hlz, hF, hb6⟩; have f19 := hid (heap_keep g19.out hb6); have f20 := hid (heap_keep g20.out hb6); obtain ⟨z190, z191, _, _⟩ := two_cells f19.out; obtain ⟨z200, z201, _, _⟩ := two_cells f20.out)
    have f17 := heap_keep g17.out hb6
    have f18 := heap_keep g18.out hb6
    have f19 := heap_keep g19.out hb6
    have f20 := heap_keep g20.out hb6
    have hrz := hrq.trans (hb6.mono hrq.size)
    exact DI_12 (rA) (rB) (zA) (zB) (sA) (sB) (hva) (hvb) (hxl) (hyl) (he) (hbad) (hyz) (hg) (hT1) (hF1) (hid (fun _ => hT.out)) (hid (fun _ => hF.out)) (hbk) (pa) (pb) (px) (bx) (py) (b_y) (pt) (lt_) (pu) (lu) (hk.trans (Below.mono ((((hrz.setCell (by first | (simp; done) | (simp; omega)) _).setCell (by first | (simp; done) | (simp; omega)) _).setCell (by first | (simp; done) | (simp; omega)) _).setCell (by first | (simp; done) | (simp; omega)) _) hk.size)) (dq.keep ((((hrz.setCell (by first | (simp; done) | (simp; omega)) _).setCell (by first | (simp; done) | (simp; omega)) _).setCell (by first | (simp; done) | (simp; omega)) _).setCell (by first | (simp; done) | (simp; omega)) _)) (dr.keep ((((hrz.setCell (by first | (simp; done) | (simp; omega)) _).setCell (by first | (simp; done) | (simp; omega)) _).setCell (by first | (simp; done) | (simp; omega)) _).setCell (by first | (simp; done) | (simp; omega)) _)) (dd.keep ((((hrz.setCell (by first | (simp; done) | (simp; omega)) _).setCell (by first | (simp; done) | (simp; omega)) _).setCell (by first | (simp; done) | (simp; omega)) _).setCell (by first | (simp; done) | (simp; omega)) _)) (dm.keep ((((hrz.setCell (by first | (simp; done) | (simp; omega)) _).setCell (by first | (simp; done) | (simp; omega)) _).setCell (by first | (simp; done) | (simp; omega)) _).setCell (by first | (simp; done) | (simp; omega)) _)) (qqr) (qqd) (qqm) (qrd) (qrm) (qdm) (heap_set (heap_set (heap_set (heap_set f17 (by first | (simp; done) | (simp; omega))) (by first | (simp; done) | (simp; omega))) (by first | (simp; done) | (simp; omega))) (by first | (simp; done) | (simp; omega))) (((hvq.keep hb6).other f19 (by first | (simp; done) | (simp; omega)) (by first | (simp; done) | (simp; omega)) _ _).other (heap_set (heap_set f20 (by first | (simp; done) | (simp; omega))) (by first | (simp; done) | (simp; omega))) (by first | (simp; done) | (simp; omega)) (by first | (simp; done) | (simp; omega)) _ _) (heap_set (heap_set (heap_set (heap_set f18 (by first | (simp; done) | (simp; omega))) (by first | (simp; done) | (simp; omega))) (by first | (simp; done) | (simp; omega))) (by first | (simp; done) | (simp; omega))) (((hwq2.keep hb6).other f19 (by first | (simp; done) | (simp; omega)) (by first | (simp; done) | (simp; omega)) _ _).other (heap_set (heap_set f20 (by first | (simp; done) | (simp; omega))) (by first | (simp; done) | (simp; omega))) (by first | (simp; done) | (simp; omega)) (by first | (simp; done) | (simp; omega)) _ _) (heap_set (heap_set (set_pair f19 _ _) (by first | (simp; done) | (simp; omega))) (by first | (simp; done) | (simp; omega))) ((hkz.other f19 (by first | (simp; done) | (simp; omega)) (by first | (simp; done) | (simp; omega)) _ _).other (heap_set (heap_set f20 (by first | (simp; done) | (simp; omega))) (by first | (simp; done) | (simp; omega))) (by first | (simp; done) | (simp; omega)) (by first | (simp; done) | (simp; omega)) _ _) (set_pair (heap_set (heap_set f20 (by first | (simp; done) | (simp; omega))) (by first | (simp; done) | (simp; omega))) _ _) ((hlz.other f19 (by first | (simp; done) | (simp; omega)) (by first | (simp; done) | (simp; omega)) _ _).other (heap_set (heap_set f20 (by first | (simp; done) | (simp; omega))) (by first | (simp; done) | (simp; omega))) (by first | (simp; done) | (simp; omega)) (by first | (simp; done) | (simp; omega)) _ _)
  · have hne : (e == 0) = false := by simpa using hE
    have HE := hid hE
    clear hE
    go_wp2
    exact DI_12 (rA) (rB) (zA) (zB) (sA) (sB) (hva) (hvb) (hxl) (hyl) (he) (hbad) (hyz) (hg) (hT1) (hF1) (hid (fun h => absurd h HE.out)) (hid (fun h => absurd h HE.out)) (hbk) (pa) (pb) (px) (bx) (py) (b_y) (pt) (lt_) (pu) (lu) (hkv) (dq.keep hnv) (dr.keep hnv) (dd.keep hnv) (dm.keep hnv) (qqr) (qqd) (qqm) (qrd) (qrm) (qdm) (p17) (Big.zero _) (p18) (Big.zero _) (p19) (Big.zero _) (p20) (Big.zero _)

set_option maxRecDepth 100000 in
set_option maxHeartbeats 8000000 in
theorem DI_9 {w wk wr : World} {na : Bool} {nb : Bool} {nx : Bool} {ny : Bool} {aa : Option Addr} {ab : Option Addr} {xo : Option Addr} {yo : Option Addr} {A : List Nat} {B : List Nat} {va : Int} {vb : Int} {e : Int} {la : Nat} {ca : Nat} {lb : Nat} {cb : Nat} {xl : Nat} {xc : Nat} {yl : Nat} {yc : Nat} {g2 : Nat} {g3 : Nat} {g6 : Nat} {g7 : Nat} {g9 : Nat} {g10 : Nat} {gt : Nat} {ct : Nat} {gu : Nat} {cu : Nat} {vq : Int} {vr : Int} {cq : Int} {gq lq : Nat} {nq : Bool} {oq : Option Addr} {gr lr : Nat} {nr : Bool} {or : Option Addr} {u0 u1 u4 u14 u15 u16 u17 u18 u19 u20 u21 u22 u23 u24 u25 u26 u27 u28 u29 u30 u31 u32 u33 u34 u35 u36 u37 u38 u39 u40 u41 u42 u43 u44 u45 u46 u47 u48 u49 u50 u51 u52 u53 u54 u55 u56 u57 u58 u59 u60 u61 u62 u63 u64 u65 u66 u67 u68 u69 u70 u71 u72 u73 u74 u75 u76 u77 u78 u79 u80 u81 u82 u83 u84 u85 u86 u87 u88 u89 u90 u91 u92 u93 u94 u95 u96 u97 u98 u99 u100 u101 u102 u103 u104 u105 u106 u107 u108 u109 u110 u111 u112 u113 u114 u115 u116 u117 u118 u119 u120 u121 u122 u123 u124 u125 u126 u127 u128 u129 u130 u131 u132 u133 u134 u135 : Value}
    (rA : Rd w aa la ca A)
    (rB : Rd w ab lb cb B)
    (zA : Hid (aa = none → ca = 0))
    (zB : Hid (ab = none → cb = 0))
    (sA : la ≤ 1048576)
    (sB : lb ≤ 1048576)
    (hva : Hid (num na A = va))
    (hvb : Hid (num nb B = vb))
    (hxl : xl ≤ 33554432)
    (hyl : yl ≤ 33554432)
    (he : Hid (e = if 4096 < xl ∨ 4096 < yl then 10 else if yl = 0 then 11 else 0))
    (hbad : Hid (e = if (tooLong A || tooLong B) = true then 10 else if vb = 0 then 11 else 0))
    (hyz : Hid (yl = 0 ↔ vb = 0))
    (hg : Hid (gt < gu))
    (hT1 : Hid (e = 0 → TruncDiv va vb vq vr))
    (hbk : Below w.heap.size w wk)
    (pa : Pr wk g2 24 (.bool na) (.slice aa la ca))
    (pb : Pr wk g3 24 (.bool nb) (.slice ab lb cb))
    (px : Pr wk g6 28 (.bool nx) (.slice xo xl xc))
    (bx : Big wk nx xo xl xc va)
    (py : Pr wk g7 28 (.bool ny) (.slice yo yl yc))
    (b_y : Big wk ny yo yl yc vb)
    (pt : Pr wk g9 24 (.bool na) (.slice (some ⟨gt, 0, none⟩) la ct))
    (lt_ : Lent w.heap.size wk gt la ct A)
    (pu : Pr wk g10 24 (.bool nb) (.slice (some ⟨gu, 0, none⟩) lb cu))
    (lu : Lent w.heap.size wk gu lb cu B)
    (hk : Below wk.heap.size wk wr)
    (dq : Aw wk.heap.size wr gq nq oq lq cq e (vq))
    (dr : Aw wk.heap.size wr gr nr or lr cq e (vr))
    (qqr : Disj oq or) :
    Code.wp Tryd.prog (tail5 9) (Q5 w) ⟨#[u0, u1, .pointer (some ⟨g2, 0, none⟩), .pointer (some ⟨g3, 0, none⟩), u4, .bool true, .pointer (some ⟨g6, 0, none⟩), .pointer (some ⟨g7, 0, none⟩), .int .i64 e, .pointer (some ⟨g9, 0, none⟩), .pointer (some ⟨g10, 0, none⟩), .pointer (some ⟨gq, 0, none⟩), .pointer (some ⟨gr, 0, none⟩), .int .i64 cq, u14, u15, u16, u17, u18, u19, u20, u21, u22, u23, u24, u25, u26, u27, u28, u29, u30, u31, u32, u33, u34, u35, u36, u37, u38, u39, u40, u41, u42, u43, u44, u45, u46, u47, u48, u49, u50, u51, u52, u53, u54, u55, u56, u57, u58, u59, u60, u61, u62, u63, u64, u65, u66, u67, u68, u69, u70, u71, u72, u73, u74, u75, u76, u77, u78, u79, u80, u81, u82, u83, u84, u85, u86, u87, u88, u89, u90, u91, u92, u93, u94, u95, u96, u97, u98, u99, u100, u101, u102, u103, u104, u105, u106, u107, u108, u109, u110, u111, u112, u113, u114, u115, u116, u117, u118, u119, u120, u121, u122, u123, u124, u125, u126, u127, u128, u129, u130, u131, u132, u133, u134, u135], []⟩ wr := by
  obtain ⟨kpt0, kpt1, _, _⟩ := two_cells (pt.keep hk)
  obtain ⟨kpu0, kpu1, _, _⟩ := two_cells (pu.keep hk)
  show Code.wp Tryd.prog (Code.seq (head5 9) (tail5 10)) _ _ _
  conv => arg 2; arg 1; whnf
  go_wp2_with fail
  refine (divModE ((lt_.keep hk).rd rA.ok (by omega)) ((lu.keep hk).rd rB.ok (by omega)) hva.out hvb.out hbad.out hk.size).mono ?_
  rintro r w2 ⟨n1, o1, l1, n2, o2, l2, c1, q1, s1, rfl, hA1, hA2, hdj, htd, hb2⟩
  have hkk := hk.trans (hb2.mono hk.size)
  go_wp2
  exact DI_10 (rA) (rB) (zA) (zB) (sA) (sB) (hva) (hvb) (hxl) (hyl) (he) (hbad) (hyz) (hg) (hT1) (htd) (hbk) (pa) (pb) (px) (bx) (py) (b_y) (pt) (lt_) (pu) (lu) ((hkk.alloc hkk.size _).alloc (hkk.alloc hkk.size _).size _) (((dq.keep hb2).alloc _).alloc _) (((dr.keep hb2).alloc _).alloc _) ((Aw.new hA1.1).alloc _) (Aw.new2 hA2.1) (qqr) (Disj.later dq.ans hA1) (Disj.later dq.ans hA2) (Disj.later dr.ans hA1) (Disj.later dr.ans hA2) (hdj)

set_option maxRecDepth 100000 in
set_option maxHeartbeats 8000000 in
theorem DI_8 {w wk wr : World} {na : Bool} {nb : Bool} {nx : Bool} {ny : Bool} {aa : Option Addr} {ab : Option Addr} {xo : Option Addr} {yo : Option Addr} {A : List Nat} {B : List Nat} {va : Int} {vb : Int} {e : Int} {la : Nat} {ca : Nat} {lb : Nat} {cb : Nat} {xl : Nat} {xc : Nat} {yl : Nat} {yc : Nat} {g2 : Nat} {g3 : Nat} {g6 : Nat} {g7 : Nat} {g9 : Nat} {g10 : Nat} {gt : Nat} {ct : Nat} {gu : Nat} {cu : Nat} {u0 u1 u4 u11 u12 u13 u14 u15 u16 u17 u18 u19 u20 u21 u22 u23 u24 u25 u26 u27 u28 u29 u30 u31 u32 u33 u34 u35 u36 u37 u38 u39 u40 u41 u42 u43 u44 u45 u46 u47 u48 u49 u50 u51 u52 u53 u54 u55 u56 u57 u58 u59 u60 u61 u62 u63 u64 u65 u66 u67 u68 u69 u70 u71 u72 u73 u74 u75 u76 u77 u78 u79 u80 u81 u82 u83 u84 u85 u86 u87 u88 u89 u90 u91 u92 u93 u94 u95 u96 u97 u98 u99 u100 u101 u102 u103 u104 u105 u106 u107 u108 u109 u110 u111 u112 u113 u114 u115 u116 u117 u118 u119 u120 u121 u122 u123 u124 u125 u126 u127 u128 u129 u130 u131 u132 u133 u134 u135 : Value}
    (rA : Rd w aa la ca A)
    (rB : Rd w ab lb cb B)
    (zA : Hid (aa = none → ca = 0))
    (zB : Hid (ab = none → cb = 0))
    (sA : la ≤ 1048576)
    (sB : lb ≤ 1048576)
    (hva : Hid (num na A = va))
    (hvb : Hid (num nb B = vb))
    (hxl : xl ≤ 33554432)
    (hyl : yl ≤ 33554432)
    (he : Hid (e = if 4096 < xl ∨ 4096 < yl then 10 else if yl = 0 then 11 else 0))
    (hbad : Hid (e = if (tooLong A || tooLong B) = true then 10 else if vb = 0 then 11 else 0))
    (hyz : Hid (yl = 0 ↔ vb = 0))
    (hg : Hid (gt < gu))
    (hbk : Below w.heap.size w wk)
    (pa : Pr wk g2 24 (.bool na) (.slice aa la ca))
    (pb : Pr wk g3 24 (.bool nb) (.slice ab lb cb))
    (px : Pr wk g6 28 (.bool nx) (.slice xo xl xc))
    (bx : Big wk nx xo xl xc va)
    (py : Pr wk g7 28 (.bool ny) (.slice yo yl yc))
    (b_y : Big wk ny yo yl yc vb)
    (pt : Pr wk g9 24 (.bool na) (.slice (some ⟨gt, 0, none⟩) la ct))
    (lt_ : Lent w.heap.size wk gt la ct A)
    (pu : Pr wk g10 24 (.bool nb) (.slice (some ⟨gu, 0, none⟩) lb cu))
    (lu : Lent w.heap.size wk gu lb cu B)
    (hk : Below wk.heap.size wk wr) :
    Code.wp Tryd.prog (tail5 8) (Q5 w) ⟨#[u0, u1, .pointer (some ⟨g2, 0, none⟩), .pointer (some ⟨g3, 0, none⟩), u4, .bool true, .pointer (some ⟨g6, 0, none⟩), .pointer (some ⟨g7, 0, none⟩), .int .i64 e, .pointer (some ⟨g9, 0, none⟩), .pointer (some ⟨g10, 0, none⟩), u11, u12, u13, u14, u15, u16, u17, u18, u19, u20, u21, u22, u23, u24, u25, u26, u27, u28, u29, u30, u31, u32, u33, u34, u35, u36, u37, u38, u39, u40, u41, u42, u43, u44, u45, u46, u47, u48, u49, u50, u51, u52, u53, u54, u55, u56, u57, u58, u59, u60, u61, u62, u63, u64, u65, u66, u67, u68, u69, u70, u71, u72, u73, u74, u75, u76, u77, u78, u79, u80, u81, u82, u83, u84, u85, u86, u87, u88, u89, u90, u91, u92, u93, u94, u95, u96, u97, u98, u99, u100, u101, u102, u103, u104, u105, u106, u107, u108, u109, u110, u111, u112, u113, u114, u115, u116, u117, u118, u119, u120, u121, u122, u123, u124, u125, u126, u127, u128, u129, u130, u131, u132, u133, u134, u135], []⟩ wr := by
  obtain ⟨kpt0, kpt1, _, _⟩ := two_cells (pt.keep hk)
  obtain ⟨kpu0, kpu1, _, _⟩ := two_cells (pu.keep hk)
  show Code.wp Tryd.prog (Code.seq (head5 8) (tail5 9)) _ _ _
  conv => arg 2; arg 1; whnf
  go_wp2_with fail
  refine (quoRemE ((lt_.keep hk).rd rA.ok (by omega)) ((lu.keep hk).rd rB.ok (by omega)) hva.out hvb.out hbad.out hk.size).mono ?_
  rintro r w2 ⟨n1, o1, l1, n2, o2, l2, c1, q1, s1, rfl, hA1, hA2, hdj, htd, hb2⟩
  have hkk := hk.trans (hb2.mono hk.size)
  go_wp2
  exact DI_9 (rA) (rB) (zA) (zB) (sA) (sB) (hva) (hvb) (hxl) (hyl) (he) (hbad) (hyz) (hg) (htd) (hbk) (pa) (pb) (px) (bx) (py) (b_y) (pt) (lt_) (pu) (lu) ((hkk.alloc hkk.size _).alloc (hkk.alloc hkk.size _).size _) ((Aw.new hA1.1).alloc _) (Aw.new2 hA2.1) (hdj)

set_option maxRecDepth 100000 in
set_option maxHeartbeats 8000000 in
theorem DI_7 {w wr : World} {na : Bool} {nb : Bool} {nx : Bool} {ny : Bool} {aa : Option Addr} {ab : Option Addr} {xo : Option Addr} {yo : Option Addr} {A : List Nat} {B : List Nat} {va : Int} {vb : Int} {e : Int} {la : Nat} {ca : Nat} {lb : Nat} {cb : Nat} {xl : Nat} {xc : Nat} {yl : Nat} {yc : Nat} {g2 : Nat} {g3 : Nat} {g6 : Nat} {g7 : Nat} {g9 : Nat} {gt : Nat} {ct : Nat} {u0 u1 u4 u10 u11 u12 u13 u14 u15 u16 u17 u18 u19 u20 u21 u22 u23 u24 u25 u26 u27 u28 u29 u30 u31 u32 u33 u34 u35 u36 u37 u38 u39 u40 u41 u42 u43 u44 u45 u46 u47 u48 u49 u50 u51 u52 u53 u54 u55 u56 u57 u58 u59 u60 u61 u62 u63 u64 u65 u66 u67 u68 u69 u70 u71 u72 u73 u74 u75 u76 u77 u78 u79 u80 u81 u82 u83 u84 u85 u86 u87 u88 u89 u90 u91 u92 u93 u94 u95 u96 u97 u98 u99 u100 u101 u102 u103 u104 u105 u106 u107 u108 u109 u110 u111 u112 u113 u114 u115 u116 u117 u118 u119 u120 u121 u122 u123 u124 u125 u126 u127 u128 u129 u130 u131 u132 u133 u134 u135 : Value}
    (rA : Rd w aa la ca A)
    (rB : Rd w ab lb cb B)
    (zA : Hid (aa = none → ca = 0))
    (zB : Hid (ab = none → cb = 0))
    (sA : la ≤ 1048576)
    (sB : lb ≤ 1048576)
    (hva : Hid (num na A = va))
    (hvb : Hid (num nb B = vb))
    (hxl : xl ≤ 33554432)
    (hyl : yl ≤ 33554432)
    (he : Hid (e = if 4096 < xl ∨ 4096 < yl then 10 else if yl = 0 then 11 else 0))
    (hbad : Hid (e = if (tooLong A || tooLong B) = true then 10 else if vb = 0 then 11 else 0))
    (hyz : Hid (yl = 0 ↔ vb = 0))
    (hb : Below w.heap.size w wr)
    (pa : Pr wr g2 24 (.bool na) (.slice aa la ca))
    (pb : Pr wr g3 24 (.bool nb) (.slice ab lb cb))
    (px : Pr wr g6 28 (.bool nx) (.slice xo xl xc))
    (bx : Big wr nx xo xl xc va)
    (py : Pr wr g7 28 (.bool ny) (.slice yo yl yc))
    (b_y : Big wr ny yo yl yc vb)
    (pt : Pr wr g9 24 (.bool na) (.slice (some ⟨gt, 0, none⟩) la ct))
    (lt_ : Lent w.heap.size wr gt la ct A) :
    Code.wp Tryd.prog (tail5 7) (Q5 w) ⟨#[u0, u1, .pointer (some ⟨g2, 0, none⟩), .pointer (some ⟨g3, 0, none⟩), u4, .bool true, .pointer (some ⟨g6, 0, none⟩), .pointer (some ⟨g7, 0, none⟩), .int .i64 e, .pointer (some ⟨g9, 0, none⟩), u10, u11, u12, u13, u14, u15, u16, u17, u18, u19, u20, u21, u22, u23, u24, u25, u26, u27, u28, u29, u30, u31, u32, u33, u34, u35, u36, u37, u38, u39, u40, u41, u42, u43, u44, u45, u46, u47, u48, u49, u50, u51, u52, u53, u54, u55, u56, u57, u58, u59, u60, u61, u62, u63, u64, u65, u66, u67, u68, u69, u70, u71, u72, u73, u74, u75, u76, u77, u78, u79, u80, u81, u82, u83, u84, u85, u86, u87, u88, u89, u90, u91, u92, u93, u94, u95, u96, u97, u98, u99, u100, u101, u102, u103, u104, u105, u106, u107, u108, u109, u110, u111, u112, u113, u114, u115, u116, u117, u118, u119, u120, u121, u122, u123, u124, u125, u126, u127, u128, u129, u130, u131, u132, u133, u134, u135], []⟩ wr := by
  obtain ⟨kpb0, kpb1, _, _⟩ := two_cells pb
  show Code.wp Tryd.prog (Code.seq (head5 7) (tail5 8)) _ _ _
  conv => arg 2; arg 1; whnf
  go_wp2_with fail
  refine (lentR nb ab lb cb B _ (rB.keep hb) zB.out (by omega)).mono ?_
  rintro e_ w2 ⟨gu, cu, rfl, lu, hb2⟩
  have hgg := Nat.lt_of_lt_of_le lt_.ge.2 lu.ge.1
  go_wp2
  have hb3 := hb.trans (hb2.mono hb.size)
  exact DI_8 (rA) (rB) (zA) (zB) (sA) (sB) (hva) (hvb) (hxl) (hyl) (he) (hbad) (hyz) (hid hgg) (hb3.alloc hb3.size _) ((pa.keep hb2).alloc _) ((pb.keep hb2).alloc _) ((px.keep hb2).alloc _) ((bx.keep hb2).alloc _) ((py.keep hb2).alloc _) ((b_y.keep hb2).alloc _) ((pt.keep hb2).alloc _) ((lt_.keep hb2).alloc _) (Pr.new _ _ _ _) ((lu.base hb.size).alloc _) (Below.refl _ _)

set_option maxRecDepth 100000 in
set_option maxHeartbeats 8000000 in
theorem DI_6 {w wr : World} {na : Bool} {nb : Bool} {nx : Bool} {ny : Bool} {aa : Option Addr} {ab : Option Addr} {xo : Option Addr} {yo : Option Addr} {A : List Nat} {B : List Nat} {va : Int} {vb : Int} {e : Int} {la : Nat} {ca : Nat} {lb : Nat} {cb : Nat} {xl : Nat} {xc : Nat} {yl : Nat} {yc : Nat} {g2 : Nat} {g3 : Nat} {g6 : Nat} {g7 : Nat} {u0 u1 u4 u9 u10 u11 u12 u13 u14 u15 u16 u17 u18 u19 u20 u21 u22 u23 u24 u25 u26 u27 u28 u29 u30 u31 u32 u33 u34 u35 u36 u37 u38 u39 u40 u41 u42 u43 u44 u45 u46 u47 u48 u49 u50 u51 u52 u53 u54 u55 u56 u57 u58 u59 u60 u61 u62 u63 u64 u65 u66 u67 u68 u69 u70 u71 u72 u73 u74 u75 u76 u77 u78 u79 u80 u81 u82 u83 u84 u85 u86 u87 u88 u89 u90 u91 u92 u93 u94 u95 u96 u97 u98 u99 u100 u101 u102 u103 u104 u105 u106 u107 u108 u109 u110 u111 u112 u113 u114 u115 u116 u117 u118 u119 u120 u121 u122 u123 u124 u125 u126 u127 u128 u129 u130 u131 u132 u133 u134 u135 : Value}
    (rA : Rd w aa la ca A)
    (rB : Rd w ab lb cb B)
    (zA : Hid (aa = none → ca = 0))
    (zB : Hid (ab = none → cb = 0))
    (sA : la ≤ 1048576)
    (sB : lb ≤ 1048576)
    (hva : Hid (num na A = va))
    (hvb : Hid (num nb B = vb))
    (hxl : xl ≤ 33554432)
    (hyl : yl ≤ 33554432)
    (he : Hid (e = if 4096 < xl ∨ 4096 < yl then 10 else if yl = 0 then 11 else 0))
    (hbad : Hid (e = if (tooLong A || tooLong B) = true then 10 else if vb = 0 then 11 else 0))
    (hyz : Hid (yl = 0 ↔ vb = 0))
    (hb : Below w.heap.size w wr)
    (pa : Pr wr g2 24 (.bool na) (.slice aa la ca))
    (pb : Pr wr g3 24 (.bool nb) (.slice ab lb cb))
    (px : Pr wr g6 28 (.bool nx) (.slice xo xl xc))
    (bx : Big wr nx xo xl xc va)
    (py : Pr wr g7 28 (.bool ny) (.slice yo yl yc))
    (b_y : Big wr ny yo yl yc vb) :
    Code.wp Tryd.prog (tail5 6) (Q5 w) ⟨#[u0, u1, .pointer (some ⟨g2, 0, none⟩), .pointer (some ⟨g3, 0, none⟩), u4, .bool true, .pointer (some ⟨g6, 0, none⟩), .pointer (some ⟨g7, 0, none⟩), .int .i64 e, u9, u10, u11, u12, u13, u14, u15, u16, u17, u18, u19, u20, u21, u22, u23, u24, u25, u26, u27, u28, u29, u30, u31, u32, u33, u34, u35, u36, u37, u38, u39, u40, u41, u42, u43, u44, u45, u46, u47, u48, u49, u50, u51, u52, u53, u54, u55, u56, u57, u58, u59, u60, u61, u62, u63, u64, u65, u66, u67, u68, u69, u70, u71, u72, u73, u74, u75, u76, u77, u78, u79, u80, u81, u82, u83, u84, u85, u86, u87, u88, u89, u90, u91, u92, u93, u94, u95, u96, u97, u98, u99, u100, u101, u102, u103, u104, u105, u106, u107, u108, u109, u110, u111, u112, u113, u114, u115, u116, u117, u118, u119, u120, u121, u122, u123, u124, u125, u126, u127, u128, u129, u130, u131, u132, u133, u134, u135], []⟩ wr := by
  obtain ⟨kpa0, kpa1, _, _⟩ := two_cells pa
  show Code.wp Tryd.prog (Code.seq (head5 6) (tail5 7)) _ _ _
  conv => arg 2; arg 1; whnf
  go_wp2_with fail
  refine (lentR na aa la ca A _ (rA.keep hb) zA.out (by omega)).mono ?_
  rintro e w2 ⟨g_, c_, rfl, lx, hb2⟩
  go_wp2
  have hb3 := hb.trans (hb2.mono hb.size)
  exact DI_7 (rA) (rB) (zA) (zB) (sA) (sB) (hva) (hvb) (hxl) (hyl) (he) (hbad) (hyz) (hb3.alloc hb3.size _) ((pa.keep hb2).alloc _) ((pb.keep hb2).alloc _) ((px.keep hb2).alloc _) ((bx.keep hb2).alloc _) ((py.keep hb2).alloc _) ((b_y.keep hb2).alloc _) (Pr.new _ _ _ _) ((lx.base hb.size).alloc _)

set_option maxRecDepth 100000 in
set_option maxHeartbeats 8000000 in
theorem DI_5 {w wr : World} {na : Bool} {nb : Bool} {nx : Bool} {ny : Bool} {aa : Option Addr} {ab : Option Addr} {xo : Option Addr} {yo : Option Addr} {A : List Nat} {B : List Nat} {va : Int} {vb : Int} {e0 : Int} {la : Nat} {ca : Nat} {lb : Nat} {cb : Nat} {xl : Nat} {xc : Nat} {yl : Nat} {yc : Nat} {g2 : Nat} {g3 : Nat} {g6 : Nat} {g7 : Nat} {u0 u1 u4 u9 u10 u11 u12 u13 u14 u15 u16 u17 u18 u19 u20 u21 u22 u23 u24 u25 u26 u27 u28 u29 u30 u31 u32 u33 u34 u35 u36 u37 u38 u39 u40 u41 u42 u43 u44 u45 u46 u47 u48 u49 u50 u51 u52 u53 u54 u55 u56 u57 u58 u59 u60 u61 u62 u63 u64 u65 u66 u67 u68 u69 u70 u71 u72 u73 u74 u75 u76 u77 u78 u79 u80 u81 u82 u83 u84 u85 u86 u87 u88 u89 u90 u91 u92 u93 u94 u95 u96 u97 u98 u99 u100 u101 u102 u103 u104 u105 u106 u107 u108 u109 u110 u111 u112 u113 u114 u115 u116 u117 u118 u119 u120 u121 u122 u123 u124 u125 u126 u127 u128 u129 u130 u131 u132 u133 u134 u135 : Value}
    (rA : Rd w aa la ca A)
    (rB : Rd w ab lb cb B)
    (zA : Hid (aa = none → ca = 0))
    (zB : Hid (ab = none → cb = 0))
    (sA : la ≤ 1048576)
    (sB : lb ≤ 1048576)
    (hva : Hid (num na A = va))
    (hvb : Hid (num nb B = vb))
    (hxl : xl ≤ 33554432)
    (hyl : yl ≤ 33554432)
    (he0 : Hid (e0 = if 4096 < xl ∨ 4096 < yl then 10 else 0))
    (hb : Below w.heap.size w wr)
    (pa : Pr wr g2 24 (.bool na) (.slice aa la ca))
    (pb : Pr wr g3 24 (.bool nb) (.slice ab lb cb))
    (px : Pr wr g6 28 (.bool nx) (.slice xo xl xc))
    (bx : Big wr nx xo xl xc va)
    (py : Pr wr g7 28 (.bool ny) (.slice yo yl yc))
    (b_y : Big wr ny yo yl yc vb) :
    Code.wp Tryd.prog (tail5 5) (Q5 w) ⟨#[u0, u1, .pointer (some ⟨g2, 0, none⟩), .pointer (some ⟨g3, 0, none⟩), u4, .bool true, .pointer (some ⟨g6, 0, none⟩), .pointer (some ⟨g7, 0, none⟩), .int .i64 e0, u9, u10, u11, u12, u13, u14, u15, u16, u17, u18, u19, u20, u21, u22, u23, u24, u25, u26, u27, u28, u29, u30, u31, u32, u33, u34, u35, u36, u37, u38, u39, u40, u41, u42, u43, u44, u45, u46, u47, u48, u49, u50, u51, u52, u53, u54, u55, u56, u57, u58, u59, u60, u61, u62, u63, u64, u65, u66, u67, u68, u69, u70, u71, u72, u73, u74, u75, u76, u77, u78, u79, u80, u81, u82, u83, u84, u85, u86, u87, u88, u89, u90, u91, u92, u93, u94, u95, u96, u97, u98, u99, u100, u101, u102, u103, u104, u105, u106, u107, u108, u109, u110, u111, u112, u113, u114, u115, u116, u117, u118, u119, u120, u121, u122, u123, u124, u125, u126, u127, u128, u129, u130, u131, u132, u133, u134, u135], []⟩ wr := by
  obtain ⟨kpy0, kpy1, _, _⟩ := two_cells py
  have hyz : Hid (yl = 0 ↔ vb = 0) := hid (by
    rw [b_y.len]
    constructor
    · intro h
      have := (bl_le vb.natAbs 0).1 (by omega)
      omega
    · intro h; subst h; rfl)
  have hbm : (if (tooLong A || tooLong B) = true then (10 : Int) else if vb = 0 then 11 else 0) = if 4096 < xl ∨ 4096 < yl then 10 else if yl = 0 then 11 else 0 := by
    have h1 := bad_of hva.out hvb.out bx.len b_y.len
    by_cases h2 : 4096 < xl ∨ 4096 < yl
    · rw [if_pos h2] at h1 ⊢
      cases h3 : (tooLong A || tooLong B)
      · rw [h3] at h1; exact absurd h1 (by decide)
      · rfl
    · rw [if_neg h2] at h1 ⊢
      cases h3 : (tooLong A || tooLong B)
      · by_cases h4 : yl = 0
        · rw [if_pos h4, if_pos (hyz.out.1 h4)]; rfl
        · rw [if_neg h4, if_neg (fun h => h4 (hyz.out.2 h))]; rfl
      · rw [h3] at h1; exact absurd h1 (by decide)
  show Code.wp Tryd.prog (Code.seq (head5 5) (tail5 6)) _ _ _
  conv => arg 2; arg 1; whnf
  by_cases hl : 4096 < xl ∨ 4096 < yl
  · have hE : e0 = 10 := by rw [he0.out, if_pos hl]
    subst hE
    have hbd : Hid ((10 : Int) = if (tooLong A || tooLong B) = true then 10 else if vb = 0 then 11 else 0) := hid (by rw [hbm, if_pos hl])
    have he : Hid ((10 : Int) = if 4096 < xl ∨ 4096 < yl then 10 else if yl = 0 then 11 else 0) := hid (by rw [if_pos hl])
    clear hbm hl
    go_wp2
    exact DI_6 (rA) (rB) (zA) (zB) (sA) (sB) (hva) (hvb) (hxl) (hyl) (he) (hbd) (hyz) (hb) (pa) (pb) (px) (bx) (py) (b_y)
  · have hE : e0 = 0 := by rw [he0.out, if_neg hl]
    subst hE
    by_cases hz : yl = 0
    · have hbd : Hid ((11 : Int) = if (tooLong A || tooLong B) = true then 10 else if vb = 0 then 11 else 0) := hid (by rw [hbm, if_neg hl, if_pos hz])
      have he : Hid ((11 : Int) = if 4096 < xl ∨ 4096 < yl then 10 else if yl = 0 then 11 else 0) := hid (by rw [if_neg hl, if_pos hz])
      have hz1 : ((yl : Int) == 0) = true := by simp; exact hz
      have HZ := hid hz
      clear hbm hl hz
      go_wp2
      exact DI_6 (rA) (rB) (zA) (zB) (sA) (sB) (hva) (hvb) (hxl) (hyl) (he) (hbd) (hyz) (hb) (pa) (pb) (px) (bx) (py) (b_y)
    · have hbd : Hid ((0 : Int) = if (tooLong A || tooLong B) = true then 10 else if vb = 0 then 11 else 0) := hid (by rw [hbm, if_neg hl, if_neg hz])
      have he : Hid ((0 : Int) = if 4096 < xl ∨ 4096 < yl then 10 else if yl = 0 then 11 else 0) := hid (by rw [if_neg hl, if_neg hz])
      have hz1 : ((yl : Int) == 0) = false := by simp; exact hz
      have HZ := hid hz
      clear hbm hl hz
      go_wp2
      exact DI_6 (rA) (rB) (zA) (zB) (sA) (sB) (hva) (hvb) (hxl) (hyl) (he) (hbd) (hyz) (hb) (pa) (pb) (px) (bx) (py) (b_y)

set_option maxRecDepth 100000 in
set_option maxHeartbeats 8000000 in
theorem DI_4 {w wr : World} {na : Bool} {nb : Bool} {nx : Bool} {ny : Bool} {aa : Option Addr} {ab : Option Addr} {xo : Option Addr} {yo : Option Addr} {A : List Nat} {B : List Nat} {va : Int} {vb : Int} {la : Nat} {ca : Nat} {lb : Nat} {cb : Nat} {xl : Nat} {xc : Nat} {yl : Nat} {yc : Nat} {g2 : Nat} {g3 : Nat} {g6 : Nat} {g7 : Nat} {u0 u1 u4 u8 u9 u10 u11 u12 u13 u14 u15 u16 u17 u18 u19 u20 u21 u22 u23 u24 u25 u26 u27 u28 u29 u30 u31 u32 u33 u34 u35 u36 u37 u38 u39 u40 u41 u42 u43 u44 u45 u46 u47 u48 u49 u50 u51 u52 u53 u54 u55 u56 u57 u58 u59 u60 u61 u62 u63 u64 u65 u66 u67 u68 u69 u70 u71 u72 u73 u74 u75 u76 u77 u78 u79 u80 u81 u82 u83 u84 u85 u86 u87 u88 u89 u90 u91 u92 u93 u94 u95 u96 u97 u98 u99 u100 u101 u102 u103 u104 u105 u106 u107 u108 u109 u110 u111 u112 u113 u114 u115 u116 u117 u118 u119 u120 u121 u122 u123 u124 u125 u126 u127 u128 u129 u130 u131 u132 u133 u134 u135 : Value}
    (rA : Rd w aa la ca A)
    (rB : Rd w ab lb cb B)
    (zA : Hid (aa = none → ca = 0))
    (zB : Hid (ab = none → cb = 0))
    (sA : la ≤ 1048576)
    (sB : lb ≤ 1048576)
    (hva : Hid (num na A = va))
    (hvb : Hid (num nb B = vb))
    (hxl : xl ≤ 33554432)
    (hyl : yl ≤ 33554432)
    (hb : Below w.heap.size w wr)
    (pa : Pr wr g2 24 (.bool na) (.slice aa la ca))
    (pb : Pr wr g3 24 (.bool nb) (.slice ab lb cb))
    (px : Pr wr g6 28 (.bool nx) (.slice xo xl xc))
    (bx : Big wr nx xo xl xc va)
    (py : Pr wr g7 28 (.bool ny) (.slice yo yl yc))
    (b_y : Big wr ny yo yl yc vb) :
    Code.wp Tryd.prog (tail5 4) (Q5 w) ⟨#[u0, u1, .pointer (some ⟨g2, 0, none⟩), .pointer (some ⟨g3, 0, none⟩), u4, .bool true, .pointer (some ⟨g6, 0, none⟩), .pointer (some ⟨g7, 0, none⟩), u8, u9, u10, u11, u12, u13, u14, u15, u16, u17, u18, u19, u20, u21, u22, u23, u24, u25, u26, u27, u28, u29, u30, u31, u32, u33, u34, u35, u36, u37, u38, u39, u40, u41, u42, u43, u44, u45, u46, u47, u48, u49, u50, u51, u52, u53, u54, u55, u56, u57, u58, u59, u60, u61, u62, u63, u64, u65, u66, u67, u68, u69, u70, u71, u72, u73, u74, u75, u76, u77, u78, u79, u80, u81, u82, u83, u84, u85, u86, u87, u88, u89, u90, u91, u92, u93, u94, u95, u96, u97, u98, u99, u100, u101, u102, u103, u104, u105, u106, u107, u108, u109, u110, u111, u112, u113, u114, u115, u116, u117, u118, u119, u120, u121, u122, u123, u124, u125, u126, u127, u128, u129, u130, u131, u132, u133, u134, u135], []⟩ wr := by
  obtain ⟨kpx0, kpx1, _, _⟩ := two_cells px
  obtain ⟨kpy0, kpy1, _, _⟩ := two_cells py
  show Code.wp Tryd.prog (Code.seq (head5 4) (tail5 5)) _ _ _
  conv => arg 2; arg 1; whnf
  go_wp2_with fail
  refine (longR nx xo xl xc ny yo yl yc _).mono ?_
  rintro r w2 ⟨rfl, hb2⟩
  obtain ⟨e0, hx1⟩ : ∃ e0 : Int, e0 = if 4096 < xl ∨ 4096 < yl then 10 else 0 := ⟨_, rfl⟩
  rw [← hx1]
  have he0 := hid hx1
  clear hx1
  go_wp2
  have hb3 := hb.trans (hb2.mono hb.size)
  exact DI_5 (rA) (rB) (zA) (zB) (sA) (sB) (hva) (hvb) (hxl) (hyl) (he0) (hb3) (pa.keep hb2) (pb.keep hb2) (px.keep hb2) (bx.keep hb2) (py.keep hb2) (b_y.keep hb2)

set_option maxRecDepth 100000 in
set_option maxHeartbeats 8000000 in
theorem DI_3 {w wr : World} {na : Bool} {nb : Bool} {nx : Bool} {aa : Option Addr} {ab : Option Addr} {xo : Option Addr} {A : List Nat} {B : List Nat} {va : Int} {vb : Int} {la : Nat} {ca : Nat} {lb : Nat} {cb : Nat} {xl : Nat} {xc : Nat} {g2 : Nat} {g3 : Nat} {g6 : Nat} {u0 u1 u4 u7 u8 u9 u10 u11 u12 u13 u14 u15 u16 u17 u18 u19 u20 u21 u22 u23 u24 u25 u26 u27 u28 u29 u30 u31 u32 u33 u34 u35 u36 u37 u38 u39 u40 u41 u42 u43 u44 u45 u46 u47 u48 u49 u50 u51 u52 u53 u54 u55 u56 u57 u58 u59 u60 u61 u62 u63 u64 u65 u66 u67 u68 u69 u70 u71 u72 u73 u74 u75 u76 u77 u78 u79 u80 u81 u82 u83 u84 u85 u86 u87 u88 u89 u90 u91 u92 u93 u94 u95 u96 u97 u98 u99 u100 u101 u102 u103 u104 u105 u106 u107 u108 u109 u110 u111 u112 u113 u114 u115 u116 u117 u118 u119 u120 u121 u122 u123 u124 u125 u126 u127 u128 u129 u130 u131 u132 u133 u134 u135 : Value}
    (rA : Rd w aa la ca A)
    (rB : Rd w ab lb cb B)
    (zA : Hid (aa = none → ca = 0))
    (zB : Hid (ab = none → cb = 0))
    (sA : la ≤ 1048576)
    (sB : lb ≤ 1048576)
    (hva : Hid (num na A = va))
    (hvb : Hid (num nb B = vb))
    (hxl : xl ≤ 33554432)
    (hb : Below w.heap.size w wr)
    (pa : Pr wr g2 24 (.bool na) (.slice aa la ca))
    (pb : Pr wr g3 24 (.bool nb) (.slice ab lb cb))
    (px : Pr wr g6 28 (.bool nx) (.slice xo xl xc))
    (bx : Big wr nx xo xl xc va) :
    Code.wp Tryd.prog (tail5 3) (Q5 w) ⟨#[u0, u1, .pointer (some ⟨g2, 0, none⟩), .pointer (some ⟨g3, 0, none⟩), u4, .bool true, .pointer (some ⟨g6, 0, none⟩), u7, u8, u9, u10, u11, u12, u13, u14, u15, u16, u17, u18, u19, u20, u21, u22, u23, u24, u25, u26, u27, u28, u29, u30, u31, u32, u33, u34, u35, u36, u37, u38, u39, u40, u41, u42, u43, u44, u45, u46, u47, u48, u49, u50, u51, u52, u53, u54, u55, u56, u57, u58, u59, u60, u61, u62, u63, u64, u65, u66, u67, u68, u69, u70, u71, u72, u73, u74, u75, u76, u77, u78, u79, u80, u81, u82, u83, u84, u85, u86, u87, u88, u89, u90, u91, u92, u93, u94, u95, u96, u97, u98, u99, u100, u101, u102, u103, u104, u105, u106, u107, u108, u109, u110, u111, u112, u113, u114, u115, u116, u117, u118, u119, u120, u121, u122, u123, u124, u125, u126, u127, u128, u129, u130, u131, u132, u133, u134, u135], []⟩ wr := by
  obtain ⟨kpb0, kpb1, _, _⟩ := two_cells pb
  show Code.wp Tryd.prog (Code.seq (head5 3) (tail5 4)) _ _ _
  conv => arg 2; arg 1; whnf
  go_wp2_with fail
  refine (ofR nb ab lb cb B _ (rB.keep hb) (by omega)).mono ?_
  rintro e w2 ⟨ny, yo, yl, yc, rfl, hl, bnew, hb2⟩
  go_wp2
  have hb3 := hb.trans (hb2.mono hb.size)
  exact DI_4 (rA) (rB) (zA) (zB) (sA) (sB) (hva) (hvb) (hxl) (by omega) (hb3.alloc hb3.size _) ((pa.keep hb2).alloc _) ((pb.keep hb2).alloc _) ((px.keep hb2).alloc _) ((bx.keep hb2).alloc _) (Pr.new _ _ _ _) ((bnew.cast hvb.out).alloc _)

set_option maxRecDepth 100000 in
set_option maxHeartbeats 8000000 in
theorem DI_2 {w wr : World} {na : Bool} {nb : Bool} {aa : Option Addr} {ab : Option Addr} {A : List Nat} {B : List Nat} {va : Int} {vb : Int} {la : Nat} {ca : Nat} {lb : Nat} {cb : Nat} {g2 : Nat} {g3 : Nat} {u0 u1 u4 u6 u7 u8 u9 u10 u11 u12 u13 u14 u15 u16 u17 u18 u19 u20 u21 u22 u23 u24 u25 u26 u27 u28 u29 u30 u31 u32 u33 u34 u35 u36 u37 u38 u39 u40 u41 u42 u43 u44 u45 u46 u47 u48 u49 u50 u51 u52 u53 u54 u55 u56 u57 u58 u59 u60 u61 u62 u63 u64 u65 u66 u67 u68 u69 u70 u71 u72 u73 u74 u75 u76 u77 u78 u79 u80 u81 u82 u83 u84 u85 u86 u87 u88 u89 u90 u91 u92 u93 u94 u95 u96 u97 u98 u99 u100 u101 u102 u103 u104 u105 u106 u107 u108 u109 u110 u111 u112 u113 u114 u115 u116 u117 u118 u119 u120 u121 u122 u123 u124 u125 u126 u127 u128 u129 u130 u131 u132 u133 u134 u135 : Value}
    (rA : Rd w aa la ca A)
    (rB : Rd w ab lb cb B)
    (zA : Hid (aa = none → ca = 0))
    (zB : Hid (ab = none → cb = 0))
    (sA : la ≤ 1048576)
    (sB : lb ≤ 1048576)
    (hva : Hid (num na A = va))
    (hvb : Hid (num nb B = vb))
    (hb : Below w.heap.size w wr)
    (pa : Pr wr g2 24 (.bool na) (.slice aa la ca))
    (pb : Pr wr g3 24 (.bool nb) (.slice ab lb cb)) :
    Code.wp Tryd.prog (tail5 2) (Q5 w) ⟨#[u0, u1, .pointer (some ⟨g2, 0, none⟩), .pointer (some ⟨g3, 0, none⟩), u4, .bool true, u6, u7, u8, u9, u10, u11, u12, u13, u14, u15, u16, u17, u18, u19, u20, u21, u22, u23, u24, u25, u26, u27, u28, u29, u30, u31, u32, u33, u34, u35, u36, u37, u38, u39, u40, u41, u42, u43, u44, u45, u46, u47, u48, u49, u50, u51, u52, u53, u54, u55, u56, u57, u58, u59, u60, u61, u62, u63, u64, u65, u66, u67, u68, u69, u70, u71, u72, u73, u74, u75, u76, u77, u78, u79, u80, u81, u82, u83, u84, u85, u86, u87, u88, u89, u90, u91, u92, u93, u94, u95, u96, u97, u98, u99, u100, u101, u102, u103, u104, u105, u106, u107, u108, u109, u110, u111, u112, u113, u114, u115, u116, u117, u118, u119, u120, u121, u122, u123, u124, u125, u126, u127, u128, u129, u130, u131, u132, u133, u134, u135], []⟩ wr := by
  obtain ⟨kpa0, kpa1, _, _⟩ := two_cells pa
  show Code.wp Tryd.prog (Code.seq (head5 2) (tail5 3)) _ _ _
  conv => arg 2; arg 1; whnf
  go_wp2_with fail
  refine (ofR na aa la ca A _ (rA.keep hb) (by omega)).mono ?_
  rintro e w2 ⟨nx, xo, xl, xc, rfl, hl, bnew, hb2⟩
  go_wp2
  have hb3 := hb.trans (hb2.mono hb.size)
  exact DI_3 (rA) (rB) (zA) (zB) (sA) (sB) (hva) (hvb) (by omega) (hb3.alloc hb3.size _) ((pa.keep hb2).alloc _) ((pb.keep hb2).alloc _) (Pr.new _ _ _ _) ((bnew.cast hva.out).alloc _)

set_option maxRecDepth 100000 in
set_option maxHeartbeats 2000000 in
theorem divides_yes {na : Bool} {aa : Option Addr} {la ca : Nat} {A : List Nat} {nb : Bool} {ab : Option Addr} {lb cb : Nat} {B : List Nat} (w : World) (hA : Rd w aa la ca A) (sA : la ≤ 1048576) (zA : aa = none → ca = 0) (hB : Rd w ab lb cb B) (sB : lb ≤ 1048576) (zB : ab = none → cb = 0) :
    Calls Tryd.prog 5 #[.agg #[.bool na, .slice aa la ca], .agg #[.bool nb, .slice ab lb cb]] w fun e w' => e = .returned (.bool true) ∧ Below w.heap.size w w' := by
  have X0 := (Pr.new w 24 (.bool na) (.slice aa la ca)).alloc (.cells #[.bool nb, .slice ab lb cb] 24)
  have X1 := Pr.new (w.alloc (.cells #[.bool na, .slice aa la ca] 24)) 24 (.bool nb) (.slice ab lb cb)
  rw [show (w.alloc (.cells #[.bool na, .slice aa la ca] 24)).heap.size = w.heap.size + 1 by simp] at X1
  have hb := ((Below.refl w.heap.size w).alloc (Nat.le_refl _) (.cells #[.bool na, .slice aa la ca] 24)).alloc (by simp) (.cells #[.bool nb, .slice ab lb cb] 24)
  have z1 := hid zA
  have z2 := hid zB
  clear zA zB
  go_enter Tryd.func5, Tryd.ntmps5
  change Code.wp Tryd.prog (Code.seq (head5 0) (tail5 1)) (Q5 w) _ _
  conv => arg 2; arg 1; whnf
  go_wp2
  show Code.wp Tryd.prog (Code.seq (head5 1) (tail5 2)) _ _ _
  conv => arg 2; arg 1; whnf
  go_wp2_with fail
  refine (awake_yes _).mono ?_
  rintro e w2 ⟨rfl, hb2⟩
  go_wp2
  exact DI_2 hA hB z1 z2 sA sB (hid rfl) (hid rfl) (hb.trans (hb2.mono hb.size)) (X0.keep hb2) (X1.keep hb2)

end Go.Proofs.YtldafoojkimdeaaDoor

namespace Go.Proofs.YtldafoojkimdeaaDoor
open Go.ChangeShapes Go.WideShapes Go.ChangeAt Go.RowKit Go.Joins Lm

theorem divides_params : ∀ t ∈ Tryd.f5.params.toList, Tryd.prog.readableRec t = true ∧ t < Tryd.prog.types.size := by
  intro t ht
  rw [Tryd.params5] at ht
  simp at ht
  subst ht; exact reads24

set_option maxRecDepth 100000 in
theorem divides_contract (H : Type) (enc : TypeId × Value → H) (W : World) (base : Nat) (args : Array Value) (ds gs : List (DataW H)) (before : List MemPlace)
    (hval : ∀ (j : Nat) t v, Tryd.f5.params[j]? = some t → args[j]? = some v → Value.okWide Tryd.prog W .any base t v)
    (hW : DataW.Whole enc Tryd.prog Tryd.f5.params.toList Rows.bigintDividesSpec.vars false W args.toList ds gs before)
    (hsz : (DataW.weightsEach Tryd.prog (Tryd.f5.params.toList ++ (OpenSpec.ofChange Rows.bigintDividesSpec).bare.plain.varTypes Tryd.prog) (ds ++ gs)).all (· ≤ reachBytes) = true) (hk : Rows.uptoBulkAll (ds ++ gs) ≤ 1048576) :
    Calls Tryd.prog 5 args W fun e W' => ∃ v, e = .returned v ∧ Rows.bigintDividesSpec.post enc Tryd.prog Tryd.f5 false true false false W args v W' := by
  have hW' := hW
  obtain ⟨p, q, hA0, hV, rfl, hfz, hnd⟩ := hW
  have hA : DataW.TrodAll enc Tryd.prog W 0 (fun _ => true) true Tryd.f5.params.toList args.toList ds p := hA0
  rw [Tryd.params5] at hA hval hsz
  obtain ⟨v0, vs0, d0, ds0, p0, q0, hargs, rfl, rfl, h0, r0⟩ := trodAll_cons hA
  obtain ⟨v1, vs1, d1, ds1, p1, q1, rfl, rfl, rfl, h1, r1⟩ := trodAll_cons r0
  obtain ⟨rfl, rfl, rfl⟩ := trodAll_nil r1
  obtain rfl : args = #[v0, v1] := by cases args; simp_all
  obtain ⟨n0, a0, l0, c0, A0, rfl, w0, s0, z0⟩ := open_num2 rfl hsz (j := 0) rfl rfl (hval 0 24 v0 rfl rfl) h0 hk
  obtain ⟨n1, a1, l1, c1, A1, rfl, w1, s1, z1⟩ := open_num2 rfl hsz (j := 1) rfl rfl (hval 1 24 v1 rfl rfl) h1 hk
  refine (divides_yes W w0 s0 z0 w1 s1 z1).mono fun e W' ⟨he, hb⟩ => ⟨_, he, ?_⟩
  exact law_post divides_params rfl rfl rfl rfl rfl hW' hb

/-- The world of the witness. -/
noncomputable def dividesWorld (os : Os) : World := World.laidAll Tryd.prog os Rows.bigintDividesUptoRow.laid
noncomputable def dividesArgs : Array Value := #[.agg #[.bool false, .slice none 0 0], .agg #[.bool false, .slice none 0 0]]
set_option maxRecDepth 100000 in
theorem divides_laid (os : Os) : laidMet Tryd.prog Rows.bigintDividesUptoRow.laid ((dividesWorld os).forCall (fun _ _ => 0) ⟨#[], dividesArgs, []⟩).memory :=
  laidMet_laidAll _ (by kernel_rfl) (by kernel_rfl)
set_option maxRecDepth 100000 in
theorem divides_reads (os : Os) {H : Type} (enc : TypeId × Value → H) : ∃ places, DataW.whole enc Tryd.prog ((dividesWorld os).forCall (fun _ _ => 0) ⟨#[], dividesArgs, []⟩).memory Tryd.f5.params.toList Rows.bigintDividesSpec.vars false dividesArgs.toList 8 =
    some ([.agg [.lit (.bool false), .nil], .agg [.lit (.bool false), .nil]], [], places) :=
  ⟨[], by kernel_rfl⟩

set_option maxRecDepth 100000 in
theorem divides_lifted (os : Os) (started : os.Started) (H : Type) (enc : TypeId × Value → H) (F : Stop.Interp) :
    ReturnsInHanded {} Tryd.checked os 5 .any ((Rows.OpenSpec.upto Rows.bigintDividesSpec).preRow enc Tryd.prog Tryd.f5 Rows.bigintDividesUptoRow.domain false Rows.bigintDividesUptoRow.laid) (((Rows.OpenSpec.upto Rows.bigintDividesSpec).at F).post enc Tryd.prog Tryd.f5 false true false false) := by
  obtain ⟨places, hx⟩ := divides_reads os enc
  refine returnsInHanded_of_row (C := Tryd.checked) (s := Rows.OpenSpec.upto Rows.bigintDividesSpec) own started (by kernel_rfl) Tryd.func5
    (witness_row_at (enc := enc) (C := Tryd.checked) false (dividesWorld os) dividesArgs (World.laidAll_os _ _ _) (by kernel_rfl) (by kernel_rfl) (by kernel_rfl)
      (OpenSpec.preRow_of_cond 8 hx (by kernel_rfl) (fun k hk => by cases hk; kernel_rfl) (by kernel_rfl) (divides_laid os))) ?_
  intro W base args ds gs before hval hW _ hcond hsz hL _ _
  exact divides_contract H enc W base args ds gs before hval hW hsz (of_decide_eq_true (hcond _ rfl))

set_option maxRecDepth 100000 in
theorem divides_said : Rows.BigintDividesUptoSaid :=
  OpenClaim.holds_of_cond 5 Tryd.f5 rfl rfl rfl rfl rfl rfl rfl ⟨rfl, rfl, rfl, rfl, rfl⟩ rfl rfl rfl rfl rfl (by kernel_rfl) Tryd.func5 (by kernel_rfl)
    (of_decide_eq_true (by kernel_rfl)) (by unfold Func.isWrapper; first | (rw [if_pos (by decide +kernel)]; kernel_rfl) | (rw [if_neg (by decide +kernel)]; exact ⟨rfl, rfl⟩))
    (fun os started H enc _ F => by rw [OpenClaim.pre_eq_preRow]; exact divides_lifted os started H enc F)

set_option maxRecDepth 100000 in
theorem divides_plain (f : FuncId) (fn : Func) (hf : Tryd.pinned.checked.prog.funcNamed "hornbeam/hornbeamlaw01.BigintDivides" = some f) (hfn : Tryd.pinned.checked.prog.funcs[f]? = some fn) :
    false = Tryd.pinned.checked.prog.looks [] ∧ ∀ (j : Nat) t, fn.params[j]? = some t → Tryd.pinned.checked.prog.wantsStandIn t = false := by
  obtain rfl : f = 5 := Option.some.inj ((show Tryd.prog.funcNamed "hornbeam/hornbeamlaw01.BigintDivides" = some 5 by kernel_rfl).symm.trans hf) |>.symm
  obtain rfl : fn = Tryd.f5 := (Option.some.inj (Tryd.func5.symm.trans hfn)).symm
  refine ⟨by kernel_rfl, fun j t ht => ?_⟩
  rw [Tryd.params5] at ht
  obtain rfl : t = 24 := by simpa using Array.mem_of_getElem? ht
  exact (show Tryd.prog.wantsStandIn 24 = false by kernel_rfl)

set_option maxRecDepth 100000 in
theorem divides_card : Rows.BigintDividesUptoCardSaid :=
  Claim7.holds_tied_plain_at .later [] _ _ _ _ divides_said (fun _ h => by cases h) (by kernel_rfl) (fun _ h => by cases h) bigintDividesUpto_row_tie rfl ⟨rfl, rfl⟩ (by kernel_rfl) rfl divides_plain (by kernel_rfl)
end Go.Proofs.YtldafoojkimdeaaDoor
