/- For every input of bulk at most 1048576 (values and letters together; beyond 2^45 limbs the law's own lists of bits would be longer than a slice can be) the law BigintBits answers true and leaves its arguments alone: no other condition; the package-level tables that its row lists are tied to the program's text by the given tie. -/
import Derived.Test.YtldafoojkimdeaaDoorR21m
import Derived.Test.YtldafoojkimdeaaDoorR12m
namespace Go.Proofs.YtldafoojkimdeaaDoor
open Go.RowKit Lm

noncomputable def tail6 (n : Nat) : Code := seqDrop n (Tryd.f6.body.getD .skip)
noncomputable def head6 (n : Nat) : Code := seqHead (tail6 n)
noncomputable def Q6 (w : World) : Exit → Act → World → Prop := bodyPost Tryd.prog Tryd.f6 fun e w' => e = .returned (.bool true) ∧ Below w.heap.size w w'


set_option maxRecDepth 100000 in
set_option maxHeartbeats 8000000 in
theorem BI_18 {w wr : World}  {u0 u1 u2 u3 u4 u6 u7 u8 u9 u10 u11 u12 u13 u14 u15 u16 u17 u18 u19 u26 u27 u28 u29 u30 u31 u32 u33 u34 u35 u36 u37 u38 u39 u40 u41 u42 u43 u44 u45 u46 u47 u48 u49 u50 u51 u52 u53 u54 u55 u56 u57 u58 u59 u60 u61 u62 u63 u64 u65 u66 u67 u68 u69 u70 u71 u72 u73 u74 u75 u76 u77 u78 u79 u80 u81 u82 u83 u84 u85 u86 u87 u88 u89 u90 u91 u92 u93 u94 u95 u96 u97 u98 u99 u100 u101 u102 u103 u104 u105 u106 u107 u108 u109 u110 u111 u112 u113 u114 u115 u116 u117 u118 u119 u120 : Value}
    (hb : Below w.heap.size w wr) :
    Code.wp Tryd.prog (tail6 18) (Q6 w) ⟨#[u0, u1, u2, u3, u4, .bool true, u6, u7, u8, u9, u10, u11, u12, u13, u14, u15, u16, u17, u18, u19, .bool true, .bool true, .bool true, .bool true, .bool true, .bool true, u26, u27, u28, u29, u30, u31, u32, u33, u34, u35, u36, u37, u38, u39, u40, u41, u42, u43, u44, u45, u46, u47, u48, u49, u50, u51, u52, u53, u54, u55, u56, u57, u58, u59, u60, u61, u62, u63, u64, u65, u66, u67, u68, u69, u70, u71, u72, u73, u74, u75, u76, u77, u78, u79, u80, u81, u82, u83, u84, u85, u86, u87, u88, u89, u90, u91, u92, u93, u94, u95, u96, u97, u98, u99, u100, u101, u102, u103, u104, u105, u106, u107, u108, u109, u110, u111, u112, u113, u114, u115, u116, u117, u118, u119, u120], []⟩ wr := by
  conv => arg 2; whnf
  unfold Q6
  go_wp2
  go_ret
  exact ⟨rfl, hb⟩

set_option maxRecDepth 100000 in
set_option maxHeartbeats 8000000 in
theorem BI_17 {w wr : World} {nb : Bool} {ab : Option Addr} {B : List Nat} {lb : Nat} {cb : Nat} {g3 : Nat} {g11 : Nat} {gu : Nat} {cu : Nat} {u0 u1 u2 u4 u6 u7 u8 u9 u10 u12 u13 u14 u15 u16 u17 u18 u19 u25 u26 u27 u28 u29 u30 u31 u32 u33 u34 u35 u36 u37 u38 u39 u40 u41 u42 u43 u44 u45 u46 u47 u48 u49 u50 u51 u52 u53 u54 u55 u56 u57 u58 u59 u60 u61 u62 u63 u64 u65 u66 u67 u68 u69 u70 u71 u72 u73 u74 u75 u76 u77 u78 u79 u80 u81 u82 u83 u84 u85 u86 u87 u88 u89 u90 u91 u92 u93 u94 u95 u96 u97 u98 u99 u100 u101 u102 u103 u104 u105 u106 u107 u108 u109 u110 u111 u112 u113 u114 u115 u116 u117 u118 u119 u120 : Value}
    (rB : Rd w ab lb cb B)
    (sB : lb ≤ 1048576)
    (hb : Below w.heap.size w wr)
    (pb : Pr wr g3 24 (.bool nb) (.slice ab lb cb))
    (pu : Pr wr g11 24 (.bool nb) (.slice (some ⟨gu, 0, none⟩) lb cu))
    (lu : Lent w.heap.size wr gu lb cu B) :
    Code.wp Tryd.prog (tail6 17) (Q6 w) ⟨#[u0, u1, u2, .pointer (some ⟨g3, 0, none⟩), u4, .bool true, u6, u7, u8, u9, u10, .pointer (some ⟨g11, 0, none⟩), u12, u13, u14, u15, u16, u17, u18, u19, .bool true, .bool true, .bool true, .bool true, .bool true, u25, u26, u27, u28, u29, u30, u31, u32, u33, u34, u35, u36, u37, u38, u39, u40, u41, u42, u43, u44, u45, u46, u47, u48, u49, u50, u51, u52, u53, u54, u55, u56, u57, u58, u59, u60, u61, u62, u63, u64, u65, u66, u67, u68, u69, u70, u71, u72, u73, u74, u75, u76, u77, u78, u79, u80, u81, u82, u83, u84, u85, u86, u87, u88, u89, u90, u91, u92, u93, u94, u95, u96, u97, u98, u99, u100, u101, u102, u103, u104, u105, u106, u107, u108, u109, u110, u111, u112, u113, u114, u115, u116, u117, u118, u119, u120], []⟩ wr := by
  obtain ⟨kpu0, kpu1, _, _⟩ := two_cells pu
  obtain ⟨kpb0, kpb1, _, _⟩ := two_cells pb
  show Code.wp Tryd.prog (Code.seq (head6 17) (tail6 18)) _ _ _
  conv => arg 2; arg 1; whnf
  go_wp2_with fail
  refine (heldR nb gu cu ab lb cb B w wr rB hb lu (by omega)).mono ?_
  rintro e_ w2 ⟨rfl, hb2, hst⟩
  go_wp2
  exact BI_18 (hb2)

set_option maxRecDepth 100000 in
set_option maxHeartbeats 8000000 in
theorem BI_16 {w wk wr : World} {na : Bool} {nb : Bool} {nx : Bool} {ny : Bool} {aa : Option Addr} {ab : Option Addr} {xo : Option Addr} {yo : Option Addr} {A : List Nat} {B : List Nat} {va : Int} {vb : Int} {e : Int} {f : Int} {la : Nat} {ca : Nat} {lb : Nat} {cb : Nat} {xl : Nat} {xc : Nat} {yl : Nat} {yc : Nat} {g2 : Nat} {g3 : Nat} {g6 : Nat} {g7 : Nat} {g10 : Nat} {g11 : Nat} {gt : Nat} {ct : Nat} {gu : Nat} {cu : Nat} {u0 u1 u4 u12 u13 u14 u15 u16 u17 u18 u19 u24 u25 u26 u27 u28 u29 u30 u31 u32 u33 u34 u35 u36 u37 u38 u39 u40 u41 u42 u43 u44 u45 u46 u47 u48 u49 u50 u51 u52 u53 u54 u55 u56 u57 u58 u59 u60 u61 u62 u63 u64 u65 u66 u67 u68 u69 u70 u71 u72 u73 u74 u75 u76 u77 u78 u79 u80 u81 u82 u83 u84 u85 u86 u87 u88 u89 u90 u91 u92 u93 u94 u95 u96 u97 u98 u99 u100 u101 u102 u103 u104 u105 u106 u107 u108 u109 u110 u111 u112 u113 u114 u115 u116 u117 u118 u119 u120 : Value}
    (rA : Rd w aa la ca A)
    (rB : Rd w ab lb cb B)
    (zA : Hid (aa = none → ca = 0))
    (zB : Hid (ab = none → cb = 0))
    (sA : la ≤ 1048576)
    (sB : lb ≤ 1048576)
    (hva : Hid (num na A = va))
    (hvb : Hid (num nb B = vb))
    (hxl : xl ≤ 33554432)
    (hyl : yl ≤ 33554432)
    (he : Hid (e = if 4096 < xl ∨ 4096 < yl then 10 else 0))
    (hbad : Hid (e = if tooLong A || tooLong B then 10 else 0))
    (hf : Hid (f = if 4096 < xl ∨ 4096 < xl then 10 else 0))
    (hbaf : Hid (f = if tooLong A || tooLong A then 10 else 0))
    (hg : Hid (gt < gu))
    (hbk : Below w.heap.size w wk)
    (pa : Pr wk g2 24 (.bool na) (.slice aa la ca))
    (pb : Pr wk g3 24 (.bool nb) (.slice ab lb cb))
    (px : Pr wk g6 28 (.bool nx) (.slice xo xl xc))
    (bx : Big wk nx xo xl xc va)
    (py : Pr wk g7 28 (.bool ny) (.slice yo yl yc))
    (b_y : Big wk ny yo yl yc vb)
    (pt : Pr wk g10 24 (.bool na) (.slice (some ⟨gt, 0, none⟩) la ct))
    (lt_ : Lent w.heap.size wk gt la ct A)
    (pu : Pr wk g11 24 (.bool nb) (.slice (some ⟨gu, 0, none⟩) lb cu))
    (lu : Lent w.heap.size wk gu lb cu B)
    (hk : Below wk.heap.size wk wr) :
    Code.wp Tryd.prog (tail6 16) (Q6 w) ⟨#[u0, u1, .pointer (some ⟨g2, 0, none⟩), .pointer (some ⟨g3, 0, none⟩), u4, .bool true, .pointer (some ⟨g6, 0, none⟩), .pointer (some ⟨g7, 0, none⟩), .int .i64 e, .int .i64 f, .pointer (some ⟨g10, 0, none⟩), .pointer (some ⟨g11, 0, none⟩), u12, u13, u14, u15, u16, u17, u18, u19, .bool true, .bool true, .bool true, .bool true, u24, u25, u26, u27, u28, u29, u30, u31, u32, u33, u34, u35, u36, u37, u38, u39, u40, u41, u42, u43, u44, u45, u46, u47, u48, u49, u50, u51, u52, u53, u54, u55, u56, u57, u58, u59, u60, u61, u62, u63, u64, u65, u66, u67, u68, u69, u70, u71, u72, u73, u74, u75, u76, u77, u78, u79, u80, u81, u82, u83, u84, u85, u86, u87, u88, u89, u90, u91, u92, u93, u94, u95, u96, u97, u98, u99, u100, u101, u102, u103, u104, u105, u106, u107, u108, u109, u110, u111, u112, u113, u114, u115, u116, u117, u118, u119, u120], []⟩ wr := by
  have pa' := pa.keep hk
  have pb' := pb.keep hk
  have pt' := pt.keep hk
  have pu' := pu.keep hk
  have lt' := lt_.keep hk
  have lu' := lu.keep hk
  obtain ⟨a0, a1, _, _⟩ := two_cells pa'
  obtain ⟨t0, t1, _, _⟩ := two_cells pt'
  have n1 := lt'.apart pb'
  have n2 := lt'.apart pu'
  have hbW := hbk.trans (hk.mono hbk.size)
  show Code.wp Tryd.prog (Code.seq (head6 16) (tail6 17)) _ _ _
  conv => arg 2; arg 1; whnf
  go_wp2_with fail
  refine (heldR na gt ct aa la ca A w _ rA hbW lt' (by omega)).mono ?_
  rintro e_ w6 ⟨rfl, hb6, hst⟩
  have pb6 := (hst _ pb'.lt n1).trans pb'
  have pu6 := (hst _ pu'.lt n2).trans pu'
  have lu6 := lu'.same (hst _ lu'.ge.2 (by have := hg.out; omega))
  go_wp2
  exact BI_17 (rB) (sB) (hb6) (pb6) (pu6) (lu6)

set_option maxRecDepth 100000 in
set_option maxHeartbeats 8000000 in
theorem BI_15 {w wk wr : World} {na : Bool} {nb : Bool} {nx : Bool} {ny : Bool} {aa : Option Addr} {ab : Option Addr} {xo : Option Addr} {yo : Option Addr} {A : List Nat} {B : List Nat} {va : Int} {vb : Int} {e : Int} {f : Int} {la : Nat} {ca : Nat} {lb : Nat} {cb : Nat} {xl : Nat} {xc : Nat} {yl : Nat} {yc : Nat} {g2 : Nat} {g3 : Nat} {g6 : Nat} {g7 : Nat} {g10 : Nat} {g11 : Nat} {gt : Nat} {ct : Nat} {gu : Nat} {cu : Nat} {cn : Int} {gn ln : Nat} {nn : Bool} {on : Option Addr} {u0 u1 u4 u12 u13 u14 u15 u16 u17 u23 u24 u25 u26 u27 u28 u29 u30 u31 u32 u33 u34 u35 u36 u37 u38 u39 u40 u41 u42 u43 u44 u45 u46 u47 u48 u49 u50 u51 u52 u53 u54 u55 u56 u57 u58 u59 u60 u61 u62 u63 u64 u65 u66 u67 u68 u69 u70 u71 u72 u73 u74 u75 u76 u77 u78 u79 u80 u81 u82 u83 u84 u85 u86 u87 u88 u89 u90 u91 u92 u93 u94 u95 u96 u97 u98 u99 u100 u101 u102 u103 u104 u105 u106 u107 u108 u109 u110 u111 u112 u113 u114 u115 u116 u117 u118 u119 u120 : Value}
    (rA : Rd w aa la ca A)
    (rB : Rd w ab lb cb B)
    (zA : Hid (aa = none → ca = 0))
    (zB : Hid (ab = none → cb = 0))
    (sA : la ≤ 1048576)
    (sB : lb ≤ 1048576)
    (hva : Hid (num na A = va))
    (hvb : Hid (num nb B = vb))
    (hxl : xl ≤ 33554432)
    (hyl : yl ≤ 33554432)
    (he : Hid (e = if 4096 < xl ∨ 4096 < yl then 10 else 0))
    (hbad : Hid (e = if tooLong A || tooLong B then 10 else 0))
    (hf : Hid (f = if 4096 < xl ∨ 4096 < xl then 10 else 0))
    (hbaf : Hid (f = if tooLong A || tooLong A then 10 else 0))
    (hg : Hid (gt < gu))
    (hbk : Below w.heap.size w wk)
    (pa : Pr wk g2 24 (.bool na) (.slice aa la ca))
    (pb : Pr wk g3 24 (.bool nb) (.slice ab lb cb))
    (px : Pr wk g6 28 (.bool nx) (.slice xo xl xc))
    (bx : Big wk nx xo xl xc va)
    (py : Pr wk g7 28 (.bool ny) (.slice yo yl yc))
    (b_y : Big wk ny yo yl yc vb)
    (pt : Pr wk g10 24 (.bool na) (.slice (some ⟨gt, 0, none⟩) la ct))
    (lt_ : Lent w.heap.size wk gt la ct A)
    (pu : Pr wk g11 24 (.bool nb) (.slice (some ⟨gu, 0, none⟩) lb cu))
    (lu : Lent w.heap.size wk gu lb cu B)
    (hk : Below wk.heap.size wk wr)
    (dn : Aw wk.heap.size wr gn nn on ln cn f (bop lnotf va va)) :
    Code.wp Tryd.prog (tail6 15) (Q6 w) ⟨#[u0, u1, .pointer (some ⟨g2, 0, none⟩), .pointer (some ⟨g3, 0, none⟩), u4, .bool true, .pointer (some ⟨g6, 0, none⟩), .pointer (some ⟨g7, 0, none⟩), .int .i64 e, .int .i64 f, .pointer (some ⟨g10, 0, none⟩), .pointer (some ⟨g11, 0, none⟩), u12, u13, u14, u15, u16, u17, .pointer (some ⟨gn, 0, none⟩), .int .i64 cn, .bool true, .bool true, .bool true, u23, u24, u25, u26, u27, u28, u29, u30, u31, u32, u33, u34, u35, u36, u37, u38, u39, u40, u41, u42, u43, u44, u45, u46, u47, u48, u49, u50, u51, u52, u53, u54, u55, u56, u57, u58, u59, u60, u61, u62, u63, u64, u65, u66, u67, u68, u69, u70, u71, u72, u73, u74, u75, u76, u77, u78, u79, u80, u81, u82, u83, u84, u85, u86, u87, u88, u89, u90, u91, u92, u93, u94, u95, u96, u97, u98, u99, u100, u101, u102, u103, u104, u105, u106, u107, u108, u109, u110, u111, u112, u113, u114, u115, u116, u117, u118, u119, u120], []⟩ wr := by
  have hsm : Hid (f = 0 → xl ≤ 4096) := hid (fun h => by have h1 := hf.out; by_cases h2 : 4096 < xl ∨ 4096 < xl; (· rw [if_pos h2] at h1; omega); omega)
  have h_c := hid (heap_keep dn.box (Below.refl _ _).drew)
  have h_px := hid (heap_keep px hk.drew)
  have d_bx := (bx.keep hk).drew
  have d_b_y := (b_y.keep hk).drew
  have en := dn.drew
  have hacc : Below wk.heap.size wk wr.drew := hk.drew
  obtain ⟨kc0, kc1, _, _⟩ := two_cells dn.box
  obtain ⟨kpx0, kpx1, _, _⟩ := two_cells (px.keep hk)
  show Code.wp Tryd.prog (Code.seq (head6 15) (tail6 16)) _ _ _
  conv => arg 2; arg 1; whnf
  go_wp2_with fail
  go_region_held3 (fun w' => w'.cell? ⟨gn, 0, none⟩ = some (.bool nn) ∧ w'.cell? ⟨gn, 1, none⟩ = some (.slice on ln ln) ∧ w'.cell? ⟨g6, 0, none⟩ = some (.bool nx) ∧ w'.cell? ⟨g6, 1, none⟩ = some (.slice xo xl xc))
    (first
      | go_keep
      | (with_reducible exact ⟨(two_cells h_c.out).1, (two_cells h_c.out).2.1, (two_cells h_px.out).1, (two_cells h_px.out).2.1⟩))
    (first
      | (go_at_call 50; (with_reducible refine (bw_not _ _ _ _ va _ _ _ _ va _ d_bx d_bx hxl hxl).mono ?_); rintro e w5 ⟨n2, o2, l2, k2, v2, rfl, hS, hval, hkk⟩; have h_c := hid (heap_keep h_c.out hkk); have h_px := hid (heap_keep h_px.out hkk); have d_bx := d_bx.keep hkk; have d_b_y := d_b_y.keep hkk; have en := en.keep hkk; have hacc := hacc.trans (hkk.mono hacc.size))
      | (go_at_call 38; (with_reducible refine (isA hacc en.ans hS (fun h => hval.out (Nat.le_trans (hsm.out h) (by decide)) (Nat.le_trans (hsm.out h) (by decide)))).mono ?_); rintro r w5 ⟨rfl, hbW, hst, hsz⟩; have hu := en.ans.u32; have h_c := hid ((hst _ (lt_of_block h_c.out) en.apart).trans h_c.out); have h_px := hid (heap_keep px hbW); have hacc := hbW))
  all_goals
    go_wp2
    exact BI_16 (rA) (rB) (zA) (zB) (sA) (sB) (hva) (hvb) (hxl) (hyl) (he) (hbad) (hf) (hbaf) (hg) (hbk) (pa) (pb) (px) (bx) (py) (b_y) (pt) (lt_) (pu) (lu) (hacc)

set_option maxRecDepth 100000 in
set_option maxHeartbeats 8000000 in
theorem BI_14 {w wk wr : World} {na : Bool} {nb : Bool} {nx : Bool} {ny : Bool} {aa : Option Addr} {ab : Option Addr} {xo : Option Addr} {yo : Option Addr} {A : List Nat} {B : List Nat} {va : Int} {vb : Int} {e : Int} {f : Int} {la : Nat} {ca : Nat} {lb : Nat} {cb : Nat} {xl : Nat} {xc : Nat} {yl : Nat} {yc : Nat} {g2 : Nat} {g3 : Nat} {g6 : Nat} {g7 : Nat} {g10 : Nat} {g11 : Nat} {gt : Nat} {ct : Nat} {gu : Nat} {cu : Nat} {cp : Int} {cn : Int} {gp lp : Nat} {np : Bool} {op : Option Addr} {gn ln : Nat} {nn : Bool} {on : Option Addr} {u0 u1 u4 u12 u13 u14 u15 u22 u23 u24 u25 u26 u27 u28 u29 u30 u31 u32 u33 u34 u35 u36 u37 u38 u39 u40 u41 u42 u43 u44 u45 u46 u47 u48 u49 u50 u51 u52 u53 u54 u55 u56 u57 u58 u59 u60 u61 u62 u63 u64 u65 u66 u67 u68 u69 u70 u71 u72 u73 u74 u75 u76 u77 u78 u79 u80 u81 u82 u83 u84 u85 u86 u87 u88 u89 u90 u91 u92 u93 u94 u95 u96 u97 u98 u99 u100 u101 u102 u103 u104 u105 u106 u107 u108 u109 u110 u111 u112 u113 u114 u115 u116 u117 u118 u119 u120 : Value}
    (rA : Rd w aa la ca A)
    (rB : Rd w ab lb cb B)
    (zA : Hid (aa = none → ca = 0))
    (zB : Hid (ab = none → cb = 0))
    (sA : la ≤ 1048576)
    (sB : lb ≤ 1048576)
    (hva : Hid (num na A = va))
    (hvb : Hid (num nb B = vb))
    (hxl : xl ≤ 33554432)
    (hyl : yl ≤ 33554432)
    (he : Hid (e = if 4096 < xl ∨ 4096 < yl then 10 else 0))
    (hbad : Hid (e = if tooLong A || tooLong B then 10 else 0))
    (hf : Hid (f = if 4096 < xl ∨ 4096 < xl then 10 else 0))
    (hbaf : Hid (f = if tooLong A || tooLong A then 10 else 0))
    (hg : Hid (gt < gu))
    (hbk : Below w.heap.size w wk)
    (pa : Pr wk g2 24 (.bool na) (.slice aa la ca))
    (pb : Pr wk g3 24 (.bool nb) (.slice ab lb cb))
    (px : Pr wk g6 28 (.bool nx) (.slice xo xl xc))
    (bx : Big wk nx xo xl xc va)
    (py : Pr wk g7 28 (.bool ny) (.slice yo yl yc))
    (b_y : Big wk ny yo yl yc vb)
    (pt : Pr wk g10 24 (.bool na) (.slice (some ⟨gt, 0, none⟩) la ct))
    (lt_ : Lent w.heap.size wk gt la ct A)
    (pu : Pr wk g11 24 (.bool nb) (.slice (some ⟨gu, 0, none⟩) lb cu))
    (lu : Lent w.heap.size wk gu lb cu B)
    (hk : Below wk.heap.size wk wr)
    (dp : Aw wk.heap.size wr gp np op lp cp e (bop lxorf va vb))
    (dn : Aw wk.heap.size wr gn nn on ln cn f (bop lnotf va va))
    (qpn : Disj op on) :
    Code.wp Tryd.prog (tail6 14) (Q6 w) ⟨#[u0, u1, .pointer (some ⟨g2, 0, none⟩), .pointer (some ⟨g3, 0, none⟩), u4, .bool true, .pointer (some ⟨g6, 0, none⟩), .pointer (some ⟨g7, 0, none⟩), .int .i64 e, .int .i64 f, .pointer (some ⟨g10, 0, none⟩), .pointer (some ⟨g11, 0, none⟩), u12, u13, u14, u15, .pointer (some ⟨gp, 0, none⟩), .int .i64 cp, .pointer (some ⟨gn, 0, none⟩), .int .i64 cn, .bool true, .bool true, u22, u23, u24, u25, u26, u27, u28, u29, u30, u31, u32, u33, u34, u35, u36, u37, u38, u39, u40, u41, u42, u43, u44, u45, u46, u47, u48, u49, u50, u51, u52, u53, u54, u55, u56, u57, u58, u59, u60, u61, u62, u63, u64, u65, u66, u67, u68, u69, u70, u71, u72, u73, u74, u75, u76, u77, u78, u79, u80, u81, u82, u83, u84, u85, u86, u87, u88, u89, u90, u91, u92, u93, u94, u95, u96, u97, u98, u99, u100, u101, u102, u103, u104, u105, u106, u107, u108, u109, u110, u111, u112, u113, u114, u115, u116, u117, u118, u119, u120], []⟩ wr := by
  have hsm : Hid (e = 0 → xl ≤ 4096 ∧ yl ≤ 4096) := hid (fun h => by have h1 := he.out; by_cases h2 : 4096 < xl ∨ 4096 < yl; (· rw [if_pos h2] at h1; omega); omega)
  have h_c := hid (heap_keep dp.box (Below.refl _ _).drew)
  have h_px := hid (heap_keep px hk.drew)
  have h_py := hid (heap_keep py hk.drew)
  have d_bx := (bx.keep hk).drew
  have d_b_y := (b_y.keep hk).drew
  have ep := dp.drew
  have en := dn.drew
  have hacc : Below wk.heap.size wk wr.drew := hk.drew
  obtain ⟨kc0, kc1, _, _⟩ := two_cells dp.box
  obtain ⟨kpx0, kpx1, _, _⟩ := two_cells (px.keep hk)
  obtain ⟨kpy0, kpy1, _, _⟩ := two_cells (py.keep hk)
  show Code.wp Tryd.prog (Code.seq (head6 14) (tail6 15)) _ _ _
  conv => arg 2; arg 1; whnf
  go_wp2_with fail
  go_region_held3 (fun w' => w'.cell? ⟨gp, 0, none⟩ = some (.bool np) ∧ w'.cell? ⟨gp, 1, none⟩ = some (.slice op lp lp) ∧ w'.cell? ⟨g6, 0, none⟩ = some (.bool nx) ∧ w'.cell? ⟨g6, 1, none⟩ = some (.slice xo xl xc) ∧ w'.cell? ⟨g7, 0, none⟩ = some (.bool ny) ∧ w'.cell? ⟨g7, 1, none⟩ = some (.slice yo yl yc))
    (first
      | go_keep
      | (with_reducible exact ⟨(two_cells h_c.out).1, (two_cells h_c.out).2.1, (two_cells h_px.out).1, (two_cells h_px.out).2.1, (two_cells h_py.out).1, (two_cells h_py.out).2.1⟩))
    (first
      | (go_at_call 50; (with_reducible refine (bw_xor _ _ _ _ va _ _ _ _ vb _ d_bx d_b_y hxl hyl).mono ?_); rintro e w5 ⟨n2, o2, l2, k2, v2, rfl, hS, hval, hkk⟩; have h_c := hid (heap_keep h_c.out hkk); have h_px := hid (heap_keep h_px.out hkk); have h_py := hid (heap_keep h_py.out hkk); have d_bx := d_bx.keep hkk; have d_b_y := d_b_y.keep hkk; have ep := ep.keep hkk; have en := en.keep hkk; have hacc := hacc.trans (hkk.mono hacc.size))
      | (go_at_call 38; (with_reducible refine (isA hacc ep.ans hS (fun h => hval.out (Nat.le_trans (hsm.out h).1 (by decide)) (Nat.le_trans (hsm.out h).2 (by decide)))).mono ?_); rintro r w5 ⟨rfl, hbW, hst, hsz⟩; have hu := ep.ans.u32; have h_c := hid ((hst _ (lt_of_block h_c.out) ep.apart).trans h_c.out); have h_px := hid (heap_keep px hbW); have h_py := hid (heap_keep py hbW); have en := en.keepA hu hst qpn; have hacc := hbW))
  all_goals
    go_wp2
    exact BI_15 (rA) (rB) (zA) (zB) (sA) (sB) (hva) (hvb) (hxl) (hyl) (he) (hbad) (hf) (hbaf) (hg) (hbk) (pa) (pb) (px) (bx) (py) (b_y) (pt) (lt_) (pu) (lu) (hacc) (en)

set_option maxRecDepth 100000 in
set_option maxHeartbeats 8000000 in
theorem BI_13 {w wk wr : World} {na : Bool} {nb : Bool} {nx : Bool} {ny : Bool} {aa : Option Addr} {ab : Option Addr} {xo : Option Addr} {yo : Option Addr} {A : List Nat} {B : List Nat} {va : Int} {vb : Int} {e : Int} {f : Int} {la : Nat} {ca : Nat} {lb : Nat} {cb : Nat} {xl : Nat} {xc : Nat} {yl : Nat} {yc : Nat} {g2 : Nat} {g3 : Nat} {g6 : Nat} {g7 : Nat} {g10 : Nat} {g11 : Nat} {gt : Nat} {ct : Nat} {gu : Nat} {cu : Nat} {cd : Int} {cp : Int} {cn : Int} {gd ld : Nat} {nd : Bool} {od : Option Addr} {gp lp : Nat} {np : Bool} {op : Option Addr} {gn ln : Nat} {nn : Bool} {on : Option Addr} {u0 u1 u4 u12 u13 u21 u22 u23 u24 u25 u26 u27 u28 u29 u30 u31 u32 u33 u34 u35 u36 u37 u38 u39 u40 u41 u42 u43 u44 u45 u46 u47 u48 u49 u50 u51 u52 u53 u54 u55 u56 u57 u58 u59 u60 u61 u62 u63 u64 u65 u66 u67 u68 u69 u70 u71 u72 u73 u74 u75 u76 u77 u78 u79 u80 u81 u82 u83 u84 u85 u86 u87 u88 u89 u90 u91 u92 u93 u94 u95 u96 u97 u98 u99 u100 u101 u102 u103 u104 u105 u106 u107 u108 u109 u110 u111 u112 u113 u114 u115 u116 u117 u118 u119 u120 : Value}
    (rA : Rd w aa la ca A)
    (rB : Rd w ab lb cb B)
    (zA : Hid (aa = none → ca = 0))
    (zB : Hid (ab = none → cb = 0))
    (sA : la ≤ 1048576)
    (sB : lb ≤ 1048576)
    (hva : Hid (num na A = va))
    (hvb : Hid (num nb B = vb))
    (hxl : xl ≤ 33554432)
    (hyl : yl ≤ 33554432)
    (he : Hid (e = if 4096 < xl ∨ 4096 < yl then 10 else 0))
    (hbad : Hid (e = if tooLong A || tooLong B then 10 else 0))
    (hf : Hid (f = if 4096 < xl ∨ 4096 < xl then 10 else 0))
    (hbaf : Hid (f = if tooLong A || tooLong A then 10 else 0))
    (hg : Hid (gt < gu))
    (hbk : Below w.heap.size w wk)
    (pa : Pr wk g2 24 (.bool na) (.slice aa la ca))
    (pb : Pr wk g3 24 (.bool nb) (.slice ab lb cb))
    (px : Pr wk g6 28 (.bool nx) (.slice xo xl xc))
    (bx : Big wk nx xo xl xc va)
    (py : Pr wk g7 28 (.bool ny) (.slice yo yl yc))
    (b_y : Big wk ny yo yl yc vb)
    (pt : Pr wk g10 24 (.bool na) (.slice (some ⟨gt, 0, none⟩) la ct))
    (lt_ : Lent w.heap.size wk gt la ct A)
    (pu : Pr wk g11 24 (.bool nb) (.slice (some ⟨gu, 0, none⟩) lb cu))
    (lu : Lent w.heap.size wk gu lb cu B)
    (hk : Below wk.heap.size wk wr)
    (dd : Aw wk.heap.size wr gd nd od ld cd e (bop lorf va vb))
    (dp : Aw wk.heap.size wr gp np op lp cp e (bop lxorf va vb))
    (dn : Aw wk.heap.size wr gn nn on ln cn f (bop lnotf va va))
    (qdp : Disj od op)
    (qdn : Disj od on)
    (qpn : Disj op on) :
    Code.wp Tryd.prog (tail6 13) (Q6 w) ⟨#[u0, u1, .pointer (some ⟨g2, 0, none⟩), .pointer (some ⟨g3, 0, none⟩), u4, .bool true, .pointer (some ⟨g6, 0, none⟩), .pointer (some ⟨g7, 0, none⟩), .int .i64 e, .int .i64 f, .pointer (some ⟨g10, 0, none⟩), .pointer (some ⟨g11, 0, none⟩), u12, u13, .pointer (some ⟨gd, 0, none⟩), .int .i64 cd, .pointer (some ⟨gp, 0, none⟩), .int .i64 cp, .pointer (some ⟨gn, 0, none⟩), .int .i64 cn, .bool true, u21, u22, u23, u24, u25, u26, u27, u28, u29, u30, u31, u32, u33, u34, u35, u36, u37, u38, u39, u40, u41, u42, u43, u44, u45, u46, u47, u48, u49, u50, u51, u52, u53, u54, u55, u56, u57, u58, u59, u60, u61, u62, u63, u64, u65, u66, u67, u68, u69, u70, u71, u72, u73, u74, u75, u76, u77, u78, u79, u80, u81, u82, u83, u84, u85, u86, u87, u88, u89, u90, u91, u92, u93, u94, u95, u96, u97, u98, u99, u100, u101, u102, u103, u104, u105, u106, u107, u108, u109, u110, u111, u112, u113, u114, u115, u116, u117, u118, u119, u120], []⟩ wr := by
  have hsm : Hid (e = 0 → xl ≤ 4096 ∧ yl ≤ 4096) := hid (fun h => by have h1 := he.out; by_cases h2 : 4096 < xl ∨ 4096 < yl; (· rw [if_pos h2] at h1; omega); omega)
  have h_c := hid (heap_keep dd.box (Below.refl _ _).drew)
  have h_px := hid (heap_keep px hk.drew)
  have h_py := hid (heap_keep py hk.drew)
  have d_bx := (bx.keep hk).drew
  have d_b_y := (b_y.keep hk).drew
  have ed := dd.drew
  have ep := dp.drew
  have en := dn.drew
  have hacc : Below wk.heap.size wk wr.drew := hk.drew
  obtain ⟨kc0, kc1, _, _⟩ := two_cells dd.box
  obtain ⟨kpx0, kpx1, _, _⟩ := two_cells (px.keep hk)
  obtain ⟨kpy0, kpy1, _, _⟩ := two_cells (py.keep hk)
  show Code.wp Tryd.prog (Code.seq (head6 13) (tail6 14)) _ _ _
  conv => arg 2; arg 1; whnf
  go_wp2_with fail
  go_region_held3 (fun w' => w'.cell? ⟨gd, 0, none⟩ = some (.bool nd) ∧ w'.cell? ⟨gd, 1, none⟩ = some (.slice od ld ld) ∧ w'.cell? ⟨g6, 0, none⟩ = some (.bool nx) ∧ w'.cell? ⟨g6, 1, none⟩ = some (.slice xo xl xc) ∧ w'.cell? ⟨g7, 0, none⟩ = some (.bool ny) ∧ w'.cell? ⟨g7, 1, none⟩ = some (.slice yo yl yc))
    (first
      | go_keep
      | (with_reducible exact ⟨(two_cells h_c.out).1, (two_cells h_c.out).2.1, (two_cells h_px.out).1, (two_cells h_px.out).2.1, (two_cells h_py.out).1, (two_cells h_py.out).2.1⟩))
    (first
      | (go_at_call 50; (with_reducible refine (bw_or _ _ _ _ va _ _ _ _ vb _ d_bx d_b_y hxl hyl).mono ?_); rintro e w5 ⟨n2, o2, l2, k2, v2, rfl, hS, hval, hkk⟩; have h_c := hid (heap_keep h_c.out hkk); have h_px := hid (heap_keep h_px.out hkk); have h_py := hid (heap_keep h_py.out hkk); have d_bx := d_bx.keep hkk; have d_b_y := d_b_y.keep hkk; have ed := ed.keep hkk; have ep := ep.keep hkk; have en := en.keep hkk; have hacc := hacc.trans (hkk.mono hacc.size))
      | (go_at_call 38; (with_reducible refine (isA hacc ed.ans hS (fun h => hval.out (Nat.le_trans (hsm.out h).1 (by decide)) (Nat.le_trans (hsm.out h).2 (by decide)))).mono ?_); rintro r w5 ⟨rfl, hbW, hst, hsz⟩; have hu := ed.ans.u32; have h_c := hid ((hst _ (lt_of_block h_c.out) ed.apart).trans h_c.out); have h_px := hid (heap_keep px hbW); have h_py := hid (heap_keep py hbW); have ep := ep.keepA hu hst qdp; have en := en.keepA hu hst qdn; have hacc := hbW))
  all_goals
    go_wp2
    exact BI_14 (rA) (rB) (zA) (zB) (sA) (sB) (hva) (hvb) (hxl) (hyl) (he) (hbad) (hf) (hbaf) (hg) (hbk) (pa) (pb) (px) (bx) (py) (b_y) (pt) (lt_) (pu) (lu) (hacc) (ep) (en) (qpn)

set_option maxRecDepth 100000 in
set_option maxHeartbeats 8000000 in
theorem BI_12 {w wk wr : World} {na : Bool} {nb : Bool} {nx : Bool} {ny : Bool} {aa : Option Addr} {ab : Option Addr} {xo : Option Addr} {yo : Option Addr} {A : List Nat} {B : List Nat} {va : Int} {vb : Int} {e : Int} {f : Int} {la : Nat} {ca : Nat} {lb : Nat} {cb : Nat} {xl : Nat} {xc : Nat} {yl : Nat} {yc : Nat} {g2 : Nat} {g3 : Nat} {g6 : Nat} {g7 : Nat} {g10 : Nat} {g11 : Nat} {gt : Nat} {ct : Nat} {gu : Nat} {cu : Nat} {cc : Int} {cd : Int} {cp : Int} {cn : Int} {gc lc : Nat} {nc : Bool} {oc : Option Addr} {gd ld : Nat} {nd : Bool} {od : Option Addr} {gp lp : Nat} {np : Bool} {op : Option Addr} {gn ln : Nat} {nn : Bool} {on : Option Addr} {u0 u1 u4 u20 u21 u22 u23 u24 u25 u26 u27 u28 u29 u30 u31 u32 u33 u34 u35 u36 u37 u38 u39 u40 u41 u42 u43 u44 u45 u46 u47 u48 u49 u50 u51 u52 u53 u54 u55 u56 u57 u58 u59 u60 u61 u62 u63 u64 u65 u66 u67 u68 u69 u70 u71 u72 u73 u74 u75 u76 u77 u78 u79 u80 u81 u82 u83 u84 u85 u86 u87 u88 u89 u90 u91 u92 u93 u94 u95 u96 u97 u98 u99 u100 u101 u102 u103 u104 u105 u106 u107 u108 u109 u110 u111 u112 u113 u114 u115 u116 u117 u118 u119 u120 : Value}
    (rA : Rd w aa la ca A)
    (rB : Rd w ab lb cb B)
    (zA : Hid (aa = none → ca = 0))
    (zB : Hid (ab = none → cb = 0))
    (sA : la ≤ 1048576)
    (sB : lb ≤ 1048576)
    (hva : Hid (num na A = va))
    (hvb : Hid (num nb B = vb))
    (hxl : xl ≤ 33554432)
    (hyl : yl ≤ 33554432)
    (he : Hid (e = if 4096 < xl ∨ 4096 < yl then 10 else 0))
    (hbad : Hid (e = if tooLong A || tooLong B then 10 else 0))
    (hf : Hid (f = if 4096 < xl ∨ 4096 < xl then 10 else 0))
    (hbaf : Hid (f = if tooLong A || tooLong A then 10 else 0))
    (hg : Hid (gt < gu))
    (hbk : Below w.heap.size w wk)
    (pa : Pr wk g2 24 (.bool na) (.slice aa la ca))
    (pb : Pr wk g3 24 (.bool nb) (.slice ab lb cb))
    (px : Pr wk g6 28 (.bool nx) (.slice xo xl xc))
    (bx : Big wk nx xo xl xc va)
    (py : Pr wk g7 28 (.bool ny) (.slice yo yl yc))
    (b_y : Big wk ny yo yl yc vb)
    (pt : Pr wk g10 24 (.bool na) (.slice (some ⟨gt, 0, none⟩) la ct))
    (lt_ : Lent w.heap.size wk gt la ct A)
    (pu : Pr wk g11 24 (.bool nb) (.slice (some ⟨gu, 0, none⟩) lb cu))
    (lu : Lent w.heap.size wk gu lb cu B)
    (hk : Below wk.heap.size wk wr)
    (dc : Aw wk.heap.size wr gc nc oc lc cc e (bop landf va vb))
    (dd : Aw wk.heap.size wr gd nd od ld cd e (bop lorf va vb))
    (dp : Aw wk.heap.size wr gp np op lp cp e (bop lxorf va vb))
    (dn : Aw wk.heap.size wr gn nn on ln cn f (bop lnotf va va))
    (qcd : Disj oc od)
    (qcp : Disj oc op)
    (qcn : Disj oc on)
    (qdp : Disj od op)
    (qdn : Disj od on)
    (qpn : Disj op on) :
    Code.wp Tryd.prog (tail6 12) (Q6 w) ⟨#[u0, u1, .pointer (some ⟨g2, 0, none⟩), .pointer (some ⟨g3, 0, none⟩), u4, .bool true, .pointer (some ⟨g6, 0, none⟩), .pointer (some ⟨g7, 0, none⟩), .int .i64 e, .int .i64 f, .pointer (some ⟨g10, 0, none⟩), .pointer (some ⟨g11, 0, none⟩), .pointer (some ⟨gc, 0, none⟩), .int .i64 cc, .pointer (some ⟨gd, 0, none⟩), .int .i64 cd, .pointer (some ⟨gp, 0, none⟩), .int .i64 cp, .pointer (some ⟨gn, 0, none⟩), .int .i64 cn, u20, u21, u22, u23, u24, u25, u26, u27, u28, u29, u30, u31, u32, u33, u34, u35, u36, u37, u38, u39, u40, u41, u42, u43, u44, u45, u46, u47, u48, u49, u50, u51, u52, u53, u54, u55, u56, u57, u58, u59, u60, u61, u62, u63, u64, u65, u66, u67, u68, u69, u70, u71, u72, u73, u74, u75, u76, u77, u78, u79, u80, u81, u82, u83, u84, u85, u86, u87, u88, u89, u90, u91, u92, u93, u94, u95, u96, u97, u98, u99, u100, u101, u102, u103, u104, u105, u106, u107, u108, u109, u110, u111, u112, u113, u114, u115, u116, u117, u118, u119, u120], []⟩ wr := by
  have hsm : Hid (e = 0 → xl ≤ 4096 ∧ yl ≤ 4096) := hid (fun h => by have h1 := he.out; by_cases h2 : 4096 < xl ∨ 4096 < yl; (· rw [if_pos h2] at h1; omega); omega)
  have h_c := hid (heap_keep dc.box (Below.refl _ _).drew)
  have h_px := hid (heap_keep px hk.drew)
  have h_py := hid (heap_keep py hk.drew)
  have d_bx := (bx.keep hk).drew
  have d_b_y := (b_y.keep hk).drew
  have ec := dc.drew
  have ed := dd.drew
  have ep := dp.drew
  have en := dn.drew
  have hacc : Below wk.heap.size wk wr.drew := hk.drew
  obtain ⟨kc0, kc1, _, _⟩ := two_cells dc.box
  obtain ⟨kpx0, kpx1, _, _⟩ := two_cells (px.keep hk)
  obtain ⟨kpy0, kpy1, _, _⟩ := two_cells (py.keep hk)
  show Code.wp Tryd.prog (Code.seq (head6 12) (tail6 13)) _ _ _
  conv => arg 2; arg 1; whnf
  go_wp2_with fail
  go_region_held3 (fun w' => w'.cell? ⟨gc, 0, none⟩ = some (.bool nc) ∧ w'.cell? ⟨gc, 1, none⟩ = some (.slice oc lc lc) ∧ w'.cell? ⟨g6, 0, none⟩ = some (.bool nx) ∧ w'.cell? ⟨g6, 1, none⟩ = some (.slice xo xl xc) ∧ w'.cell? ⟨g7, 0, none⟩ = some (.bool ny) ∧ w'.cell? ⟨g7, 1, none⟩ = some (.slice yo yl yc))
    (first
      | go_keep
      | (with_reducible exact ⟨(two_cells h_c.out).1, (two_cells h_c.out).2.1, (two_cells h_px.out).1, (two_cells h_px.out).2.1, (two_cells h_py.out).1, (two_cells h_py.out).2.1⟩))
    (first
      | (go_at_call 50; (with_reducible refine (bw_and _ _ _ _ va _ _ _ _ vb _ d_bx d_b_y hxl hyl).mono ?_); rintro e w5 ⟨n2, o2, l2, k2, v2, rfl, hS, hval, hkk⟩; have h_c := hid (heap_keep h_c.out hkk); have h_px := hid (heap_keep h_px.out hkk); have h_py := hid (heap_keep h_py.out hkk); have d_bx := d_bx.keep hkk; have d_b_y := d_b_y.keep hkk; have ec := ec.keep hkk; have ed := ed.keep hkk; have ep := ep.keep hkk; have en := en.keep hkk; have hacc := hacc.trans (hkk.mono hacc.size))
      | (go_at_call 38; (with_reducible refine (isA hacc ec.ans hS (fun h => hval.out (Nat.le_trans (hsm.out h).1 (by decide)) (Nat.le_trans (hsm.out h).2 (by decide)))).mono ?_); rintro r w5 ⟨rfl, hbW, hst, hsz⟩; have hu := ec.ans.u32; have h_c := hid ((hst _ (lt_of_block h_c.out) ec.apart).trans h_c.out); have h_px := hid (heap_keep px hbW); have h_py := hid (heap_keep py hbW); have ed := ed.keepA hu hst qcd; have ep := ep.keepA hu hst qcp; have en := en.keepA hu hst qcn; have hacc := hbW))
  all_goals
    go_wp2
    exact BI_13 (rA) (rB) (zA) (zB) (sA) (sB) (hva) (hvb) (hxl) (hyl) (he) (hbad) (hf) (hbaf) (hg) (hbk) (pa) (pb) (px) (bx) (py) (b_y) (pt) (lt_) (pu) (lu) (hacc) (ed) (ep) (en) (qdp) (qdn) (qpn)

set_option maxRecDepth 100000 in
set_option maxHeartbeats 8000000 in
theorem BI_11 {w wk wr : World} {na : Bool} {nb : Bool} {nx : Bool} {ny : Bool} {aa : Option Addr} {ab : Option Addr} {xo : Option Addr} {yo : Option Addr} {A : List Nat} {B : List Nat} {va : Int} {vb : Int} {e : Int} {f : Int} {la : Nat} {ca : Nat} {lb : Nat} {cb : Nat} {xl : Nat} {xc : Nat} {yl : Nat} {yc : Nat} {g2 : Nat} {g3 : Nat} {g6 : Nat} {g7 : Nat} {g10 : Nat} {g11 : Nat} {gt : Nat} {ct : Nat} {gu : Nat} {cu : Nat} {cc : Int} {cd : Int} {cp : Int} {gc lc : Nat} {nc : Bool} {oc : Option Addr} {gd ld : Nat} {nd : Bool} {od : Option Addr} {gp lp : Nat} {np : Bool} {op : Option Addr} {u0 u1 u4 u18 u19 u20 u21 u22 u23 u24 u25 u26 u27 u28 u29 u30 u31 u32 u33 u34 u35 u36 u37 u38 u39 u40 u41 u42 u43 u44 u45 u46 u47 u48 u49 u50 u51 u52 u53 u54 u55 u56 u57 u58 u59 u60 u61 u62 u63 u64 u65 u66 u67 u68 u69 u70 u71 u72 u73 u74 u75 u76 u77 u78 u79 u80 u81 u82 u83 u84 u85 u86 u87 u88 u89 u90 u91 u92 u93 u94 u95 u96 u97 u98 u99 u100 u101 u102 u103 u104 u105 u106 u107 u108 u109 u110 u111 u112 u113 u114 u115 u116 u117 u118 u119 u120 : Value}
    (rA : Rd w aa la ca A)
    (rB : Rd w ab lb cb B)
    (zA : Hid (aa = none → ca = 0))
    (zB : Hid (ab = none → cb = 0))
    (sA : la ≤ 1048576)
    (sB : lb ≤ 1048576)
    (hva : Hid (num na A = va))
    (hvb : Hid (num nb B = vb))
    (hxl : xl ≤ 33554432)
    (hyl : yl ≤ 33554432)
    (he : Hid (e = if 4096 < xl ∨ 4096 < yl then 10 else 0))
    (hbad : Hid (e = if tooLong A || tooLong B then 10 else 0))
    (hf : Hid (f = if 4096 < xl ∨ 4096 < xl then 10 else 0))
    (hbaf : Hid (f = if tooLong A || tooLong A then 10 else 0))
    (hg : Hid (gt < gu))
    (hbk : Below w.heap.size w wk)
    (pa : Pr wk g2 24 (.bool na) (.slice aa la ca))
    (pb : Pr wk g3 24 (.bool nb) (.slice ab lb cb))
    (px : Pr wk g6 28 (.bool nx) (.slice xo xl xc))
    (bx : Big wk nx xo xl xc va)
    (py : Pr wk g7 28 (.bool ny) (.slice yo yl yc))
    (b_y : Big wk ny yo yl yc vb)
    (pt : Pr wk g10 24 (.bool na) (.slice (some ⟨gt, 0, none⟩) la ct))
    (lt_ : Lent w.heap.size wk gt la ct A)
    (pu : Pr wk g11 24 (.bool nb) (.slice (some ⟨gu, 0, none⟩) lb cu))
    (lu : Lent w.heap.size wk gu lb cu B)
    (hk : Below wk.heap.size wk wr)
    (dc : Aw wk.heap.size wr gc nc oc lc cc e (bop landf va vb))
    (dd : Aw wk.heap.size wr gd nd od ld cd e (bop lorf va vb))
    (dp : Aw wk.heap.size wr gp np op lp cp e (bop lxorf va vb))
    (qcd : Disj oc od)
    (qcp : Disj oc op)
    (qdp : Disj od op) :
    Code.wp Tryd.prog (tail6 11) (Q6 w) ⟨#[u0, u1, .pointer (some ⟨g2, 0, none⟩), .pointer (some ⟨g3, 0, none⟩), u4, .bool true, .pointer (some ⟨g6, 0, none⟩), .pointer (some ⟨g7, 0, none⟩), .int .i64 e, .int .i64 f, .pointer (some ⟨g10, 0, none⟩), .pointer (some ⟨g11, 0, none⟩), .pointer (some ⟨gc, 0, none⟩), .int .i64 cc, .pointer (some ⟨gd, 0, none⟩), .int .i64 cd, .pointer (some ⟨gp, 0, none⟩), .int .i64 cp, u18, u19, u20, u21, u22, u23, u24, u25, u26, u27, u28, u29, u30, u31, u32, u33, u34, u35, u36, u37, u38, u39, u40, u41, u42, u43, u44, u45, u46, u47, u48, u49, u50, u51, u52, u53, u54, u55, u56, u57, u58, u59, u60, u61, u62, u63, u64, u65, u66, u67, u68, u69, u70, u71, u72, u73, u74, u75, u76, u77, u78, u79, u80, u81, u82, u83, u84, u85, u86, u87, u88, u89, u90, u91, u92, u93, u94, u95, u96, u97, u98, u99, u100, u101, u102, u103, u104, u105, u106, u107, u108, u109, u110, u111, u112, u113, u114, u115, u116, u117, u118, u119, u120], []⟩ wr := by
  obtain ⟨kpt0, kpt1, _, _⟩ := two_cells (pt.keep hk)
  show Code.wp Tryd.prog (Code.seq (head6 11) (tail6 12)) _ _ _
  conv => arg 2; arg 1; whnf
  go_wp2_with fail
  refine (notE ((lt_.keep hk).rd rA.ok (by omega)) hva.out hbaf.out hk.size).mono ?_
  rintro r w2 ⟨n1, o1, l1, c1, rfl, hA1, hb2⟩
  have hs2 := hb2.size
  go_wp2
  exact BI_12 (rA) (rB) (zA) (zB) (sA) (sB) (hva) (hvb) (hxl) (hyl) (he) (hbad) (hf) (hbaf) (hg) (hbk) (pa) (pb) (px) (bx) (py) (b_y) (pt) (lt_) (pu) (lu) ((hk.trans (hb2.mono hk.size)).alloc (hk.trans (hb2.mono hk.size)).size _) ((dc.keep hb2).alloc _) ((dd.keep hb2).alloc _) ((dp.keep hb2).alloc _) (Aw.new hA1.1) (qcd) (qcp) (Disj.later dc.ans hA1) (qdp) (Disj.later dd.ans hA1) (Disj.later dp.ans hA1)

set_option maxRecDepth 100000 in
set_option maxHeartbeats 8000000 in
theorem BI_10 {w wk wr : World} {na : Bool} {nb : Bool} {nx : Bool} {ny : Bool} {aa : Option Addr} {ab : Option Addr} {xo : Option Addr} {yo : Option Addr} {A : List Nat} {B : List Nat} {va : Int} {vb : Int} {e : Int} {f : Int} {la : Nat} {ca : Nat} {lb : Nat} {cb : Nat} {xl : Nat} {xc : Nat} {yl : Nat} {yc : Nat} {g2 : Nat} {g3 : Nat} {g6 : Nat} {g7 : Nat} {g10 : Nat} {g11 : Nat} {gt : Nat} {ct : Nat} {gu : Nat} {cu : Nat} {cc : Int} {cd : Int} {gc lc : Nat} {nc : Bool} {oc : Option Addr} {gd ld : Nat} {nd : Bool} {od : Option Addr} {u0 u1 u4 u16 u17 u18 u19 u20 u21 u22 u23 u24 u25 u26 u27 u28 u29 u30 u31 u32 u33 u34 u35 u36 u37 u38 u39 u40 u41 u42 u43 u44 u45 u46 u47 u48 u49 u50 u51 u52 u53 u54 u55 u56 u57 u58 u59 u60 u61 u62 u63 u64 u65 u66 u67 u68 u69 u70 u71 u72 u73 u74 u75 u76 u77 u78 u79 u80 u81 u82 u83 u84 u85 u86 u87 u88 u89 u90 u91 u92 u93 u94 u95 u96 u97 u98 u99 u100 u101 u102 u103 u104 u105 u106 u107 u108 u109 u110 u111 u112 u113 u114 u115 u116 u117 u118 u119 u120 : Value}
    (rA : Rd w aa la ca A)
    (rB : Rd w ab lb cb B)
    (zA : Hid (aa = none → ca = 0))
    (zB : Hid (ab = none → cb = 0))
    (sA : la ≤ 1048576)
    (sB : lb ≤ 1048576)
    (hva : Hid (num na A = va))
    (hvb : Hid (num nb B = vb))
    (hxl : xl ≤ 33554432)
    (hyl : yl ≤ 33554432)
    (he : Hid (e = if 4096 < xl ∨ 4096 < yl then 10 else 0))
    (hbad : Hid (e = if tooLong A || tooLong B then 10 else 0))
    (hf : Hid (f = if 4096 < xl ∨ 4096 < xl then 10 else 0))
    (hbaf : Hid (f = if tooLong A || tooLong A then 10 else 0))
    (hg : Hid (gt < gu))
    (hbk : Below w.heap.size w wk)
    (pa : Pr wk g2 24 (.bool na) (.slice aa la ca))
    (pb : Pr wk g3 24 (.bool nb) (.slice ab lb cb))
    (px : Pr wk g6 28 (.bool nx) (.slice xo xl xc))
    (bx : Big wk nx xo xl xc va)
    (py : Pr wk g7 28 (.bool ny) (.slice yo yl yc))
    (b_y : Big wk ny yo yl yc vb)
    (pt : Pr wk g10 24 (.bool na) (.slice (some ⟨gt, 0, none⟩) la ct))
    (lt_ : Lent w.heap.size wk gt la ct A)
    (pu : Pr wk g11 24 (.bool nb) (.slice (some ⟨gu, 0, none⟩) lb cu))
    (lu : Lent w.heap.size wk gu lb cu B)
    (hk : Below wk.heap.size wk wr)
    (dc : Aw wk.heap.size wr gc nc oc lc cc e (bop landf va vb))
    (dd : Aw wk.heap.size wr gd nd od ld cd e (bop lorf va vb))
    (qcd : Disj oc od) :
    Code.wp Tryd.prog (tail6 10) (Q6 w) ⟨#[u0, u1, .pointer (some ⟨g2, 0, none⟩), .pointer (some ⟨g3, 0, none⟩), u4, .bool true, .pointer (some ⟨g6, 0, none⟩), .pointer (some ⟨g7, 0, none⟩), .int .i64 e, .int .i64 f, .pointer (some ⟨g10, 0, none⟩), .pointer (some ⟨g11, 0, none⟩), .pointer (some ⟨gc, 0, none⟩), .int .i64 cc, .pointer (some ⟨gd, 0, none⟩), .int .i64 cd, u16, u17, u18, u19, u20, u21, u22, u23, u24, u25, u26, u27, u28, u29, u30, u31, u32, u33, u34, u35, u36, u37, u38, u39, u40, u41, u42, u43, u44, u45, u46, u47, u48, u49, u50, u51, u52, u53, u54, u55, u56, u57, u58, u59, u60, u61, u62, u63, u64, u65, u66, u67, u68, u69, u70, u71, u72, u73, u74, u75, u76, u77, u78, u79, u80, u81, u82, u83, u84, u85, u86, u87, u88, u89, u90, u91, u92, u93, u94, u95, u96, u97, u98, u99, u100, u101, u102, u103, u104, u105, u106, u107, u108, u109, u110, u111, u112, u113, u114, u115, u116, u117, u118, u119, u120], []⟩ wr := by
  obtain ⟨kpt0, kpt1, _, _⟩ := two_cells (pt.keep hk)
  obtain ⟨kpu0, kpu1, _, _⟩ := two_cells (pu.keep hk)
  show Code.wp Tryd.prog (Code.seq (head6 10) (tail6 11)) _ _ _
  conv => arg 2; arg 1; whnf
  go_wp2_with fail
  refine (xorE ((lt_.keep hk).rd rA.ok (by omega)) ((lu.keep hk).rd rB.ok (by omega)) hva.out hvb.out hbad.out hk.size).mono ?_
  rintro r w2 ⟨n1, o1, l1, c1, rfl, hA1, hb2⟩
  have hs2 := hb2.size
  go_wp2
  exact BI_11 (rA) (rB) (zA) (zB) (sA) (sB) (hva) (hvb) (hxl) (hyl) (he) (hbad) (hf) (hbaf) (hg) (hbk) (pa) (pb) (px) (bx) (py) (b_y) (pt) (lt_) (pu) (lu) ((hk.trans (hb2.mono hk.size)).alloc (hk.trans (hb2.mono hk.size)).size _) ((dc.keep hb2).alloc _) ((dd.keep hb2).alloc _) (Aw.new hA1.1) (qcd) (Disj.later dc.ans hA1) (Disj.later dd.ans hA1)

set_option maxRecDepth 100000 in
set_option maxHeartbeats 8000000 in
theorem BI_9 {w wk wr : World} {na : Bool} {nb : Bool} {nx : Bool} {ny : Bool} {aa : Option Addr} {ab : Option Addr} {xo : Option Addr} {yo : Option Addr} {A : List Nat} {B : List Nat} {va : Int} {vb : Int} {e : Int} {f : Int} {la : Nat} {ca : Nat} {lb : Nat} {cb : Nat} {xl : Nat} {xc : Nat} {yl : Nat} {yc : Nat} {g2 : Nat} {g3 : Nat} {g6 : Nat} {g7 : Nat} {g10 : Nat} {g11 : Nat} {gt : Nat} {ct : Nat} {gu : Nat} {cu : Nat} {cc : Int} {gc lc : Nat} {nc : Bool} {oc : Option Addr} {u0 u1 u4 u14 u15 u16 u17 u18 u19 u20 u21 u22 u23 u24 u25 u26 u27 u28 u29 u30 u31 u32 u33 u34 u35 u36 u37 u38 u39 u40 u41 u42 u43 u44 u45 u46 u47 u48 u49 u50 u51 u52 u53 u54 u55 u56 u57 u58 u59 u60 u61 u62 u63 u64 u65 u66 u67 u68 u69 u70 u71 u72 u73 u74 u75 u76 u77 u78 u79 u80 u81 u82 u83 u84 u85 u86 u87 u88 u89 u90 u91 u92 u93 u94 u95 u96 u97 u98 u99 u100 u101 u102 u103 u104 u105 u106 u107 u108 u109 u110 u111 u112 u113 u114 u115 u116 u117 u118 u119 u120 : Value}
    (rA : Rd w aa la ca A)
    (rB : Rd w ab lb cb B)
    (zA : Hid (aa = none → ca = 0))
    (zB : Hid (ab = none → cb = 0))
    (sA : la ≤ 1048576)
    (sB : lb ≤ 1048576)
    (hva : Hid (num na A = va))
    (hvb : Hid (num nb B = vb))
    (hxl : xl ≤ 33554432)
    (hyl : yl ≤ 33554432)
    (he : Hid (e = if 4096 < xl ∨ 4096 < yl then 10 else 0))
    (hbad : Hid (e = if tooLong A || tooLong B then 10 else 0))
    (hf : Hid (f = if 4096 < xl ∨ 4096 < xl then 10 else 0))
    (hbaf : Hid (f = if tooLong A || tooLong A then 10 else 0))
    (hg : Hid (gt < gu))
    (hbk : Below w.heap.size w wk)
    (pa : Pr wk g2 24 (.bool na) (.slice aa la ca))
    (pb : Pr wk g3 24 (.bool nb) (.slice ab lb cb))
    (px : Pr wk g6 28 (.bool nx) (.slice xo xl xc))
    (bx : Big wk nx xo xl xc va)
    (py : Pr wk g7 28 (.bool ny) (.slice yo yl yc))
    (b_y : Big wk ny yo yl yc vb)
    (pt : Pr wk g10 24 (.bool na) (.slice (some ⟨gt, 0, none⟩) la ct))
    (lt_ : Lent w.heap.size wk gt la ct A)
    (pu : Pr wk g11 24 (.bool nb) (.slice (some ⟨gu, 0, none⟩) lb cu))
    (lu : Lent w.heap.size wk gu lb cu B)
    (hk : Below wk.heap.size wk wr)
    (dc : Aw wk.heap.size wr gc nc oc lc cc e (bop landf va vb)) :
    Code.wp Tryd.prog (tail6 9) (Q6 w) ⟨#[u0, u1, .pointer (some ⟨g2, 0, none⟩), .pointer (some ⟨g3, 0, none⟩), u4, .bool true, .pointer (some ⟨g6, 0, none⟩), .pointer (some ⟨g7, 0, none⟩), .int .i64 e, .int .i64 f, .pointer (some ⟨g10, 0, none⟩), .pointer (some ⟨g11, 0, none⟩), .pointer (some ⟨gc, 0, none⟩), .int .i64 cc, u14, u15, u16, u17, u18, u19, u20, u21, u22, u23, u24, u25, u26, u27, u28, u29, u30, u31, u32, u33, u34, u35, u36, u37, u38, u39, u40, u41, u42, u43, u44, u45, u46, u47, u48, u49, u50, u51, u52, u53, u54, u55, u56, u57, u58, u59, u60, u61, u62, u63, u64, u65, u66, u67, u68, u69, u70, u71, u72, u73, u74, u75, u76, u77, u78, u79, u80, u81, u82, u83, u84, u85, u86, u87, u88, u89, u90, u91, u92, u93, u94, u95, u96, u97, u98, u99, u100, u101, u102, u103, u104, u105, u106, u107, u108, u109, u110, u111, u112, u113, u114, u115, u116, u117, u118, u119, u120], []⟩ wr := by
  obtain ⟨kpt0, kpt1, _, _⟩ := two_cells (pt.keep hk)
  obtain ⟨kpu0, kpu1, _, _⟩ := two_cells (pu.keep hk)
  show Code.wp Tryd.prog (Code.seq (head6 9) (tail6 10)) _ _ _
  conv => arg 2; arg 1; whnf
  go_wp2_with fail
  refine (orE ((lt_.keep hk).rd rA.ok (by omega)) ((lu.keep hk).rd rB.ok (by omega)) hva.out hvb.out hbad.out hk.size).mono ?_
  rintro r w2 ⟨n1, o1, l1, c1, rfl, hA1, hb2⟩
  have hs2 := hb2.size
  go_wp2
  exact BI_10 (rA) (rB) (zA) (zB) (sA) (sB) (hva) (hvb) (hxl) (hyl) (he) (hbad) (hf) (hbaf) (hg) (hbk) (pa) (pb) (px) (bx) (py) (b_y) (pt) (lt_) (pu) (lu) ((hk.trans (hb2.mono hk.size)).alloc (hk.trans (hb2.mono hk.size)).size _) ((dc.keep hb2).alloc _) (Aw.new hA1.1) (Disj.later dc.ans hA1)

set_option maxRecDepth 100000 in
set_option maxHeartbeats 8000000 in
theorem BI_8 {w wk wr : World} {na : Bool} {nb : Bool} {nx : Bool} {ny : Bool} {aa : Option Addr} {ab : Option Addr} {xo : Option Addr} {yo : Option Addr} {A : List Nat} {B : List Nat} {va : Int} {vb : Int} {e : Int} {f : Int} {la : Nat} {ca : Nat} {lb : Nat} {cb : Nat} {xl : Nat} {xc : Nat} {yl : Nat} {yc : Nat} {g2 : Nat} {g3 : Nat} {g6 : Nat} {g7 : Nat} {g10 : Nat} {g11 : Nat} {gt : Nat} {ct : Nat} {gu : Nat} {cu : Nat} {u0 u1 u4 u12 u13 u14 u15 u16 u17 u18 u19 u20 u21 u22 u23 u24 u25 u26 u27 u28 u29 u30 u31 u32 u33 u34 u35 u36 u37 u38 u39 u40 u41 u42 u43 u44 u45 u46 u47 u48 u49 u50 u51 u52 u53 u54 u55 u56 u57 u58 u59 u60 u61 u62 u63 u64 u65 u66 u67 u68 u69 u70 u71 u72 u73 u74 u75 u76 u77 u78 u79 u80 u81 u82 u83 u84 u85 u86 u87 u88 u89 u90 u91 u92 u93 u94 u95 u96 u97 u98 u99 u100 u101 u102 u103 u104 u105 u106 u107 u108 u109 u110 u111 u112 u113 u114 u115 u116 u117 u118 u119 u120 : Value}
    (rA : Rd w aa la ca A)
    (rB : Rd w ab lb cb B)
    (zA : Hid (aa = none → ca = 0))
    (zB : Hid (ab = none → cb = 0))
    (sA : la ≤ 1048576)
    (sB : lb ≤ 1048576)
    (hva : Hid (num na A = va))
    (hvb : Hid (num nb B = vb))
    (hxl : xl ≤ 33554432)
    (hyl : yl ≤ 33554432)
    (he : Hid (e = if 4096 < xl ∨ 4096 < yl then 10 else 0))
    (hbad : Hid (e = if tooLong A || tooLong B then 10 else 0))
    (hf : Hid (f = if 4096 < xl ∨ 4096 < xl then 10 else 0))
    (hbaf : Hid (f = if tooLong A || tooLong A then 10 else 0))
    (hg : Hid (gt < gu))
    (hbk : Below w.heap.size w wk)
    (pa : Pr wk g2 24 (.bool na) (.slice aa la ca))
    (pb : Pr wk g3 24 (.bool nb) (.slice ab lb cb))
    (px : Pr wk g6 28 (.bool nx) (.slice xo xl xc))
    (bx : Big wk nx xo xl xc va)
    (py : Pr wk g7 28 (.bool ny) (.slice yo yl yc))
    (b_y : Big wk ny yo yl yc vb)
    (pt : Pr wk g10 24 (.bool na) (.slice (some ⟨gt, 0, none⟩) la ct))
    (lt_ : Lent w.heap.size wk gt la ct A)
    (pu : Pr wk g11 24 (.bool nb) (.slice (some ⟨gu, 0, none⟩) lb cu))
    (lu : Lent w.heap.size wk gu lb cu B)
    (hk : Below wk.heap.size wk wr) :
    Code.wp Tryd.prog (tail6 8) (Q6 w) ⟨#[u0, u1, .pointer (some ⟨g2, 0, none⟩), .pointer (some ⟨g3, 0, none⟩), u4, .bool true, .pointer (some ⟨g6, 0, none⟩), .pointer (some ⟨g7, 0, none⟩), .int .i64 e, .int .i64 f, .pointer (some ⟨g10, 0, none⟩), .pointer (some ⟨g11, 0, none⟩), u12, u13, u14, u15, u16, u17, u18, u19, u20, u21, u22, u23, u24, u25, u26, u27, u28, u29, u30, u31, u32, u33, u34, u35, u36, u37, u38, u39, u40, u41, u42, u43, u44, u45, u46, u47, u48, u49, u50, u51, u52, u53, u54, u55, u56, u57, u58, u59, u60, u61, u62, u63, u64, u65, u66, u67, u68, u69, u70, u71, u72, u73, u74, u75, u76, u77, u78, u79, u80, u81, u82, u83, u84, u85, u86, u87, u88, u89, u90, u91, u92, u93, u94, u95, u96, u97, u98, u99, u100, u101, u102, u103, u104, u105, u106, u107, u108, u109, u110, u111, u112, u113, u114, u115, u116, u117, u118, u119, u120], []⟩ wr := by
  obtain ⟨kpt0, kpt1, _, _⟩ := two_cells (pt.keep hk)
  obtain ⟨kpu0, kpu1, _, _⟩ := two_cells (pu.keep hk)
  show Code.wp Tryd.prog (Code.seq (head6 8) (tail6 9)) _ _ _
  conv => arg 2; arg 1; whnf
  go_wp2_with fail
  refine (andE ((lt_.keep hk).rd rA.ok (by omega)) ((lu.keep hk).rd rB.ok (by omega)) hva.out hvb.out hbad.out hk.size).mono ?_
  rintro r w2 ⟨n1, o1, l1, c1, rfl, hA1, hb2⟩
  have hs2 := hb2.size
  go_wp2
  exact BI_9 (rA) (rB) (zA) (zB) (sA) (sB) (hva) (hvb) (hxl) (hyl) (he) (hbad) (hf) (hbaf) (hg) (hbk) (pa) (pb) (px) (bx) (py) (b_y) (pt) (lt_) (pu) (lu) ((hk.trans (hb2.mono hk.size)).alloc (hk.trans (hb2.mono hk.size)).size _) (Aw.new hA1.1)

set_option maxRecDepth 100000 in
set_option maxHeartbeats 8000000 in
theorem BI_7 {w wr : World} {na : Bool} {nb : Bool} {nx : Bool} {ny : Bool} {aa : Option Addr} {ab : Option Addr} {xo : Option Addr} {yo : Option Addr} {A : List Nat} {B : List Nat} {va : Int} {vb : Int} {e : Int} {f : Int} {la : Nat} {ca : Nat} {lb : Nat} {cb : Nat} {xl : Nat} {xc : Nat} {yl : Nat} {yc : Nat} {g2 : Nat} {g3 : Nat} {g6 : Nat} {g7 : Nat} {g10 : Nat} {gt : Nat} {ct : Nat} {u0 u1 u4 u11 u12 u13 u14 u15 u16 u17 u18 u19 u20 u21 u22 u23 u24 u25 u26 u27 u28 u29 u30 u31 u32 u33 u34 u35 u36 u37 u38 u39 u40 u41 u42 u43 u44 u45 u46 u47 u48 u49 u50 u51 u52 u53 u54 u55 u56 u57 u58 u59 u60 u61 u62 u63 u64 u65 u66 u67 u68 u69 u70 u71 u72 u73 u74 u75 u76 u77 u78 u79 u80 u81 u82 u83 u84 u85 u86 u87 u88 u89 u90 u91 u92 u93 u94 u95 u96 u97 u98 u99 u100 u101 u102 u103 u104 u105 u106 u107 u108 u109 u110 u111 u112 u113 u114 u115 u116 u117 u118 u119 u120 : Value}
    (rA : Rd w aa la ca A)
    (rB : Rd w ab lb cb B)
    (zA : Hid (aa = none → ca = 0))
    (zB : Hid (ab = none → cb = 0))
    (sA : la ≤ 1048576)
    (sB : lb ≤ 1048576)
    (hva : Hid (num na A = va))
    (hvb : Hid (num nb B = vb))
    (hxl : xl ≤ 33554432)
    (hyl : yl ≤ 33554432)
    (he : Hid (e = if 4096 < xl ∨ 4096 < yl then 10 else 0))
    (hbad : Hid (e = if tooLong A || tooLong B then 10 else 0))
    (hf : Hid (f = if 4096 < xl ∨ 4096 < xl then 10 else 0))
    (hbaf : Hid (f = if tooLong A || tooLong A then 10 else 0))
    (hb : Below w.heap.size w wr)
    (pa : Pr wr g2 24 (.bool na) (.slice aa la ca))
    (pb : Pr wr g3 24 (.bool nb) (.slice ab lb cb))
    (px : Pr wr g6 28 (.bool nx) (.slice xo xl xc))
    (bx : Big wr nx xo xl xc va)
    (py : Pr wr g7 28 (.bool ny) (.slice yo yl yc))
    (b_y : Big wr ny yo yl yc vb)
    (pt : Pr wr g10 24 (.bool na) (.slice (some ⟨gt, 0, none⟩) la ct))
    (lt_ : Lent w.heap.size wr gt la ct A) :
    Code.wp Tryd.prog (tail6 7) (Q6 w) ⟨#[u0, u1, .pointer (some ⟨g2, 0, none⟩), .pointer (some ⟨g3, 0, none⟩), u4, .bool true, .pointer (some ⟨g6, 0, none⟩), .pointer (some ⟨g7, 0, none⟩), .int .i64 e, .int .i64 f, .pointer (some ⟨g10, 0, none⟩), u11, u12, u13, u14, u15, u16, u17, u18, u19, u20, u21, u22, u23, u24, u25, u26, u27, u28, u29, u30, u31, u32, u33, u34, u35, u36, u37, u38, u39, u40, u41, u42, u43, u44, u45, u46, u47, u48, u49, u50, u51, u52, u53, u54, u55, u56, u57, u58, u59, u60, u61, u62, u63, u64, u65, u66, u67, u68, u69, u70, u71, u72, u73, u74, u75, u76, u77, u78, u79, u80, u81, u82, u83, u84, u85, u86, u87, u88, u89, u90, u91, u92, u93, u94, u95, u96, u97, u98, u99, u100, u101, u102, u103, u104, u105, u106, u107, u108, u109, u110, u111, u112, u113, u114, u115, u116, u117, u118, u119, u120], []⟩ wr := by
  obtain ⟨kpb0, kpb1, _, _⟩ := two_cells pb
  show Code.wp Tryd.prog (Code.seq (head6 7) (tail6 8)) _ _ _
  conv => arg 2; arg 1; whnf
  go_wp2_with fail
  refine (lentR nb ab lb cb B _ (rB.keep hb) zB.out (by omega)).mono ?_
  rintro e_ w2 ⟨gu, cu, rfl, lu, hb2⟩
  have hgg := Nat.lt_of_lt_of_le lt_.ge.2 lu.ge.1
  go_wp2
  have hb3 := hb.trans (hb2.mono hb.size)
  exact BI_8 (rA) (rB) (zA) (zB) (sA) (sB) (hva) (hvb) (hxl) (hyl) (he) (hbad) (hf) (hbaf) (hid hgg) (hb3.alloc hb3.size _) ((pa.keep hb2).alloc _) ((pb.keep hb2).alloc _) ((px.keep hb2).alloc _) ((bx.keep hb2).alloc _) ((py.keep hb2).alloc _) ((b_y.keep hb2).alloc _) ((pt.keep hb2).alloc _) ((lt_.keep hb2).alloc _) (Pr.new _ _ _ _) ((lu.base hb.size).alloc _) (Below.refl _ _)

set_option maxRecDepth 100000 in
set_option maxHeartbeats 8000000 in
theorem BI_6 {w wr : World} {na : Bool} {nb : Bool} {nx : Bool} {ny : Bool} {aa : Option Addr} {ab : Option Addr} {xo : Option Addr} {yo : Option Addr} {A : List Nat} {B : List Nat} {va : Int} {vb : Int} {e : Int} {f : Int} {la : Nat} {ca : Nat} {lb : Nat} {cb : Nat} {xl : Nat} {xc : Nat} {yl : Nat} {yc : Nat} {g2 : Nat} {g3 : Nat} {g6 : Nat} {g7 : Nat} {u0 u1 u4 u10 u11 u12 u13 u14 u15 u16 u17 u18 u19 u20 u21 u22 u23 u24 u25 u26 u27 u28 u29 u30 u31 u32 u33 u34 u35 u36 u37 u38 u39 u40 u41 u42 u43 u44 u45 u46 u47 u48 u49 u50 u51 u52 u53 u54 u55 u56 u57 u58 u59 u60 u61 u62 u63 u64 u65 u66 u67 u68 u69 u70 u71 u72 u73 u74 u75 u76 u77 u78 u79 u80 u81 u82 u83 u84 u85 u86 u87 u88 u89 u90 u91 u92 u93 u94 u95 u96 u97 u98 u99 u100 u101 u102 u103 u104 u105 u106 u107 u108 u109 u110 u111 u112 u113 u114 u115 u116 u117 u118 u119 u120 : Value}
    (rA : Rd w aa la ca A)
    (rB : Rd w ab lb cb B)
    (zA : Hid (aa = none → ca = 0))
    (zB : Hid (ab = none → cb = 0))
    (sA : la ≤ 1048576)
    (sB : lb ≤ 1048576)
    (hva : Hid (num na A = va))
    (hvb : Hid (num nb B = vb))
    (hxl : xl ≤ 33554432)
    (hyl : yl ≤ 33554432)
    (he : Hid (e = if 4096 < xl ∨ 4096 < yl then 10 else 0))
    (hbad : Hid (e = if tooLong A || tooLong B then 10 else 0))
    (hf : Hid (f = if 4096 < xl ∨ 4096 < xl then 10 else 0))
    (hbaf : Hid (f = if tooLong A || tooLong A then 10 else 0))
    (hb : Below w.heap.size w wr)
    (pa : Pr wr g2 24 (.bool na) (.slice aa la ca))
    (pb : Pr wr g3 24 (.bool nb) (.slice ab lb cb))
    (px : Pr wr g6 28 (.bool nx) (.slice xo xl xc))
    (bx : Big wr nx xo xl xc va)
    (py : Pr wr g7 28 (.bool ny) (.slice yo yl yc))
    (b_y : Big wr ny yo yl yc vb) :
    Code.wp Tryd.prog (tail6 6) (Q6 w) ⟨#[u0, u1, .pointer (some ⟨g2, 0, none⟩), .pointer (some ⟨g3, 0, none⟩), u4, .bool true, .pointer (some ⟨g6, 0, none⟩), .pointer (some ⟨g7, 0, none⟩), .int .i64 e, .int .i64 f, u10, u11, u12, u13, u14, u15, u16, u17, u18, u19, u20, u21, u22, u23, u24, u25, u26, u27, u28, u29, u30, u31, u32, u33, u34, u35, u36, u37, u38, u39, u40, u41, u42, u43, u44, u45, u46, u47, u48, u49, u50, u51, u52, u53, u54, u55, u56, u57, u58, u59, u60, u61, u62, u63, u64, u65, u66, u67, u68, u69, u70, u71, u72, u73, u74, u75, u76, u77, u78, u79, u80, u81, u82, u83, u84, u85, u86, u87, u88, u89, u90, u91, u92, u93, u94, u95, u96, u97, u98, u99, u100, u101, u102, u103, u104, u105, u106, u107, u108, u109, u110, u111, u112, u113, u114, u115, u116, u117, u118, u119, u120], []⟩ wr := by
  obtain ⟨kpa0, kpa1, _, _⟩ := two_cells pa
  show Code.wp Tryd.prog (Code.seq (head6 6) (tail6 7)) _ _ _
  conv => arg 2; arg 1; whnf
  go_wp2_with fail
  refine (lentR na aa la ca A _ (rA.keep hb) zA.out (by omega)).mono ?_
  rintro e w2 ⟨g_, c_, rfl, lx, hb2⟩
  go_wp2
  have hb3 := hb.trans (hb2.mono hb.size)
  exact BI_7 (rA) (rB) (zA) (zB) (sA) (sB) (hva) (hvb) (hxl) (hyl) (he) (hbad) (hf) (hbaf) (hb3.alloc hb3.size _) ((pa.keep hb2).alloc _) ((pb.keep hb2).alloc _) ((px.keep hb2).alloc _) ((bx.keep hb2).alloc _) ((py.keep hb2).alloc _) ((b_y.keep hb2).alloc _) (Pr.new _ _ _ _) ((lx.base hb.size).alloc _)

set_option maxRecDepth 100000 in
set_option maxHeartbeats 8000000 in
theorem BI_5 {w wr : World} {na : Bool} {nb : Bool} {nx : Bool} {ny : Bool} {aa : Option Addr} {ab : Option Addr} {xo : Option Addr} {yo : Option Addr} {A : List Nat} {B : List Nat} {va : Int} {vb : Int} {e : Int} {la : Nat} {ca : Nat} {lb : Nat} {cb : Nat} {xl : Nat} {xc : Nat} {yl : Nat} {yc : Nat} {g2 : Nat} {g3 : Nat} {g6 : Nat} {g7 : Nat} {u0 u1 u4 u9 u10 u11 u12 u13 u14 u15 u16 u17 u18 u19 u20 u21 u22 u23 u24 u25 u26 u27 u28 u29 u30 u31 u32 u33 u34 u35 u36 u37 u38 u39 u40 u41 u42 u43 u44 u45 u46 u47 u48 u49 u50 u51 u52 u53 u54 u55 u56 u57 u58 u59 u60 u61 u62 u63 u64 u65 u66 u67 u68 u69 u70 u71 u72 u73 u74 u75 u76 u77 u78 u79 u80 u81 u82 u83 u84 u85 u86 u87 u88 u89 u90 u91 u92 u93 u94 u95 u96 u97 u98 u99 u100 u101 u102 u103 u104 u105 u106 u107 u108 u109 u110 u111 u112 u113 u114 u115 u116 u117 u118 u119 u120 : Value}
    (rA : Rd w aa la ca A)
    (rB : Rd w ab lb cb B)
    (zA : Hid (aa = none → ca = 0))
    (zB : Hid (ab = none → cb = 0))
    (sA : la ≤ 1048576)
    (sB : lb ≤ 1048576)
    (hva : Hid (num na A = va))
    (hvb : Hid (num nb B = vb))
    (hxl : xl ≤ 33554432)
    (hyl : yl ≤ 33554432)
    (he : Hid (e = if 4096 < xl ∨ 4096 < yl then 10 else 0))
    (hbad : Hid (e = if tooLong A || tooLong B then 10 else 0))
    (hb : Below w.heap.size w wr)
    (pa : Pr wr g2 24 (.bool na) (.slice aa la ca))
    (pb : Pr wr g3 24 (.bool nb) (.slice ab lb cb))
    (px : Pr wr g6 28 (.bool nx) (.slice xo xl xc))
    (bx : Big wr nx xo xl xc va)
    (py : Pr wr g7 28 (.bool ny) (.slice yo yl yc))
    (b_y : Big wr ny yo yl yc vb) :
    Code.wp Tryd.prog (tail6 5) (Q6 w) ⟨#[u0, u1, .pointer (some ⟨g2, 0, none⟩), .pointer (some ⟨g3, 0, none⟩), u4, .bool true, .pointer (some ⟨g6, 0, none⟩), .pointer (some ⟨g7, 0, none⟩), .int .i64 e, u9, u10, u11, u12, u13, u14, u15, u16, u17, u18, u19, u20, u21, u22, u23, u24, u25, u26, u27, u28, u29, u30, u31, u32, u33, u34, u35, u36, u37, u38, u39, u40, u41, u42, u43, u44, u45, u46, u47, u48, u49, u50, u51, u52, u53, u54, u55, u56, u57, u58, u59, u60, u61, u62, u63, u64, u65, u66, u67, u68, u69, u70, u71, u72, u73, u74, u75, u76, u77, u78, u79, u80, u81, u82, u83, u84, u85, u86, u87, u88, u89, u90, u91, u92, u93, u94, u95, u96, u97, u98, u99, u100, u101, u102, u103, u104, u105, u106, u107, u108, u109, u110, u111, u112, u113, u114, u115, u116, u117, u118, u119, u120], []⟩ wr := by
  obtain ⟨kpx0, kpx1, _, _⟩ := two_cells px
  show Code.wp Tryd.prog (Code.seq (head6 5) (tail6 6)) _ _ _
  conv => arg 2; arg 1; whnf
  go_wp2_with fail
  refine (longR nx xo xl xc nx xo xl xc _).mono ?_
  rintro r w2 ⟨rfl, hb2⟩
  obtain ⟨f, hx1⟩ : ∃ e : Int, e = if 4096 < xl ∨ 4096 < xl then 10 else 0 := ⟨_, rfl⟩
  rw [← hx1]
  have hf := hid hx1
  have hbaf : Hid (f = if tooLong A || tooLong A then 10 else 0) := hid (hx1.trans (bad_of hva.out hva.out bx.len bx.len).symm)
  clear hx1
  go_wp2
  have hb3 := hb.trans (hb2.mono hb.size)
  exact BI_6 (rA) (rB) (zA) (zB) (sA) (sB) (hva) (hvb) (hxl) (hyl) (he) (hbad) (hf) (hbaf) (hb3) (pa.keep hb2) (pb.keep hb2) (px.keep hb2) (bx.keep hb2) (py.keep hb2) (b_y.keep hb2)

set_option maxRecDepth 100000 in
set_option maxHeartbeats 8000000 in
theorem BI_4 {w wr : World} {na : Bool} {nb : Bool} {nx : Bool} {ny : Bool} {aa : Option Addr} {ab : Option Addr} {xo : Option Addr} {yo : Option Addr} {A : List Nat} {B : List Nat} {va : Int} {vb : Int} {la : Nat} {ca : Nat} {lb : Nat} {cb : Nat} {xl : Nat} {xc : Nat} {yl : Nat} {yc : Nat} {g2 : Nat} {g3 : Nat} {g6 : Nat} {g7 : Nat} {u0 u1 u4 u8 u9 u10 u11 u12 u13 u14 u15 u16 u17 u18 u19 u20 u21 u22 u23 u24 u25 u26 u27 u28 u29 u30 u31 u32 u33 u34 u35 u36 u37 u38 u39 u40 u41 u42 u43 u44 u45 u46 u47 u48 u49 u50 u51 u52 u53 u54 u55 u56 u57 u58 u59 u60 u61 u62 u63 u64 u65 u66 u67 u68 u69 u70 u71 u72 u73 u74 u75 u76 u77 u78 u79 u80 u81 u82 u83 u84 u85 u86 u87 u88 u89 u90 u91 u92 u93 u94 u95 u96 u97 u98 u99 u100 u101 u102 u103 u104 u105 u106 u107 u108 u109 u110 u111 u112 u113 u114 u115 u116 u117 u118 u119 u120 : Value}
    (rA : Rd w aa la ca A)
    (rB : Rd w ab lb cb B)
    (zA : Hid (aa = none → ca = 0))
    (zB : Hid (ab = none → cb = 0))
    (sA : la ≤ 1048576)
    (sB : lb ≤ 1048576)
    (hva : Hid (num na A = va))
    (hvb : Hid (num nb B = vb))
    (hxl : xl ≤ 33554432)
    (hyl : yl ≤ 33554432)
    (hb : Below w.heap.size w wr)
    (pa : Pr wr g2 24 (.bool na) (.slice aa la ca))
    (pb : Pr wr g3 24 (.bool nb) (.slice ab lb cb))
    (px : Pr wr g6 28 (.bool nx) (.slice xo xl xc))
    (bx : Big wr nx xo xl xc va)
    (py : Pr wr g7 28 (.bool ny) (.slice yo yl yc))
    (b_y : Big wr ny yo yl yc vb) :
    Code.wp Tryd.prog (tail6 4) (Q6 w) ⟨#[u0, u1, .pointer (some ⟨g2, 0, none⟩), .pointer (some ⟨g3, 0, none⟩), u4, .bool true, .pointer (some ⟨g6, 0, none⟩), .pointer (some ⟨g7, 0, none⟩), u8, u9, u10, u11, u12, u13, u14, u15, u16, u17, u18, u19, u20, u21, u22, u23, u24, u25, u26, u27, u28, u29, u30, u31, u32, u33, u34, u35, u36, u37, u38, u39, u40, u41, u42, u43, u44, u45, u46, u47, u48, u49, u50, u51, u52, u53, u54, u55, u56, u57, u58, u59, u60, u61, u62, u63, u64, u65, u66, u67, u68, u69, u70, u71, u72, u73, u74, u75, u76, u77, u78, u79, u80, u81, u82, u83, u84, u85, u86, u87, u88, u89, u90, u91, u92, u93, u94, u95, u96, u97, u98, u99, u100, u101, u102, u103, u104, u105, u106, u107, u108, u109, u110, u111, u112, u113, u114, u115, u116, u117, u118, u119, u120], []⟩ wr := by
  obtain ⟨kpx0, kpx1, _, _⟩ := two_cells px
  obtain ⟨kpy0, kpy1, _, _⟩ := two_cells py
  show Code.wp Tryd.prog (Code.seq (head6 4) (tail6 5)) _ _ _
  conv => arg 2; arg 1; whnf
  go_wp2_with fail
  refine (longR nx xo xl xc ny yo yl yc _).mono ?_
  rintro r w2 ⟨rfl, hb2⟩
  obtain ⟨e, hx1⟩ : ∃ e : Int, e = if 4096 < xl ∨ 4096 < yl then 10 else 0 := ⟨_, rfl⟩
  rw [← hx1]
  have he := hid hx1
  have hbad : Hid (e = if tooLong A || tooLong B then 10 else 0) := hid (hx1.trans (bad_of hva.out hvb.out bx.len b_y.len).symm)
  clear hx1
  go_wp2
  have hb3 := hb.trans (hb2.mono hb.size)
  exact BI_5 (rA) (rB) (zA) (zB) (sA) (sB) (hva) (hvb) (hxl) (hyl) (he) (hbad) (hb3) (pa.keep hb2) (pb.keep hb2) (px.keep hb2) (bx.keep hb2) (py.keep hb2) (b_y.keep hb2)

set_option maxRecDepth 100000 in
set_option maxHeartbeats 8000000 in
theorem BI_3 {w wr : World} {na : Bool} {nb : Bool} {nx : Bool} {aa : Option Addr} {ab : Option Addr} {xo : Option Addr} {A : List Nat} {B : List Nat} {va : Int} {vb : Int} {la : Nat} {ca : Nat} {lb : Nat} {cb : Nat} {xl : Nat} {xc : Nat} {g2 : Nat} {g3 : Nat} {g6 : Nat} {u0 u1 u4 u7 u8 u9 u10 u11 u12 u13 u14 u15 u16 u17 u18 u19 u20 u21 u22 u23 u24 u25 u26 u27 u28 u29 u30 u31 u32 u33 u34 u35 u36 u37 u38 u39 u40 u41 u42 u43 u44 u45 u46 u47 u48 u49 u50 u51 u52 u53 u54 u55 u56 u57 u58 u59 u60 u61 u62 u63 u64 u65 u66 u67 u68 u69 u70 u71 u72 u73 u74 u75 u76 u77 u78 u79 u80 u81 u82 u83 u84 u85 u86 u87 u88 u89 u90 u91 u92 u93 u94 u95 u96 u97 u98 u99 u100 u101 u102 u103 u104 u105 u106 u107 u108 u109 u110 u111 u112 u113 u114 u115 u116 u117 u118 u119 u120 : Value}
    (rA : Rd w aa la ca A)
    (rB : Rd w ab lb cb B)
    (zA : Hid (aa = none → ca = 0))
    (zB : Hid (ab = none → cb = 0))
    (sA : la ≤ 1048576)
    (sB : lb ≤ 1048576)
    (hva : Hid (num na A = va))
    (hvb : Hid (num nb B = vb))
    (hxl : xl ≤ 33554432)
    (hb : Below w.heap.size w wr)
    (pa : Pr wr g2 24 (.bool na) (.slice aa la ca))
    (pb : Pr wr g3 24 (.bool nb) (.slice ab lb cb))
    (px : Pr wr g6 28 (.bool nx) (.slice xo xl xc))
    (bx : Big wr nx xo xl xc va) :
    Code.wp Tryd.prog (tail6 3) (Q6 w) ⟨#[u0, u1, .pointer (some ⟨g2, 0, none⟩), .pointer (some ⟨g3, 0, none⟩), u4, .bool true, .pointer (some ⟨g6, 0, none⟩), u7, u8, u9, u10, u11, u12, u13, u14, u15, u16, u17, u18, u19, u20, u21, u22, u23, u24, u25, u26, u27, u28, u29, u30, u31, u32, u33, u34, u35, u36, u37, u38, u39, u40, u41, u42, u43, u44, u45, u46, u47, u48, u49, u50, u51, u52, u53, u54, u55, u56, u57, u58, u59, u60, u61, u62, u63, u64, u65, u66, u67, u68, u69, u70, u71, u72, u73, u74, u75, u76, u77, u78, u79, u80, u81, u82, u83, u84, u85, u86, u87, u88, u89, u90, u91, u92, u93, u94, u95, u96, u97, u98, u99, u100, u101, u102, u103, u104, u105, u106, u107, u108, u109, u110, u111, u112, u113, u114, u115, u116, u117, u118, u119, u120], []⟩ wr := by
  obtain ⟨kpb0, kpb1, _, _⟩ := two_cells pb
  show Code.wp Tryd.prog (Code.seq (head6 3) (tail6 4)) _ _ _
  conv => arg 2; arg 1; whnf
  go_wp2_with fail
  refine (ofR nb ab lb cb B _ (rB.keep hb) (by omega)).mono ?_
  rintro e w2 ⟨ny, yo, yl, yc, rfl, hl, bnew, hb2⟩
  go_wp2
  have hb3 := hb.trans (hb2.mono hb.size)
  exact BI_4 (rA) (rB) (zA) (zB) (sA) (sB) (hva) (hvb) (hxl) (by omega) (hb3.alloc hb3.size _) ((pa.keep hb2).alloc _) ((pb.keep hb2).alloc _) ((px.keep hb2).alloc _) ((bx.keep hb2).alloc _) (Pr.new _ _ _ _) ((bnew.cast hvb.out).alloc _)

set_option maxRecDepth 100000 in
set_option maxHeartbeats 8000000 in
theorem BI_2 {w wr : World} {na : Bool} {nb : Bool} {aa : Option Addr} {ab : Option Addr} {A : List Nat} {B : List Nat} {va : Int} {vb : Int} {la : Nat} {ca : Nat} {lb : Nat} {cb : Nat} {g2 : Nat} {g3 : Nat} {u0 u1 u4 u6 u7 u8 u9 u10 u11 u12 u13 u14 u15 u16 u17 u18 u19 u20 u21 u22 u23 u24 u25 u26 u27 u28 u29 u30 u31 u32 u33 u34 u35 u36 u37 u38 u39 u40 u41 u42 u43 u44 u45 u46 u47 u48 u49 u50 u51 u52 u53 u54 u55 u56 u57 u58 u59 u60 u61 u62 u63 u64 u65 u66 u67 u68 u69 u70 u71 u72 u73 u74 u75 u76 u77 u78 u79 u80 u81 u82 u83 u84 u85 u86 u87 u88 u89 u90 u91 u92 u93 u94 u95 u96 u97 u98 u99 u100 u101 u102 u103 u104 u105 u106 u107 u108 u109 u110 u111 u112 u113 u114 u115 u116 u117 u118 u119 u120 : Value}
    (rA : Rd w aa la ca A)
    (rB : Rd w ab lb cb B)
    (zA : Hid (aa = none → ca = 0))
    (zB : Hid (ab = none → cb = 0))
    (sA : la ≤ 1048576)
    (sB : lb ≤ 1048576)
    (hva : Hid (num na A = va))
    (hvb : Hid (num nb B = vb))
    (hb : Below w.heap.size w wr)
    (pa : Pr wr g2 24 (.bool na) (.slice aa la ca))
    (pb : Pr wr g3 24 (.bool nb) (.slice ab lb cb)) :
    Code.wp Tryd.prog (tail6 2) (Q6 w) ⟨#[u0, u1, .pointer (some ⟨g2, 0, none⟩), .pointer (some ⟨g3, 0, none⟩), u4, .bool true, u6, u7, u8, u9, u10, u11, u12, u13, u14, u15, u16, u17, u18, u19, u20, u21, u22, u23, u24, u25, u26, u27, u28, u29, u30, u31, u32, u33, u34, u35, u36, u37, u38, u39, u40, u41, u42, u43, u44, u45, u46, u47, u48, u49, u50, u51, u52, u53, u54, u55, u56, u57, u58, u59, u60, u61, u62, u63, u64, u65, u66, u67, u68, u69, u70, u71, u72, u73, u74, u75, u76, u77, u78, u79, u80, u81, u82, u83, u84, u85, u86, u87, u88, u89, u90, u91, u92, u93, u94, u95, u96, u97, u98, u99, u100, u101, u102, u103, u104, u105, u106, u107, u108, u109, u110, u111, u112, u113, u114, u115, u116, u117, u118, u119, u120], []⟩ wr := by
  obtain ⟨kpa0, kpa1, _, _⟩ := two_cells pa
  show Code.wp Tryd.prog (Code.seq (head6 2) (tail6 3)) _ _ _
  conv => arg 2; arg 1; whnf
  go_wp2_with fail
  refine (ofR na aa la ca A _ (rA.keep hb) (by omega)).mono ?_
  rintro e w2 ⟨nx, xo, xl, xc, rfl, hl, bnew, hb2⟩
  go_wp2
  have hb3 := hb.trans (hb2.mono hb.size)
  exact BI_3 (rA) (rB) (zA) (zB) (sA) (sB) (hva) (hvb) (by omega) (hb3.alloc hb3.size _) ((pa.keep hb2).alloc _) ((pb.keep hb2).alloc _) (Pr.new _ _ _ _) ((bnew.cast hva.out).alloc _)

set_option maxRecDepth 100000 in
set_option maxHeartbeats 2000000 in
theorem bits_yes {na : Bool} {aa : Option Addr} {la ca : Nat} {A : List Nat} {nb : Bool} {ab : Option Addr} {lb cb : Nat} {B : List Nat} (w : World) (hA : Rd w aa la ca A) (sA : la ≤ 1048576) (zA : aa = none → ca = 0) (hB : Rd w ab lb cb B) (sB : lb ≤ 1048576) (zB : ab = none → cb = 0) :
    Calls Tryd.prog 6 #[.agg #[.bool na, .slice aa la ca], .agg #[.bool nb, .slice ab lb cb]] w fun e w' => e = .returned (.bool true) ∧ Below w.heap.size w w' := by
  have X0 := (Pr.new w 24 (.bool na) (.slice aa la ca)).alloc (.cells #[.bool nb, .slice ab lb cb] 24)
  have X1 := Pr.new (w.alloc (.cells #[.bool na, .slice aa la ca] 24)) 24 (.bool nb) (.slice ab lb cb)
  rw [show (w.alloc (.cells #[.bool na, .slice aa la ca] 24)).heap.size = w.heap.size + 1 by simp] at X1
  have hb := ((Below.refl w.heap.size w).alloc (Nat.le_refl _) (.cells #[.bool na, .slice aa la ca] 24)).alloc (by simp) (.cells #[.bool nb, .slice ab lb cb] 24)
  have z1 := hid zA
  have z2 := hid zB
  clear zA zB
  go_enter Tryd.func6, Tryd.ntmps6
  change Code.wp Tryd.prog (Code.seq (head6 0) (tail6 1)) (Q6 w) _ _
  conv => arg 2; arg 1; whnf
  go_wp2
  show Code.wp Tryd.prog (Code.seq (head6 1) (tail6 2)) _ _ _
  conv => arg 2; arg 1; whnf
  go_wp2_with fail
  refine (awake_yes _).mono ?_
  rintro e w2 ⟨rfl, hb2⟩
  go_wp2
  exact BI_2 hA hB z1 z2 sA sB (hid rfl) (hid rfl) (hb.trans (hb2.mono hb.size)) (X0.keep hb2) (X1.keep hb2)

end Go.Proofs.YtldafoojkimdeaaDoor

namespace Go.Proofs.YtldafoojkimdeaaDoor
open Go.ChangeShapes Go.WideShapes Go.ChangeAt Go.RowKit Go.Joins Lm

theorem bits_params : ∀ t ∈ Tryd.f6.params.toList, Tryd.prog.readableRec t = true ∧ t < Tryd.prog.types.size := by
  intro t ht
  rw [Tryd.params6] at ht
  simp at ht
  subst ht; exact reads24

set_option maxRecDepth 100000 in
theorem bits_contract (H : Type) (enc : TypeId × Value → H) (W : World) (base : Nat) (args : Array Value) (ds gs : List (DataW H)) (before : List MemPlace)
    (hval : ∀ (j : Nat) t v, Tryd.f6.params[j]? = some t → args[j]? = some v → Value.okWide Tryd.prog W .any base t v)
    (hW : DataW.Whole enc Tryd.prog Tryd.f6.params.toList Rows.bigintBitsSpec.vars false W args.toList ds gs before)
    (hsz : (DataW.weightsEach Tryd.prog (Tryd.f6.params.toList ++ (OpenSpec.ofChange Rows.bigintBitsSpec).bare.plain.varTypes Tryd.prog) (ds ++ gs)).all (· ≤ reachBytes) = true) (hk : Rows.uptoBulkAll (ds ++ gs) ≤ 1048576) :
    Calls Tryd.prog 6 args W fun e W' => ∃ v, e = .returned v ∧ Rows.bigintBitsSpec.post enc Tryd.prog Tryd.f6 false true false false W args v W' := by
  have hW' := hW
  obtain ⟨p, q, hA0, hV, rfl, hfz, hnd⟩ := hW
  have hA : DataW.TrodAll enc Tryd.prog W 0 (fun _ => true) true Tryd.f6.params.toList args.toList ds p := hA0
  rw [Tryd.params6] at hA hval hsz
  obtain ⟨v0, vs0, d0, ds0, p0, q0, hargs, rfl, rfl, h0, r0⟩ := trodAll_cons hA
  obtain ⟨v1, vs1, d1, ds1, p1, q1, rfl, rfl, rfl, h1, r1⟩ := trodAll_cons r0
  obtain ⟨rfl, rfl, rfl⟩ := trodAll_nil r1
  obtain rfl : args = #[v0, v1] := by cases args; simp_all
  obtain ⟨n0, a0, l0, c0, A0, rfl, w0, s0, z0⟩ := open_num2 rfl hsz (j := 0) rfl rfl (hval 0 24 v0 rfl rfl) h0 hk
  obtain ⟨n1, a1, l1, c1, A1, rfl, w1, s1, z1⟩ := open_num2 rfl hsz (j := 1) rfl rfl (hval 1 24 v1 rfl rfl) h1 hk
  refine (bits_yes W w0 s0 z0 w1 s1 z1).mono fun e W' ⟨he, hb⟩ => ⟨_, he, ?_⟩
  exact law_post bits_params rfl rfl rfl rfl rfl hW' hb

/-- The world of the witness. -/
noncomputable def bitsWorld (os : Os) : World := World.laidAll Tryd.prog os Rows.bigintBitsUptoRow.laid
noncomputable def bitsArgs : Array Value := #[.agg #[.bool false, .slice none 0 0], .agg #[.bool false, .slice none 0 0]]
set_option maxRecDepth 100000 in
theorem bits_laid (os : Os) : laidMet Tryd.prog Rows.bigintBitsUptoRow.laid ((bitsWorld os).forCall (fun _ _ => 0) ⟨#[], bitsArgs, []⟩).memory :=
  laidMet_laidAll _ (by kernel_rfl) (by kernel_rfl)
set_option maxRecDepth 100000 in
theorem bits_reads (os : Os) {H : Type} (enc : TypeId × Value → H) : ∃ places, DataW.whole enc Tryd.prog ((bitsWorld os).forCall (fun _ _ => 0) ⟨#[], bitsArgs, []⟩).memory Tryd.f6.params.toList Rows.bigintBitsSpec.vars false bitsArgs.toList 8 =
    some ([.agg [.lit (.bool false), .nil], .agg [.lit (.bool false), .nil]], [], places) :=
  ⟨[], by kernel_rfl⟩

set_option maxRecDepth 100000 in
theorem bits_lifted (os : Os) (started : os.Started) (H : Type) (enc : TypeId × Value → H) (F : Stop.Interp) :
    ReturnsInHanded {} Tryd.checked os 6 .any ((Rows.OpenSpec.upto Rows.bigintBitsSpec).preRow enc Tryd.prog Tryd.f6 Rows.bigintBitsUptoRow.domain false Rows.bigintBitsUptoRow.laid) (((Rows.OpenSpec.upto Rows.bigintBitsSpec).at F).post enc Tryd.prog Tryd.f6 false true false false) := by
  obtain ⟨places, hx⟩ := bits_reads os enc
  refine returnsInHanded_of_row (C := Tryd.checked) (s := Rows.OpenSpec.upto Rows.bigintBitsSpec) own started (by kernel_rfl) Tryd.func6
    (witness_row_at (enc := enc) (C := Tryd.checked) false (bitsWorld os) bitsArgs (World.laidAll_os _ _ _) (by kernel_rfl) (by kernel_rfl) (by kernel_rfl)
      (OpenSpec.preRow_of_cond 8 hx (by kernel_rfl) (fun k hk => by cases hk; kernel_rfl) (by kernel_rfl) (bits_laid os))) ?_
  intro W base args ds gs before hval hW _ hcond hsz hL _ _
  exact bits_contract H enc W base args ds gs before hval hW hsz (of_decide_eq_true (hcond _ rfl))

set_option maxRecDepth 100000 in
theorem bits_said : Rows.BigintBitsUptoSaid :=
  OpenClaim.holds_of_cond 6 Tryd.f6 rfl rfl rfl rfl rfl rfl rfl ⟨rfl, rfl, rfl, rfl, rfl⟩ rfl rfl rfl rfl rfl (by kernel_rfl) Tryd.func6 (by kernel_rfl)
    (of_decide_eq_true (by kernel_rfl)) (by unfold Func.isWrapper; first | (rw [if_pos (by decide +kernel)]; kernel_rfl) | (rw [if_neg (by decide +kernel)]; exact ⟨rfl, rfl⟩))
    (fun os started H enc _ F => by rw [OpenClaim.pre_eq_preRow]; exact bits_lifted os started H enc F)

set_option maxRecDepth 100000 in
theorem bits_plain (f : FuncId) (fn : Func) (hf : Tryd.pinned.checked.prog.funcNamed "hornbeam/hornbeamlaw01.BigintBits" = some f) (hfn : Tryd.pinned.checked.prog.funcs[f]? = some fn) :
    false = Tryd.pinned.checked.prog.looks [] ∧ ∀ (j : Nat) t, fn.params[j]? = some t → Tryd.pinned.checked.prog.wantsStandIn t = false := by
  obtain rfl : f = 6 := Option.some.inj ((show Tryd.prog.funcNamed "hornbeam/hornbeamlaw01.BigintBits" = some 6 by kernel_rfl).symm.trans hf) |>.symm
  obtain rfl : fn = Tryd.f6 := (Option.some.inj (Tryd.func6.symm.trans hfn)).symm
  refine ⟨by kernel_rfl, fun j t ht => ?_⟩
  rw [Tryd.params6] at ht
  obtain rfl : t = 24 := by simpa using Array.mem_of_getElem? ht
  exact (show Tryd.prog.wantsStandIn 24 = false by kernel_rfl)

set_option maxRecDepth 100000 in
theorem bits_card : Rows.BigintBitsUptoCardSaid :=
  Claim7.holds_tied_plain_at .later [] _ _ _ _ bits_said (fun _ h => by cases h) (by kernel_rfl) (fun _ h => by cases h) bigintBitsUpto_row_tie rfl ⟨rfl, rfl⟩ (by kernel_rfl) rfl bits_plain (by kernel_rfl)
end Go.Proofs.YtldafoojkimdeaaDoor
