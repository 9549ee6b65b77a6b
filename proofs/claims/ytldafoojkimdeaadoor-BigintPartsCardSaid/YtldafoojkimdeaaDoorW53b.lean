/- The law BigintParts: cases of its last region. -/
import Derived.Test.YtldafoojkimdeaaDoorW52
namespace Go.Proofs.YtldafoojkimdeaaDoor
open Go.RowKit Lm

set_option maxRecDepth 100000 in
set_option maxHeartbeats 20000000 in
theorem PN_16_c3 {ap : Bool} {w wr : World} {g2 g3 g6 g7 g9 g10 g12 g14 g18 : Nat} {u0 u1 u4 u24 u25 u26 u27 u28 u29 u30 u31 u32 u33 u34 u35 u36 u37 u38 u39 u40 u41 u42 u43 u44 u45 u46 u47 u48 u49 u50 u51 u52 u53 u54 u55 u56 u57 u58 u59 u60 u61 u62 u63 u64 u65 u66 u67 u68 u69 u70 u71 u72 u73 u74 u75 u76 u77 u78 u79 u80 u81 u82 u83 u84 u85 u86 u87 u88 u89 u90 u91 u92 u93 u94 u95 u96 u97 u98 u99 u100 u101 u102 u103 u104 u105 u106 u107 u108 u109 u110 u111 u112 u113 u114 u115 u116 u117 u118 u119 u120 u121 u122 u123 u124 u125 u126 u127 u128 u129 u130 u131 u132 u133 u134 u135 u136 u137 u138 u139 u140 u141 u142 u143 u144 u145 u146 u147 u148 u149 u150 u151 u152 u153 u154 u155 u156 u157 u158 u159 u160 u161 u162 u163 u164 u165 u166 u167 u168 u169 : Value} {va vb vq vr vd vm : Int}
    (la : Lt 3840 va) (lb : Lt 3840 vb) (hz : Hid (vb ≠ 0)) (hq : Hid (TruncDiv va vb vq vr)) (lqb : Lt 3841 (vq * vb)) (lq : Lt 3841 vq) (lr : Lt 3840 vr) (hd : Hid (Floors va vb vd vm)) (ldb : Lt 3841 (vd * vb)) (ld : Lt 3841 vd) (lm : Lt 3840 vm) (hap : ApIs ap vq vd) (hx : ap = true) (hsr : vr.sign = 1) (hsa : va.sign = 1) (hsb : vb.sign = -1)
    (hb : Below w.heap.size w wr) (h0 : w.heap.size ≤ g2)
    (o3 : g2 < g3) (o6 : g3 < g6) (o7 : g6 < g7) (o9 : g7 < g9) (o10 : g9 < g10) (o12 : g10 < g12) (o14 : g12 < g14) (o18 : g14 < g18)
    (b2 : Bx wr g2 (va)) (b3 : Bx wr g3 (vb)) (b6 : Bx wr g6 (vq)) (b7 : Bx wr g7 (vr)) (b9 : Bx wr g9 (vd)) (b10 : Bx wr g10 (vm)) (b12 : Bx wr g12 (vd * vb)) (b14 : Bx wr g14 (vq * vb + vr)) (b18 : Bx wr g18 (vd * vb + vm)) :
    Code.wp Tryd.prog (tail11 16) (Q11 w) ⟨#[u0, u1, .pointer (some ⟨g2, 0, none⟩), .pointer (some ⟨g3, 0, none⟩), u4, .bool true, .pointer (some ⟨g6, 0, none⟩), .pointer (some ⟨g7, 0, none⟩), .int .i64 0, .pointer (some ⟨g9, 0, none⟩), .pointer (some ⟨g10, 0, none⟩), .int .i64 0, .pointer (some ⟨g12, 0, none⟩), .int .i64 0, .pointer (some ⟨g14, 0, none⟩), .int .i64 0, .bool true, .int .i64 0, .pointer (some ⟨g18, 0, none⟩), .int .i64 0, .bool true, .bool true, .bool true, .bool ap, u24, u25, u26, u27, u28, u29, u30, u31, u32, u33, u34, u35, u36, u37, u38, u39, u40, u41, u42, u43, u44, u45, u46, u47, u48, u49, u50, u51, u52, u53, u54, u55, u56, u57, u58, u59, u60, u61, u62, u63, u64, u65, u66, u67, u68, u69, u70, u71, u72, u73, u74, u75, u76, u77, u78, u79, u80, u81, u82, u83, u84, u85, u86, u87, u88, u89, u90, u91, u92, u93, u94, u95, u96, u97, u98, u99, u100, u101, u102, u103, u104, u105, u106, u107, u108, u109, u110, u111, u112, u113, u114, u115, u116, u117, u118, u119, u120, u121, u122, u123, u124, u125, u126, u127, u128, u129, u130, u131, u132, u133, u134, u135, u136, u137, u138, u139, u140, u141, u142, u143, u144, u145, u146, u147, u148, u149, u150, u151, u152, u153, u154, u155, u156, u157, u158, u159, u160, u161, u162, u163, u164, u165, u166, u167, u168, u169], []⟩ wr := by
  subst hx
  have b7' := b7.drew
  obtain ⟨nR, aR, lR, cR, R, hHR, hRR, hER⟩ := b7'
  have HER := hid hER
  have HHR := hid hHR
  clear hER hHR
  have b2' := b2.drew
  obtain ⟨nA, aA, lA, cA, A, hHA, hRA, hEA⟩ := b2'
  have HEA := hid hEA
  have HHA := hid hHA
  clear hEA hHA
  have b3' := b3.drew
  obtain ⟨nB, aB, lB, cB, B, hHB, hRB, hEB⟩ := b3'
  have HEB := hid hEB
  have HHB := hid hHB
  clear hEB hHB
  have hacc : Below wr.heap.size wr wr.drew := (Below.refl _ _).drew
  conv => arg 2; whnf
  go_wp2_with fail
  (first | go_region_held3 (fun w' => w'.cell? ⟨g7, 0, none⟩ = some (.bool nR) ∧ w'.cell? ⟨g7, 1, none⟩ = some (.slice aR lR cR) ∧ w'.cell? ⟨g2, 0, none⟩ = some (.bool nA) ∧ w'.cell? ⟨g2, 1, none⟩ = some (.slice aA lA cA) ∧ w'.cell? ⟨g3, 0, none⟩ = some (.bool nB) ∧ w'.cell? ⟨g3, 1, none⟩ = some (.slice aB lB cB))
    (first | (with_reducible exact ⟨(two_cells HHR.out).1, (two_cells HHR.out).2.1, (two_cells HHA.out).1, (two_cells HHA.out).2.1, (two_cells HHB.out).1, (two_cells HHB.out).2.1⟩) | (go_keep; done))
    ((first
      | (go_at_call_of 28 cR; (with_reducible refine (sign_any nR aR lR cR R _ hRR).mono ?_); rintro e w5 ⟨rfl, hw5⟩; rw [HER.out, hsr]; have hbk := below_new hw5; clear hw5; have hRR := hRR.keep hbk; have HHR := hid (heap_keep HHR.out hbk); have hRA := hRA.keep hbk; have HHA := hid (heap_keep HHA.out hbk); have hRB := hRB.keep hbk; have HHB := hid (heap_keep HHB.out hbk); have hacc := hacc.trans (hbk.mono hacc.size))
      | (go_at_call_of 28 cA; (with_reducible refine (sign_any nA aA lA cA A _ hRA).mono ?_); rintro e w5 ⟨rfl, hw5⟩; rw [HEA.out, hsa]; have hbk := below_new hw5; clear hw5; have hRR := hRR.keep hbk; have HHR := hid (heap_keep HHR.out hbk); have hRA := hRA.keep hbk; have HHA := hid (heap_keep HHA.out hbk); have hRB := hRB.keep hbk; have HHB := hid (heap_keep HHB.out hbk); have hacc := hacc.trans (hbk.mono hacc.size))
      | (go_at_call_of 28 cB; (with_reducible refine (sign_any nB aB lB cB B _ hRB).mono ?_); rintro e w5 ⟨rfl, hw5⟩; rw [HEB.out, hsb]; have hbk := below_new hw5; clear hw5; have hRR := hRR.keep hbk; have HHR := hid (heap_keep HHR.out hbk); have hRA := hRA.keep hbk; have HHA := hid (heap_keep HHA.out hbk); have hRB := hRB.keep hbk; have HHB := hid (heap_keep HHB.out hbk); have hacc := hacc.trans (hbk.mono hacc.size)))) | fail)
  all_goals
    go_wp2
    unfold Q11
    go_ret
    exact ⟨rfl, hb.trans (hacc.mono hb.size)⟩

set_option maxRecDepth 100000 in
set_option maxHeartbeats 20000000 in
theorem PN_16_c4 {ap : Bool} {w wr : World} {g2 g3 g6 g7 g9 g10 g12 g14 g18 : Nat} {u0 u1 u4 u24 u25 u26 u27 u28 u29 u30 u31 u32 u33 u34 u35 u36 u37 u38 u39 u40 u41 u42 u43 u44 u45 u46 u47 u48 u49 u50 u51 u52 u53 u54 u55 u56 u57 u58 u59 u60 u61 u62 u63 u64 u65 u66 u67 u68 u69 u70 u71 u72 u73 u74 u75 u76 u77 u78 u79 u80 u81 u82 u83 u84 u85 u86 u87 u88 u89 u90 u91 u92 u93 u94 u95 u96 u97 u98 u99 u100 u101 u102 u103 u104 u105 u106 u107 u108 u109 u110 u111 u112 u113 u114 u115 u116 u117 u118 u119 u120 u121 u122 u123 u124 u125 u126 u127 u128 u129 u130 u131 u132 u133 u134 u135 u136 u137 u138 u139 u140 u141 u142 u143 u144 u145 u146 u147 u148 u149 u150 u151 u152 u153 u154 u155 u156 u157 u158 u159 u160 u161 u162 u163 u164 u165 u166 u167 u168 u169 : Value} {va vb vq vr vd vm : Int}
    (la : Lt 3840 va) (lb : Lt 3840 vb) (hz : Hid (vb ≠ 0)) (hq : Hid (TruncDiv va vb vq vr)) (lqb : Lt 3841 (vq * vb)) (lq : Lt 3841 vq) (lr : Lt 3840 vr) (hd : Hid (Floors va vb vd vm)) (ldb : Lt 3841 (vd * vb)) (ld : Lt 3841 vd) (lm : Lt 3840 vm) (hap : ApIs ap vq vd) (hx : ap = true) (hsr : vr.sign = -1) (hsa : va.sign = -1) (hsb : vb.sign = 1)
    (hb : Below w.heap.size w wr) (h0 : w.heap.size ≤ g2)
    (o3 : g2 < g3) (o6 : g3 < g6) (o7 : g6 < g7) (o9 : g7 < g9) (o10 : g9 < g10) (o12 : g10 < g12) (o14 : g12 < g14) (o18 : g14 < g18)
    (b2 : Bx wr g2 (va)) (b3 : Bx wr g3 (vb)) (b6 : Bx wr g6 (vq)) (b7 : Bx wr g7 (vr)) (b9 : Bx wr g9 (vd)) (b10 : Bx wr g10 (vm)) (b12 : Bx wr g12 (vd * vb)) (b14 : Bx wr g14 (vq * vb + vr)) (b18 : Bx wr g18 (vd * vb + vm)) :
    Code.wp Tryd.prog (tail11 16) (Q11 w) ⟨#[u0, u1, .pointer (some ⟨g2, 0, none⟩), .pointer (some ⟨g3, 0, none⟩), u4, .bool true, .pointer (some ⟨g6, 0, none⟩), .pointer (some ⟨g7, 0, none⟩), .int .i64 0, .pointer (some ⟨g9, 0, none⟩), .pointer (some ⟨g10, 0, none⟩), .int .i64 0, .pointer (some ⟨g12, 0, none⟩), .int .i64 0, .pointer (some ⟨g14, 0, none⟩), .int .i64 0, .bool true, .int .i64 0, .pointer (some ⟨g18, 0, none⟩), .int .i64 0, .bool true, .bool true, .bool true, .bool ap, u24, u25, u26, u27, u28, u29, u30, u31, u32, u33, u34, u35, u36, u37, u38, u39, u40, u41, u42, u43, u44, u45, u46, u47, u48, u49, u50, u51, u52, u53, u54, u55, u56, u57, u58, u59, u60, u61, u62, u63, u64, u65, u66, u67, u68, u69, u70, u71, u72, u73, u74, u75, u76, u77, u78, u79, u80, u81, u82, u83, u84, u85, u86, u87, u88, u89, u90, u91, u92, u93, u94, u95, u96, u97, u98, u99, u100, u101, u102, u103, u104, u105, u106, u107, u108, u109, u110, u111, u112, u113, u114, u115, u116, u117, u118, u119, u120, u121, u122, u123, u124, u125, u126, u127, u128, u129, u130, u131, u132, u133, u134, u135, u136, u137, u138, u139, u140, u141, u142, u143, u144, u145, u146, u147, u148, u149, u150, u151, u152, u153, u154, u155, u156, u157, u158, u159, u160, u161, u162, u163, u164, u165, u166, u167, u168, u169], []⟩ wr := by
  subst hx
  have b7' := b7.drew
  obtain ⟨nR, aR, lR, cR, R, hHR, hRR, hER⟩ := b7'
  have HER := hid hER
  have HHR := hid hHR
  clear hER hHR
  have b2' := b2.drew
  obtain ⟨nA, aA, lA, cA, A, hHA, hRA, hEA⟩ := b2'
  have HEA := hid hEA
  have HHA := hid hHA
  clear hEA hHA
  have b3' := b3.drew
  obtain ⟨nB, aB, lB, cB, B, hHB, hRB, hEB⟩ := b3'
  have HEB := hid hEB
  have HHB := hid hHB
  clear hEB hHB
  have hacc : Below wr.heap.size wr wr.drew := (Below.refl _ _).drew
  conv => arg 2; whnf
  go_wp2_with fail
  (first | go_region_held3 (fun w' => w'.cell? ⟨g7, 0, none⟩ = some (.bool nR) ∧ w'.cell? ⟨g7, 1, none⟩ = some (.slice aR lR cR) ∧ w'.cell? ⟨g2, 0, none⟩ = some (.bool nA) ∧ w'.cell? ⟨g2, 1, none⟩ = some (.slice aA lA cA) ∧ w'.cell? ⟨g3, 0, none⟩ = some (.bool nB) ∧ w'.cell? ⟨g3, 1, none⟩ = some (.slice aB lB cB))
    (first | (with_reducible exact ⟨(two_cells HHR.out).1, (two_cells HHR.out).2.1, (two_cells HHA.out).1, (two_cells HHA.out).2.1, (two_cells HHB.out).1, (two_cells HHB.out).2.1⟩) | (go_keep; done))
    ((first
      | (go_at_call_of 28 cR; (with_reducible refine (sign_any nR aR lR cR R _ hRR).mono ?_); rintro e w5 ⟨rfl, hw5⟩; rw [HER.out, hsr]; have hbk := below_new hw5; clear hw5; have hRR := hRR.keep hbk; have HHR := hid (heap_keep HHR.out hbk); have hRA := hRA.keep hbk; have HHA := hid (heap_keep HHA.out hbk); have hRB := hRB.keep hbk; have HHB := hid (heap_keep HHB.out hbk); have hacc := hacc.trans (hbk.mono hacc.size))
      | (go_at_call_of 28 cA; (with_reducible refine (sign_any nA aA lA cA A _ hRA).mono ?_); rintro e w5 ⟨rfl, hw5⟩; rw [HEA.out, hsa]; have hbk := below_new hw5; clear hw5; have hRR := hRR.keep hbk; have HHR := hid (heap_keep HHR.out hbk); have hRA := hRA.keep hbk; have HHA := hid (heap_keep HHA.out hbk); have hRB := hRB.keep hbk; have HHB := hid (heap_keep HHB.out hbk); have hacc := hacc.trans (hbk.mono hacc.size))
      | (go_at_call_of 28 cB; (with_reducible refine (sign_any nB aB lB cB B _ hRB).mono ?_); rintro e w5 ⟨rfl, hw5⟩; rw [HEB.out, hsb]; have hbk := below_new hw5; clear hw5; have hRR := hRR.keep hbk; have HHR := hid (heap_keep HHR.out hbk); have hRA := hRA.keep hbk; have HHA := hid (heap_keep HHA.out hbk); have hRB := hRB.keep hbk; have HHB := hid (heap_keep HHB.out hbk); have hacc := hacc.trans (hbk.mono hacc.size)))) | fail)
  all_goals
    go_wp2
    unfold Q11
    go_ret
    exact ⟨rfl, hb.trans (hacc.mono hb.size)⟩
end Go.Proofs.YtldafoojkimdeaaDoor
