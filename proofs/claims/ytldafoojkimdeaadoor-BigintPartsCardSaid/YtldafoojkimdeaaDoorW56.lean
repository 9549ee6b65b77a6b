/- The law BigintParts, region by region. -/
import Derived.Test.YtldafoojkimdeaaDoorW55b
namespace Go.Proofs.YtldafoojkimdeaaDoor
open Go.RowKit Lm

set_option maxRecDepth 100000 in
set_option maxHeartbeats 2000000 in
theorem PZ_6 {w wr : World} {g2 g3 g6 g7 g9 g10 : Nat} {u0 u1 u4 u12 u13 u14 u15 u16 u17 u18 u19 u20 u21 u22 u23 u24 u25 u26 u27 u28 u29 u30 u31 u32 u33 u34 u35 u36 u37 u38 u39 u40 u41 u42 u43 u44 u45 u46 u47 u48 u49 u50 u51 u52 u53 u54 u55 u56 u57 u58 u59 u60 u61 u62 u63 u64 u65 u66 u67 u68 u69 u70 u71 u72 u73 u74 u75 u76 u77 u78 u79 u80 u81 u82 u83 u84 u85 u86 u87 u88 u89 u90 u91 u92 u93 u94 u95 u96 u97 u98 u99 u100 u101 u102 u103 u104 u105 u106 u107 u108 u109 u110 u111 u112 u113 u114 u115 u116 u117 u118 u119 u120 u121 u122 u123 u124 u125 u126 u127 u128 u129 u130 u131 u132 u133 u134 u135 u136 u137 u138 u139 u140 u141 u142 u143 u144 u145 u146 u147 u148 u149 u150 u151 u152 u153 u154 u155 u156 u157 u158 u159 u160 u161 u162 u163 u164 u165 u166 u167 u168 u169 : Value} {va vb : Int}
    (la : Lt 3840 va) (lb : Lt 3840 vb) (hz : Hid (vb = 0))
    (hb : Below w.heap.size w wr) (h0 : w.heap.size ≤ g2)
    (o3 : g2 < g3) (o6 : g3 < g6) (o7 : g6 < g7) (o9 : g7 < g9) (o10 : g9 < g10)
    (b2 : Bx wr g2 (va)) (b3 : Bx wr g3 (vb)) (b6 : Bx wr g6 (0)) (b7 : Bx wr g7 (0)) (b9 : Bx wr g9 (0)) (b10 : Bx wr g10 (0)) :
    Code.wp Tryd.prog (tail11 6) (Q11 w) ⟨#[u0, u1, .pointer (some ⟨g2, 0, none⟩), .pointer (some ⟨g3, 0, none⟩), u4, .bool true, .pointer (some ⟨g6, 0, none⟩), .pointer (some ⟨g7, 0, none⟩), .int .i64 11, .pointer (some ⟨g9, 0, none⟩), .pointer (some ⟨g10, 0, none⟩), .int .i64 11, u12, u13, u14, u15, u16, u17, u18, u19, u20, u21, u22, u23, u24, u25, u26, u27, u28, u29, u30, u31, u32, u33, u34, u35, u36, u37, u38, u39, u40, u41, u42, u43, u44, u45, u46, u47, u48, u49, u50, u51, u52, u53, u54, u55, u56, u57, u58, u59, u60, u61, u62, u63, u64, u65, u66, u67, u68, u69, u70, u71, u72, u73, u74, u75, u76, u77, u78, u79, u80, u81, u82, u83, u84, u85, u86, u87, u88, u89, u90, u91, u92, u93, u94, u95, u96, u97, u98, u99, u100, u101, u102, u103, u104, u105, u106, u107, u108, u109, u110, u111, u112, u113, u114, u115, u116, u117, u118, u119, u120, u121, u122, u123, u124, u125, u126, u127, u128, u129, u130, u131, u132, u133, u134, u135, u136, u137, u138, u139, u140, u141, u142, u143, u144, u145, u146, u147, u148, u149, u150, u151, u152, u153, u154, u155, u156, u157, u158, u159, u160, u161, u162, u163, u164, u165, u166, u167, u168, u169], []⟩ wr := by
  have b3' := b3
  obtain ⟨nB, aB, lB, cB, B, hHB, hRB, hEB⟩ := b3'
  obtain ⟨kB0, kB1, _, _⟩ := two_cells hHB
  have HEB := hid hEB
  clear hEB hHB
  show Code.wp Tryd.prog (Code.seq (head11 6) (tail11 7)) _ _ _
  conv => arg 2; arg 1; whnf
  go_wp2_with fail
  refine (sign_any nB aB lB cB B _ hRB).mono ?_
  rintro e w2 ⟨rfl, hw2⟩
  rw [HEB.out, hz.out]
  have hb2 : Below wr.heap.size wr w2 := by rw [← hw2]; exact (Below.refl _ _).alloc (Nat.le_refl _) _
  clear hw2
  go_wp2
  unfold Q11
  go_ret
  exact ⟨rfl, hb.trans (hb2.mono hb.size)⟩

set_option maxRecDepth 100000 in
set_option maxHeartbeats 2000000 in
theorem PZ_5 {w wr : World} {g2 g3 g6 g7 : Nat} {u0 u1 u4 u9 u10 u11 u12 u13 u14 u15 u16 u17 u18 u19 u20 u21 u22 u23 u24 u25 u26 u27 u28 u29 u30 u31 u32 u33 u34 u35 u36 u37 u38 u39 u40 u41 u42 u43 u44 u45 u46 u47 u48 u49 u50 u51 u52 u53 u54 u55 u56 u57 u58 u59 u60 u61 u62 u63 u64 u65 u66 u67 u68 u69 u70 u71 u72 u73 u74 u75 u76 u77 u78 u79 u80 u81 u82 u83 u84 u85 u86 u87 u88 u89 u90 u91 u92 u93 u94 u95 u96 u97 u98 u99 u100 u101 u102 u103 u104 u105 u106 u107 u108 u109 u110 u111 u112 u113 u114 u115 u116 u117 u118 u119 u120 u121 u122 u123 u124 u125 u126 u127 u128 u129 u130 u131 u132 u133 u134 u135 u136 u137 u138 u139 u140 u141 u142 u143 u144 u145 u146 u147 u148 u149 u150 u151 u152 u153 u154 u155 u156 u157 u158 u159 u160 u161 u162 u163 u164 u165 u166 u167 u168 u169 : Value} {va vb : Int}
    (la : Lt 3840 va) (lb : Lt 3840 vb) (hz : Hid (vb = 0))
    (hb : Below w.heap.size w wr) (h0 : w.heap.size ≤ g2)
    (o3 : g2 < g3) (o6 : g3 < g6) (o7 : g6 < g7)
    (b2 : Bx wr g2 (va)) (b3 : Bx wr g3 (vb)) (b6 : Bx wr g6 (0)) (b7 : Bx wr g7 (0)) :
    Code.wp Tryd.prog (tail11 5) (Q11 w) ⟨#[u0, u1, .pointer (some ⟨g2, 0, none⟩), .pointer (some ⟨g3, 0, none⟩), u4, .bool true, .pointer (some ⟨g6, 0, none⟩), .pointer (some ⟨g7, 0, none⟩), .int .i64 11, u9, u10, u11, u12, u13, u14, u15, u16, u17, u18, u19, u20, u21, u22, u23, u24, u25, u26, u27, u28, u29, u30, u31, u32, u33, u34, u35, u36, u37, u38, u39, u40, u41, u42, u43, u44, u45, u46, u47, u48, u49, u50, u51, u52, u53, u54, u55, u56, u57, u58, u59, u60, u61, u62, u63, u64, u65, u66, u67, u68, u69, u70, u71, u72, u73, u74, u75, u76, u77, u78, u79, u80, u81, u82, u83, u84, u85, u86, u87, u88, u89, u90, u91, u92, u93, u94, u95, u96, u97, u98, u99, u100, u101, u102, u103, u104, u105, u106, u107, u108, u109, u110, u111, u112, u113, u114, u115, u116, u117, u118, u119, u120, u121, u122, u123, u124, u125, u126, u127, u128, u129, u130, u131, u132, u133, u134, u135, u136, u137, u138, u139, u140, u141, u142, u143, u144, u145, u146, u147, u148, u149, u150, u151, u152, u153, u154, u155, u156, u157, u158, u159, u160, u161, u162, u163, u164, u165, u166, u167, u168, u169], []⟩ wr := by
  have b2' := b2
  obtain ⟨nA, aA, lA, cA, A, hHA, hRA, hEA⟩ := b2'
  obtain ⟨kA0, kA1, _, _⟩ := two_cells hHA
  have HEA := hid hEA
  clear hEA hHA
  have b3' := b3
  obtain ⟨nB, aB, lB, cB, B, hHB, hRB, hEB⟩ := b3'
  obtain ⟨kB0, kB1, _, _⟩ := two_cells hHB
  have HEB := hid hEB
  clear hEB hHB
  show Code.wp Tryd.prog (Code.seq (head11 5) (tail11 6)) _ _ _
  conv => arg 2; arg 1; whnf
  go_wp2_with fail
  refine (divMod_zero _ hRA hRB HEA.out HEB.out (la.sm (by decide)) (lb.sm (by decide)) hz.out).mono ?_
  rintro e w2 ⟨rfl, hb2⟩
  go_wp2
  have hlast : g7 < w2.heap.size := (b7.keep hb2).lt
  have hb3 := hb.trans (hb2.mono hb.size)
  exact PZ_6 la lb hz ((hb3.alloc hb3.size _).alloc (by simp; have := hb3.size; omega) _) h0 o3 o6 o7 hlast (Nat.lt_succ_self _) (((b2.keep hb2).alloc _).alloc _) (((b3.keep hb2).alloc _).alloc _) (((b6.keep hb2).alloc _).alloc _) (((b7.keep hb2).alloc _).alloc _) ((Bx.new (rd_nil0 _) rfl).alloc _) (Bx.new2 (rd_nil0 _) rfl)

set_option maxRecDepth 100000 in
set_option maxHeartbeats 2000000 in
theorem PZ_4 {w wr : World} {g2 g3 : Nat} {u0 u1 u4 u6 u7 u8 u9 u10 u11 u12 u13 u14 u15 u16 u17 u18 u19 u20 u21 u22 u23 u24 u25 u26 u27 u28 u29 u30 u31 u32 u33 u34 u35 u36 u37 u38 u39 u40 u41 u42 u43 u44 u45 u46 u47 u48 u49 u50 u51 u52 u53 u54 u55 u56 u57 u58 u59 u60 u61 u62 u63 u64 u65 u66 u67 u68 u69 u70 u71 u72 u73 u74 u75 u76 u77 u78 u79 u80 u81 u82 u83 u84 u85 u86 u87 u88 u89 u90 u91 u92 u93 u94 u95 u96 u97 u98 u99 u100 u101 u102 u103 u104 u105 u106 u107 u108 u109 u110 u111 u112 u113 u114 u115 u116 u117 u118 u119 u120 u121 u122 u123 u124 u125 u126 u127 u128 u129 u130 u131 u132 u133 u134 u135 u136 u137 u138 u139 u140 u141 u142 u143 u144 u145 u146 u147 u148 u149 u150 u151 u152 u153 u154 u155 u156 u157 u158 u159 u160 u161 u162 u163 u164 u165 u166 u167 u168 u169 : Value} {va vb : Int}
    (la : Lt 3840 va) (lb : Lt 3840 vb) (hz : Hid (vb = 0))
    (hb : Below w.heap.size w wr) (h0 : w.heap.size ≤ g2)
    (o3 : g2 < g3)
    (b2 : Bx wr g2 (va)) (b3 : Bx wr g3 (vb)) :
    Code.wp Tryd.prog (tail11 4) (Q11 w) ⟨#[u0, u1, .pointer (some ⟨g2, 0, none⟩), .pointer (some ⟨g3, 0, none⟩), u4, .bool true, u6, u7, u8, u9, u10, u11, u12, u13, u14, u15, u16, u17, u18, u19, u20, u21, u22, u23, u24, u25, u26, u27, u28, u29, u30, u31, u32, u33, u34, u35, u36, u37, u38, u39, u40, u41, u42, u43, u44, u45, u46, u47, u48, u49, u50, u51, u52, u53, u54, u55, u56, u57, u58, u59, u60, u61, u62, u63, u64, u65, u66, u67, u68, u69, u70, u71, u72, u73, u74, u75, u76, u77, u78, u79, u80, u81, u82, u83, u84, u85, u86, u87, u88, u89, u90, u91, u92, u93, u94, u95, u96, u97, u98, u99, u100, u101, u102, u103, u104, u105, u106, u107, u108, u109, u110, u111, u112, u113, u114, u115, u116, u117, u118, u119, u120, u121, u122, u123, u124, u125, u126, u127, u128, u129, u130, u131, u132, u133, u134, u135, u136, u137, u138, u139, u140, u141, u142, u143, u144, u145, u146, u147, u148, u149, u150, u151, u152, u153, u154, u155, u156, u157, u158, u159, u160, u161, u162, u163, u164, u165, u166, u167, u168, u169], []⟩ wr := by
  have b2' := b2
  obtain ⟨nA, aA, lA, cA, A, hHA, hRA, hEA⟩ := b2'
  obtain ⟨kA0, kA1, _, _⟩ := two_cells hHA
  have HEA := hid hEA
  clear hEA hHA
  have b3' := b3
  obtain ⟨nB, aB, lB, cB, B, hHB, hRB, hEB⟩ := b3'
  obtain ⟨kB0, kB1, _, _⟩ := two_cells hHB
  have HEB := hid hEB
  clear hEB hHB
  show Code.wp Tryd.prog (Code.seq (head11 4) (tail11 5)) _ _ _
  conv => arg 2; arg 1; whnf
  go_wp2_with fail
  refine (quoRem_zero _ hRA hRB HEA.out HEB.out (la.sm (by decide)) (lb.sm (by decide)) hz.out).mono ?_
  rintro e w2 ⟨rfl, hb2⟩
  go_wp2
  have hlast : g3 < w2.heap.size := (b3.keep hb2).lt
  have hb3 := hb.trans (hb2.mono hb.size)
  exact PZ_5 la lb hz ((hb3.alloc hb3.size _).alloc (by simp; have := hb3.size; omega) _) h0 o3 hlast (Nat.lt_succ_self _) (((b2.keep hb2).alloc _).alloc _) (((b3.keep hb2).alloc _).alloc _) ((Bx.new (rd_nil0 _) rfl).alloc _) (Bx.new2 (rd_nil0 _) rfl)

set_option maxRecDepth 100000 in
set_option maxHeartbeats 2000000 in
theorem PN_14 {w wr : World} {g2 g3 g6 g7 g9 g10 g12 g14 g18 : Nat} {u0 u1 u4 u22 u23 u24 u25 u26 u27 u28 u29 u30 u31 u32 u33 u34 u35 u36 u37 u38 u39 u40 u41 u42 u43 u44 u45 u46 u47 u48 u49 u50 u51 u52 u53 u54 u55 u56 u57 u58 u59 u60 u61 u62 u63 u64 u65 u66 u67 u68 u69 u70 u71 u72 u73 u74 u75 u76 u77 u78 u79 u80 u81 u82 u83 u84 u85 u86 u87 u88 u89 u90 u91 u92 u93 u94 u95 u96 u97 u98 u99 u100 u101 u102 u103 u104 u105 u106 u107 u108 u109 u110 u111 u112 u113 u114 u115 u116 u117 u118 u119 u120 u121 u122 u123 u124 u125 u126 u127 u128 u129 u130 u131 u132 u133 u134 u135 u136 u137 u138 u139 u140 u141 u142 u143 u144 u145 u146 u147 u148 u149 u150 u151 u152 u153 u154 u155 u156 u157 u158 u159 u160 u161 u162 u163 u164 u165 u166 u167 u168 u169 : Value} {va vb vq vr vd vm : Int}
    (la : Lt 3840 va) (lb : Lt 3840 vb) (hz : Hid (vb ≠ 0)) (hq : Hid (TruncDiv va vb vq vr)) (lqb : Lt 3841 (vq * vb)) (lq : Lt 3841 vq) (lr : Lt 3840 vr) (hd : Hid (Floors va vb vd vm)) (ldb : Lt 3841 (vd * vb)) (ld : Lt 3841 vd) (lm : Lt 3840 vm)
    (hb : Below w.heap.size w wr) (h0 : w.heap.size ≤ g2)
    (o3 : g2 < g3) (o6 : g3 < g6) (o7 : g6 < g7) (o9 : g7 < g9) (o10 : g9 < g10) (o12 : g10 < g12) (o14 : g12 < g14) (o18 : g14 < g18)
    (b2 : Bx wr g2 (va)) (b3 : Bx wr g3 (vb)) (b6 : Bx wr g6 (vq)) (b7 : Bx wr g7 (vr)) (b9 : Bx wr g9 (vd)) (b10 : Bx wr g10 (vm)) (b12 : Bx wr g12 (vd * vb)) (b14 : Bx wr g14 (vq * vb + vr)) (b18 : Bx wr g18 (vd * vb + vm)) :
    Code.wp Tryd.prog (tail11 14) (Q11 w) ⟨#[u0, u1, .pointer (some ⟨g2, 0, none⟩), .pointer (some ⟨g3, 0, none⟩), u4, .bool true, .pointer (some ⟨g6, 0, none⟩), .pointer (some ⟨g7, 0, none⟩), .int .i64 0, .pointer (some ⟨g9, 0, none⟩), .pointer (some ⟨g10, 0, none⟩), .int .i64 0, .pointer (some ⟨g12, 0, none⟩), .int .i64 0, .pointer (some ⟨g14, 0, none⟩), .int .i64 0, .bool true, .int .i64 0, .pointer (some ⟨g18, 0, none⟩), .int .i64 0, .bool true, .bool true, u22, u23, u24, u25, u26, u27, u28, u29, u30, u31, u32, u33, u34, u35, u36, u37, u38, u39, u40, u41, u42, u43, u44, u45, u46, u47, u48, u49, u50, u51, u52, u53, u54, u55, u56, u57, u58, u59, u60, u61, u62, u63, u64, u65, u66, u67, u68, u69, u70, u71, u72, u73, u74, u75, u76, u77, u78, u79, u80, u81, u82, u83, u84, u85, u86, u87, u88, u89, u90, u91, u92, u93, u94, u95, u96, u97, u98, u99, u100, u101, u102, u103, u104, u105, u106, u107, u108, u109, u110, u111, u112, u113, u114, u115, u116, u117, u118, u119, u120, u121, u122, u123, u124, u125, u126, u127, u128, u129, u130, u131, u132, u133, u134, u135, u136, u137, u138, u139, u140, u141, u142, u143, u144, u145, u146, u147, u148, u149, u150, u151, u152, u153, u154, u155, u156, u157, u158, u159, u160, u161, u162, u163, u164, u165, u166, u167, u168, u169], []⟩ wr := by
  rcases sign_trunc hq.out with hsr | ⟨hsr, hsa⟩ | ⟨hsr, hsa⟩ <;> rcases sign_floor hd.out with hsm | ⟨hsm, hsb⟩ | ⟨hsm, hsb⟩
  · exact PN_14_c00 la lb hz hq lqb lq lr hd ldb ld lm hsr hsm hb h0 o3 o6 o7 o9 o10 o12 o14 o18 b2 b3 b6 b7 b9 b10 b12 b14 b18
  · exact PN_14_c01 la lb hz hq lqb lq lr hd ldb ld lm hsr hsm hsb hb h0 o3 o6 o7 o9 o10 o12 o14 o18 b2 b3 b6 b7 b9 b10 b12 b14 b18
  · exact PN_14_c02 la lb hz hq lqb lq lr hd ldb ld lm hsr hsm hsb hb h0 o3 o6 o7 o9 o10 o12 o14 o18 b2 b3 b6 b7 b9 b10 b12 b14 b18
  · exact PN_14_c10 la lb hz hq lqb lq lr hd ldb ld lm hsr hsa hsm hb h0 o3 o6 o7 o9 o10 o12 o14 o18 b2 b3 b6 b7 b9 b10 b12 b14 b18
  · exact PN_14_c11 la lb hz hq lqb lq lr hd ldb ld lm hsr hsa hsm hsb hb h0 o3 o6 o7 o9 o10 o12 o14 o18 b2 b3 b6 b7 b9 b10 b12 b14 b18
  · exact PN_14_c12 la lb hz hq lqb lq lr hd ldb ld lm hsr hsa hsm hsb hb h0 o3 o6 o7 o9 o10 o12 o14 o18 b2 b3 b6 b7 b9 b10 b12 b14 b18
  · exact PN_14_c20 la lb hz hq lqb lq lr hd ldb ld lm hsr hsa hsm hb h0 o3 o6 o7 o9 o10 o12 o14 o18 b2 b3 b6 b7 b9 b10 b12 b14 b18
  · exact PN_14_c21 la lb hz hq lqb lq lr hd ldb ld lm hsr hsa hsm hsb hb h0 o3 o6 o7 o9 o10 o12 o14 o18 b2 b3 b6 b7 b9 b10 b12 b14 b18
  · exact PN_14_c22 la lb hz hq lqb lq lr hd ldb ld lm hsr hsa hsm hsb hb h0 o3 o6 o7 o9 o10 o12 o14 o18 b2 b3 b6 b7 b9 b10 b12 b14 b18

set_option maxRecDepth 100000 in
set_option maxHeartbeats 2000000 in
theorem PN_13 {w wr : World} {g2 g3 g6 g7 g9 g10 g12 g14 g18 : Nat} {u0 u1 u4 u21 u22 u23 u24 u25 u26 u27 u28 u29 u30 u31 u32 u33 u34 u35 u36 u37 u38 u39 u40 u41 u42 u43 u44 u45 u46 u47 u48 u49 u50 u51 u52 u53 u54 u55 u56 u57 u58 u59 u60 u61 u62 u63 u64 u65 u66 u67 u68 u69 u70 u71 u72 u73 u74 u75 u76 u77 u78 u79 u80 u81 u82 u83 u84 u85 u86 u87 u88 u89 u90 u91 u92 u93 u94 u95 u96 u97 u98 u99 u100 u101 u102 u103 u104 u105 u106 u107 u108 u109 u110 u111 u112 u113 u114 u115 u116 u117 u118 u119 u120 u121 u122 u123 u124 u125 u126 u127 u128 u129 u130 u131 u132 u133 u134 u135 u136 u137 u138 u139 u140 u141 u142 u143 u144 u145 u146 u147 u148 u149 u150 u151 u152 u153 u154 u155 u156 u157 u158 u159 u160 u161 u162 u163 u164 u165 u166 u167 u168 u169 : Value} {va vb vq vr vd vm : Int}
    (la : Lt 3840 va) (lb : Lt 3840 vb) (hz : Hid (vb ≠ 0)) (hq : Hid (TruncDiv va vb vq vr)) (lqb : Lt 3841 (vq * vb)) (lq : Lt 3841 vq) (lr : Lt 3840 vr) (hd : Hid (Floors va vb vd vm)) (ldb : Lt 3841 (vd * vb)) (ld : Lt 3841 vd) (lm : Lt 3840 vm)
    (hb : Below w.heap.size w wr) (h0 : w.heap.size ≤ g2)
    (o3 : g2 < g3) (o6 : g3 < g6) (o7 : g6 < g7) (o9 : g7 < g9) (o10 : g9 < g10) (o12 : g10 < g12) (o14 : g12 < g14) (o18 : g14 < g18)
    (b2 : Bx wr g2 (va)) (b3 : Bx wr g3 (vb)) (b6 : Bx wr g6 (vq)) (b7 : Bx wr g7 (vr)) (b9 : Bx wr g9 (vd)) (b10 : Bx wr g10 (vm)) (b12 : Bx wr g12 (vd * vb)) (b14 : Bx wr g14 (vq * vb + vr)) (b18 : Bx wr g18 (vd * vb + vm)) :
    Code.wp Tryd.prog (tail11 13) (Q11 w) ⟨#[u0, u1, .pointer (some ⟨g2, 0, none⟩), .pointer (some ⟨g3, 0, none⟩), u4, .bool true, .pointer (some ⟨g6, 0, none⟩), .pointer (some ⟨g7, 0, none⟩), .int .i64 0, .pointer (some ⟨g9, 0, none⟩), .pointer (some ⟨g10, 0, none⟩), .int .i64 0, .pointer (some ⟨g12, 0, none⟩), .int .i64 0, .pointer (some ⟨g14, 0, none⟩), .int .i64 0, .bool true, .int .i64 0, .pointer (some ⟨g18, 0, none⟩), .int .i64 0, .bool true, u21, u22, u23, u24, u25, u26, u27, u28, u29, u30, u31, u32, u33, u34, u35, u36, u37, u38, u39, u40, u41, u42, u43, u44, u45, u46, u47, u48, u49, u50, u51, u52, u53, u54, u55, u56, u57, u58, u59, u60, u61, u62, u63, u64, u65, u66, u67, u68, u69, u70, u71, u72, u73, u74, u75, u76, u77, u78, u79, u80, u81, u82, u83, u84, u85, u86, u87, u88, u89, u90, u91, u92, u93, u94, u95, u96, u97, u98, u99, u100, u101, u102, u103, u104, u105, u106, u107, u108, u109, u110, u111, u112, u113, u114, u115, u116, u117, u118, u119, u120, u121, u122, u123, u124, u125, u126, u127, u128, u129, u130, u131, u132, u133, u134, u135, u136, u137, u138, u139, u140, u141, u142, u143, u144, u145, u146, u147, u148, u149, u150, u151, u152, u153, u154, u155, u156, u157, u158, u159, u160, u161, u162, u163, u164, u165, u166, u167, u168, u169], []⟩ wr := by
  have hs1 := abs_less hq.out.2.1
  have hs2 := abs_less hd.out.2.1
  have b7' := b7.drew
  obtain ⟨nR, aR, lR, cR, R, hHR, hRR, hER⟩ := b7'
  have HER := hid hER
  have HHR := hid hHR
  clear hER hHR
  have b3' := b3.drew
  obtain ⟨nB, aB, lB, cB, B, hHB, hRB, hEB⟩ := b3'
  have HEB := hid hEB
  have HHB := hid hHB
  clear hEB hHB
  have b10' := b10.drew
  obtain ⟨nM, aM, lM, cM, M, hHM, hRM, hEM⟩ := b10'
  have HEM := hid hEM
  have HHM := hid hHM
  clear hEM hHM
  have hacc : Below wr.heap.size wr wr.drew := (Below.refl _ _).drew
  show Code.wp Tryd.prog (Code.seq (head11 13) (tail11 14)) _ _ _
  conv => arg 2; arg 1; whnf
  go_wp2_with fail
  go_region_held3 (fun w' => w'.cell? ⟨g7, 0, none⟩ = some (.bool nR) ∧ w'.cell? ⟨g7, 1, none⟩ = some (.slice aR lR cR) ∧ w'.cell? ⟨g3, 0, none⟩ = some (.bool nB) ∧ w'.cell? ⟨g3, 1, none⟩ = some (.slice aB lB cB) ∧ w'.cell? ⟨g10, 0, none⟩ = some (.bool nM) ∧ w'.cell? ⟨g10, 1, none⟩ = some (.slice aM lM cM))
    (first | (with_reducible exact ⟨(two_cells HHR.out).1, (two_cells HHR.out).2.1, (two_cells HHB.out).1, (two_cells HHB.out).2.1, (two_cells HHM.out).1, (two_cells HHM.out).2.1⟩) | (go_keep; done))
    ((first
      | (go_at_call_of 67 cR; (with_reducible refine (abs_ok _ hRR HER.out).mono ?_); rintro e w5 ⟨n1, ao1, len1, C1, rfl, hR1, hE1, hbk⟩; have HE1 := hid hE1; clear hE1; have hRR := hRR.keep hbk; have HHR := hid (heap_keep HHR.out hbk); have hRB := hRB.keep hbk; have HHB := hid (heap_keep HHB.out hbk); have hRM := hRM.keep hbk; have HHM := hid (heap_keep HHM.out hbk); have hacc := hacc.trans (hbk.mono hacc.size))
      | (go_at_call_of 67 cB; (with_reducible refine (abs_ok _ hRB HEB.out).mono ?_); rintro e w5 ⟨n2, ao2, len2, C2, rfl, hR2, hE2, hbk⟩; have HE2 := hid hE2; clear hE2; have hRR := hRR.keep hbk; have HHR := hid (heap_keep HHR.out hbk); have hRB := hRB.keep hbk; have HHB := hid (heap_keep HHB.out hbk); have hRM := hRM.keep hbk; have HHM := hid (heap_keep HHM.out hbk); (try have hR1 := hR1.keep hbk); (try have hR4 := hR4.keep hbk); have hacc := hacc.trans (hbk.mono hacc.size))
      | (go_at_call_of 67 cM; (with_reducible refine (abs_ok _ hRM HEM.out).mono ?_); rintro e w5 ⟨n4, ao4, len4, C4, rfl, hR4, hE4, hbk⟩; have HE4 := hid hE4; clear hE4; have hRR := hRR.keep hbk; have HHR := hid (heap_keep HHR.out hbk); have hRB := hRB.keep hbk; have HHB := hid (heap_keep HHB.out hbk); have hRM := hRM.keep hbk; have HHM := hid (heap_keep HHM.out hbk); have hacc := hacc.trans (hbk.mono hacc.size))
      | (go_at_call_of 30 len1; (with_reducible refine (cmp_any n1 ao1 len1 len1 C1 n2 ao2 len2 len2 C2 _ hR1 hR2).mono ?_); rintro e w5 ⟨rfl, hbk⟩; rw [HE1.out, HE2.out, hs1]; have hRR := hRR.keep hbk; have HHR := hid (heap_keep HHR.out hbk); have hRB := hRB.keep hbk; have HHB := hid (heap_keep HHB.out hbk); have hRM := hRM.keep hbk; have HHM := hid (heap_keep HHM.out hbk); have hacc := hacc.trans (hbk.mono hacc.size))
      | (go_at_call_of 30 len4; (with_reducible refine (cmp_any n4 ao4 len4 len4 C4 n2 ao2 len2 len2 C2 _ hR4 hR2).mono ?_); rintro e w5 ⟨rfl, hbk⟩; rw [HE4.out, HE2.out, hs2]; have hRR := hRR.keep hbk; have HHR := hid (heap_keep HHR.out hbk); have hRB := hRB.keep hbk; have HHB := hid (heap_keep HHB.out hbk); have hRM := hRM.keep hbk; have HHM := hid (heap_keep HHM.out hbk); have hacc := hacc.trans (hbk.mono hacc.size))))
  all_goals
    go_wp2
    have hfin := hb.trans (hacc.mono hb.size)
    exact PN_14 la lb hz hq lqb lq lr hd ldb ld lm (hfin) h0 o3 o6 o7 o9 o10 o12 o14 o18 (b2.keep hacc) (b3.keep hacc) (b6.keep hacc) (b7.keep hacc) (b9.keep hacc) (b10.keep hacc) (b12.keep hacc) (b14.keep hacc) (b18.keep hacc)

set_option maxRecDepth 100000 in
set_option maxHeartbeats 2000000 in
theorem PN_12 {w wr : World} {g2 g3 g6 g7 g9 g10 g12 g14 g18 : Nat} {u0 u1 u4 u20 u21 u22 u23 u24 u25 u26 u27 u28 u29 u30 u31 u32 u33 u34 u35 u36 u37 u38 u39 u40 u41 u42 u43 u44 u45 u46 u47 u48 u49 u50 u51 u52 u53 u54 u55 u56 u57 u58 u59 u60 u61 u62 u63 u64 u65 u66 u67 u68 u69 u70 u71 u72 u73 u74 u75 u76 u77 u78 u79 u80 u81 u82 u83 u84 u85 u86 u87 u88 u89 u90 u91 u92 u93 u94 u95 u96 u97 u98 u99 u100 u101 u102 u103 u104 u105 u106 u107 u108 u109 u110 u111 u112 u113 u114 u115 u116 u117 u118 u119 u120 u121 u122 u123 u124 u125 u126 u127 u128 u129 u130 u131 u132 u133 u134 u135 u136 u137 u138 u139 u140 u141 u142 u143 u144 u145 u146 u147 u148 u149 u150 u151 u152 u153 u154 u155 u156 u157 u158 u159 u160 u161 u162 u163 u164 u165 u166 u167 u168 u169 : Value} {va vb vq vr vd vm : Int}
    (la : Lt 3840 va) (lb : Lt 3840 vb) (hz : Hid (vb ≠ 0)) (hq : Hid (TruncDiv va vb vq vr)) (lqb : Lt 3841 (vq * vb)) (lq : Lt 3841 vq) (lr : Lt 3840 vr) (hd : Hid (Floors va vb vd vm)) (ldb : Lt 3841 (vd * vb)) (ld : Lt 3841 vd) (lm : Lt 3840 vm)
    (hb : Below w.heap.size w wr) (h0 : w.heap.size ≤ g2)
    (o3 : g2 < g3) (o6 : g3 < g6) (o7 : g6 < g7) (o9 : g7 < g9) (o10 : g9 < g10) (o12 : g10 < g12) (o14 : g12 < g14) (o18 : g14 < g18)
    (b2 : Bx wr g2 (va)) (b3 : Bx wr g3 (vb)) (b6 : Bx wr g6 (vq)) (b7 : Bx wr g7 (vr)) (b9 : Bx wr g9 (vd)) (b10 : Bx wr g10 (vm)) (b12 : Bx wr g12 (vd * vb)) (b14 : Bx wr g14 (vq * vb + vr)) (b18 : Bx wr g18 (vd * vb + vm)) :
    Code.wp Tryd.prog (tail11 12) (Q11 w) ⟨#[u0, u1, .pointer (some ⟨g2, 0, none⟩), .pointer (some ⟨g3, 0, none⟩), u4, .bool true, .pointer (some ⟨g6, 0, none⟩), .pointer (some ⟨g7, 0, none⟩), .int .i64 0, .pointer (some ⟨g9, 0, none⟩), .pointer (some ⟨g10, 0, none⟩), .int .i64 0, .pointer (some ⟨g12, 0, none⟩), .int .i64 0, .pointer (some ⟨g14, 0, none⟩), .int .i64 0, .bool true, .int .i64 0, .pointer (some ⟨g18, 0, none⟩), .int .i64 0, u20, u21, u22, u23, u24, u25, u26, u27, u28, u29, u30, u31, u32, u33, u34, u35, u36, u37, u38, u39, u40, u41, u42, u43, u44, u45, u46, u47, u48, u49, u50, u51, u52, u53, u54, u55, u56, u57, u58, u59, u60, u61, u62, u63, u64, u65, u66, u67, u68, u69, u70, u71, u72, u73, u74, u75, u76, u77, u78, u79, u80, u81, u82, u83, u84, u85, u86, u87, u88, u89, u90, u91, u92, u93, u94, u95, u96, u97, u98, u99, u100, u101, u102, u103, u104, u105, u106, u107, u108, u109, u110, u111, u112, u113, u114, u115, u116, u117, u118, u119, u120, u121, u122, u123, u124, u125, u126, u127, u128, u129, u130, u131, u132, u133, u134, u135, u136, u137, u138, u139, u140, u141, u142, u143, u144, u145, u146, u147, u148, u149, u150, u151, u152, u153, u154, u155, u156, u157, u158, u159, u160, u161, u162, u163, u164, u165, u166, u167, u168, u169], []⟩ wr := by
  have b18' := b18
  obtain ⟨nA, aA, lA, cA, A, hHA, hRA, hEA⟩ := b18'
  obtain ⟨kA0, kA1, _, _⟩ := two_cells hHA
  have HEA := hid hEA
  clear hEA hHA
  have b2' := b2
  obtain ⟨nB, aB, lB, cB, B, hHB, hRB, hEB⟩ := b2'
  obtain ⟨kB0, kB1, _, _⟩ := two_cells hHB
  have HEB := hid hEB
  clear hEB hHB
  show Code.wp Tryd.prog (Code.seq (head11 12) (tail11 13)) _ _ _
  conv => arg 2; arg 1; whnf
  go_wp2_with fail
  refine (same_yes _ 0 hRA hRB (by rw [HEA.out, HEB.out]; exact hd.out.1.symm)).mono ?_
  rintro e w2 ⟨rfl, hb2⟩
  go_wp2
  exact PN_13 la lb hz hq lqb lq lr hd ldb ld lm (hb.trans (hb2.mono hb.size)) h0 o3 o6 o7 o9 o10 o12 o14 o18 (b2.keep hb2) (b3.keep hb2) (b6.keep hb2) (b7.keep hb2) (b9.keep hb2) (b10.keep hb2) (b12.keep hb2) (b14.keep hb2) (b18.keep hb2)

set_option maxRecDepth 100000 in
set_option maxHeartbeats 2000000 in
theorem PN_11 {w wr : World} {g2 g3 g6 g7 g9 g10 g12 g14 : Nat} {u0 u1 u4 u18 u19 u20 u21 u22 u23 u24 u25 u26 u27 u28 u29 u30 u31 u32 u33 u34 u35 u36 u37 u38 u39 u40 u41 u42 u43 u44 u45 u46 u47 u48 u49 u50 u51 u52 u53 u54 u55 u56 u57 u58 u59 u60 u61 u62 u63 u64 u65 u66 u67 u68 u69 u70 u71 u72 u73 u74 u75 u76 u77 u78 u79 u80 u81 u82 u83 u84 u85 u86 u87 u88 u89 u90 u91 u92 u93 u94 u95 u96 u97 u98 u99 u100 u101 u102 u103 u104 u105 u106 u107 u108 u109 u110 u111 u112 u113 u114 u115 u116 u117 u118 u119 u120 u121 u122 u123 u124 u125 u126 u127 u128 u129 u130 u131 u132 u133 u134 u135 u136 u137 u138 u139 u140 u141 u142 u143 u144 u145 u146 u147 u148 u149 u150 u151 u152 u153 u154 u155 u156 u157 u158 u159 u160 u161 u162 u163 u164 u165 u166 u167 u168 u169 : Value} {va vb vq vr vd vm : Int}
    (la : Lt 3840 va) (lb : Lt 3840 vb) (hz : Hid (vb ≠ 0)) (hq : Hid (TruncDiv va vb vq vr)) (lqb : Lt 3841 (vq * vb)) (lq : Lt 3841 vq) (lr : Lt 3840 vr) (hd : Hid (Floors va vb vd vm)) (ldb : Lt 3841 (vd * vb)) (ld : Lt 3841 vd) (lm : Lt 3840 vm)
    (hb : Below w.heap.size w wr) (h0 : w.heap.size ≤ g2)
    (o3 : g2 < g3) (o6 : g3 < g6) (o7 : g6 < g7) (o9 : g7 < g9) (o10 : g9 < g10) (o12 : g10 < g12) (o14 : g12 < g14)
    (b2 : Bx wr g2 (va)) (b3 : Bx wr g3 (vb)) (b6 : Bx wr g6 (vq)) (b7 : Bx wr g7 (vr)) (b9 : Bx wr g9 (vd)) (b10 : Bx wr g10 (vm)) (b12 : Bx wr g12 (vd * vb)) (b14 : Bx wr g14 (vq * vb + vr)) :
    Code.wp Tryd.prog (tail11 11) (Q11 w) ⟨#[u0, u1, .pointer (some ⟨g2, 0, none⟩), .pointer (some ⟨g3, 0, none⟩), u4, .bool true, .pointer (some ⟨g6, 0, none⟩), .pointer (some ⟨g7, 0, none⟩), .int .i64 0, .pointer (some ⟨g9, 0, none⟩), .pointer (some ⟨g10, 0, none⟩), .int .i64 0, .pointer (some ⟨g12, 0, none⟩), .int .i64 0, .pointer (some ⟨g14, 0, none⟩), .int .i64 0, .bool true, .int .i64 0, u18, u19, u20, u21, u22, u23, u24, u25, u26, u27, u28, u29, u30, u31, u32, u33, u34, u35, u36, u37, u38, u39, u40, u41, u42, u43, u44, u45, u46, u47, u48, u49, u50, u51, u52, u53, u54, u55, u56, u57, u58, u59, u60, u61, u62, u63, u64, u65, u66, u67, u68, u69, u70, u71, u72, u73, u74, u75, u76, u77, u78, u79, u80, u81, u82, u83, u84, u85, u86, u87, u88, u89, u90, u91, u92, u93, u94, u95, u96, u97, u98, u99, u100, u101, u102, u103, u104, u105, u106, u107, u108, u109, u110, u111, u112, u113, u114, u115, u116, u117, u118, u119, u120, u121, u122, u123, u124, u125, u126, u127, u128, u129, u130, u131, u132, u133, u134, u135, u136, u137, u138, u139, u140, u141, u142, u143, u144, u145, u146, u147, u148, u149, u150, u151, u152, u153, u154, u155, u156, u157, u158, u159, u160, u161, u162, u163, u164, u165, u166, u167, u168, u169], []⟩ wr := by
  have b12' := b12
  obtain ⟨nA, aA, lA, cA, A, hHA, hRA, hEA⟩ := b12'
  obtain ⟨kA0, kA1, _, _⟩ := two_cells hHA
  have HEA := hid hEA
  clear hEA hHA
  have b10' := b10
  obtain ⟨nB, aB, lB, cB, B, hHB, hRB, hEB⟩ := b10'
  obtain ⟨kB0, kB1, _, _⟩ := two_cells hHB
  have HEB := hid hEB
  clear hEB hHB
  show Code.wp Tryd.prog (Code.seq (head11 11) (tail11 12)) _ _ _
  conv => arg 2; arg 1; whnf
  go_wp2_with fail
  refine (add_ok _ hRA hRB HEA.out HEB.out ((ldb).sm (by decide)) ((lm).sm (by decide)) ((show Lt 3840 (vd * vb + vm) by rw [← hd.out.1]; exact la).sm (by decide))).mono ?_
  rintro e w2 ⟨n2, ao2, len2, C2, rfl, hR2, hE2, hb2⟩
  have HE2 := hid hE2
  clear hE2
  go_wp2
  have hlast : g14 < w2.heap.size := (b14.keep hb2).lt
  have hb3 := hb.trans (hb2.mono hb.size)
  exact PN_12 la lb hz hq lqb lq lr hd ldb ld lm (hb3.alloc hb3.size _) h0 o3 o6 o7 o9 o10 o12 o14 hlast ((b2.keep hb2).alloc _) ((b3.keep hb2).alloc _) ((b6.keep hb2).alloc _) ((b7.keep hb2).alloc _) ((b9.keep hb2).alloc _) ((b10.keep hb2).alloc _) ((b12.keep hb2).alloc _) ((b14.keep hb2).alloc _) (Bx.new hR2 HE2.out)

set_option maxRecDepth 100000 in
set_option maxHeartbeats 2000000 in
theorem PN_10 {w wr : World} {g2 g3 g6 g7 g9 g10 g12 g14 : Nat} {u0 u1 u4 u17 u18 u19 u20 u21 u22 u23 u24 u25 u26 u27 u28 u29 u30 u31 u32 u33 u34 u35 u36 u37 u38 u39 u40 u41 u42 u43 u44 u45 u46 u47 u48 u49 u50 u51 u52 u53 u54 u55 u56 u57 u58 u59 u60 u61 u62 u63 u64 u65 u66 u67 u68 u69 u70 u71 u72 u73 u74 u75 u76 u77 u78 u79 u80 u81 u82 u83 u84 u85 u86 u87 u88 u89 u90 u91 u92 u93 u94 u95 u96 u97 u98 u99 u100 u101 u102 u103 u104 u105 u106 u107 u108 u109 u110 u111 u112 u113 u114 u115 u116 u117 u118 u119 u120 u121 u122 u123 u124 u125 u126 u127 u128 u129 u130 u131 u132 u133 u134 u135 u136 u137 u138 u139 u140 u141 u142 u143 u144 u145 u146 u147 u148 u149 u150 u151 u152 u153 u154 u155 u156 u157 u158 u159 u160 u161 u162 u163 u164 u165 u166 u167 u168 u169 : Value} {va vb vq vr vd vm : Int}
    (la : Lt 3840 va) (lb : Lt 3840 vb) (hz : Hid (vb ≠ 0)) (hq : Hid (TruncDiv va vb vq vr)) (lqb : Lt 3841 (vq * vb)) (lq : Lt 3841 vq) (lr : Lt 3840 vr) (hd : Hid (Floors va vb vd vm)) (ldb : Lt 3841 (vd * vb)) (ld : Lt 3841 vd) (lm : Lt 3840 vm)
    (hb : Below w.heap.size w wr) (h0 : w.heap.size ≤ g2)
    (o3 : g2 < g3) (o6 : g3 < g6) (o7 : g6 < g7) (o9 : g7 < g9) (o10 : g9 < g10) (o12 : g10 < g12) (o14 : g12 < g14)
    (b2 : Bx wr g2 (va)) (b3 : Bx wr g3 (vb)) (b6 : Bx wr g6 (vq)) (b7 : Bx wr g7 (vr)) (b9 : Bx wr g9 (vd)) (b10 : Bx wr g10 (vm)) (b12 : Bx wr g12 (vq * vb)) (b14 : Bx wr g14 (vq * vb + vr)) :
    Code.wp Tryd.prog (tail11 10) (Q11 w) ⟨#[u0, u1, .pointer (some ⟨g2, 0, none⟩), .pointer (some ⟨g3, 0, none⟩), u4, .bool true, .pointer (some ⟨g6, 0, none⟩), .pointer (some ⟨g7, 0, none⟩), .int .i64 0, .pointer (some ⟨g9, 0, none⟩), .pointer (some ⟨g10, 0, none⟩), .int .i64 0, .pointer (some ⟨g12, 0, none⟩), .int .i64 0, .pointer (some ⟨g14, 0, none⟩), .int .i64 0, .bool true, u17, u18, u19, u20, u21, u22, u23, u24, u25, u26, u27, u28, u29, u30, u31, u32, u33, u34, u35, u36, u37, u38, u39, u40, u41, u42, u43, u44, u45, u46, u47, u48, u49, u50, u51, u52, u53, u54, u55, u56, u57, u58, u59, u60, u61, u62, u63, u64, u65, u66, u67, u68, u69, u70, u71, u72, u73, u74, u75, u76, u77, u78, u79, u80, u81, u82, u83, u84, u85, u86, u87, u88, u89, u90, u91, u92, u93, u94, u95, u96, u97, u98, u99, u100, u101, u102, u103, u104, u105, u106, u107, u108, u109, u110, u111, u112, u113, u114, u115, u116, u117, u118, u119, u120, u121, u122, u123, u124, u125, u126, u127, u128, u129, u130, u131, u132, u133, u134, u135, u136, u137, u138, u139, u140, u141, u142, u143, u144, u145, u146, u147, u148, u149, u150, u151, u152, u153, u154, u155, u156, u157, u158, u159, u160, u161, u162, u163, u164, u165, u166, u167, u168, u169], []⟩ wr := by
  have b9' := b9
  obtain ⟨nA, aA, lA, cA, A, hHA, hRA, hEA⟩ := b9'
  obtain ⟨kA0, kA1, _, _⟩ := two_cells hHA
  have HEA := hid hEA
  clear hEA hHA
  have b3' := b3
  obtain ⟨nB, aB, lB, cB, B, hHB, hRB, hEB⟩ := b3'
  obtain ⟨kB0, kB1, _, _⟩ := two_cells hHB
  have HEB := hid hEB
  clear hEB hHB
  show Code.wp Tryd.prog (Code.seq (head11 10) (tail11 11)) _ _ _
  conv => arg 2; arg 1; whnf
  go_wp2_with fail
  refine (mul_ok _ hRA hRB HEA.out HEB.out ((ld).sm (by decide)) ((lb).sm (by decide)) ((ldb).sm (by decide))).mono ?_
  rintro e w2 ⟨n2, ao2, len2, C2, rfl, hR2, hE2, hb2⟩
  have HE2 := hid hE2
  clear hE2
  obtain ⟨nP, aP, lP, cP, P, hHP, _, _⟩ := b12.keep hb2
  obtain ⟨kP0, kP1, kP2, kP3⟩ := two_cells hHP
  clear hHP
  go_wp2
  have hb3 := hb.trans (hb2.mono hb.size)
  exact PN_11 la lb hz hq lqb lq lr hd ldb ld lm (below_put hb3 (by omega) _ _) h0 o3 o6 o7 o9 o10 o12 o14 ((b2.keep hb2).put_other (b12.keep hb2) (by omega) _ _) ((b3.keep hb2).put_other (b12.keep hb2) (by omega) _ _) ((b6.keep hb2).put_other (b12.keep hb2) (by omega) _ _) ((b7.keep hb2).put_other (b12.keep hb2) (by omega) _ _) ((b9.keep hb2).put_other (b12.keep hb2) (by omega) _ _) ((b10.keep hb2).put_other (b12.keep hb2) (by omega) _ _) ((b12.keep hb2).put hR2 HE2.out) ((b14.keep hb2).put_other (b12.keep hb2) (by omega) _ _)

set_option maxRecDepth 100000 in
set_option maxHeartbeats 2000000 in
theorem PN_9 {w wr : World} {g2 g3 g6 g7 g9 g10 g12 g14 : Nat} {u0 u1 u4 u16 u17 u18 u19 u20 u21 u22 u23 u24 u25 u26 u27 u28 u29 u30 u31 u32 u33 u34 u35 u36 u37 u38 u39 u40 u41 u42 u43 u44 u45 u46 u47 u48 u49 u50 u51 u52 u53 u54 u55 u56 u57 u58 u59 u60 u61 u62 u63 u64 u65 u66 u67 u68 u69 u70 u71 u72 u73 u74 u75 u76 u77 u78 u79 u80 u81 u82 u83 u84 u85 u86 u87 u88 u89 u90 u91 u92 u93 u94 u95 u96 u97 u98 u99 u100 u101 u102 u103 u104 u105 u106 u107 u108 u109 u110 u111 u112 u113 u114 u115 u116 u117 u118 u119 u120 u121 u122 u123 u124 u125 u126 u127 u128 u129 u130 u131 u132 u133 u134 u135 u136 u137 u138 u139 u140 u141 u142 u143 u144 u145 u146 u147 u148 u149 u150 u151 u152 u153 u154 u155 u156 u157 u158 u159 u160 u161 u162 u163 u164 u165 u166 u167 u168 u169 : Value} {va vb vq vr vd vm : Int}
    (la : Lt 3840 va) (lb : Lt 3840 vb) (hz : Hid (vb ≠ 0)) (hq : Hid (TruncDiv va vb vq vr)) (lqb : Lt 3841 (vq * vb)) (lq : Lt 3841 vq) (lr : Lt 3840 vr) (hd : Hid (Floors va vb vd vm)) (ldb : Lt 3841 (vd * vb)) (ld : Lt 3841 vd) (lm : Lt 3840 vm)
    (hb : Below w.heap.size w wr) (h0 : w.heap.size ≤ g2)
    (o3 : g2 < g3) (o6 : g3 < g6) (o7 : g6 < g7) (o9 : g7 < g9) (o10 : g9 < g10) (o12 : g10 < g12) (o14 : g12 < g14)
    (b2 : Bx wr g2 (va)) (b3 : Bx wr g3 (vb)) (b6 : Bx wr g6 (vq)) (b7 : Bx wr g7 (vr)) (b9 : Bx wr g9 (vd)) (b10 : Bx wr g10 (vm)) (b12 : Bx wr g12 (vq * vb)) (b14 : Bx wr g14 (vq * vb + vr)) :
    Code.wp Tryd.prog (tail11 9) (Q11 w) ⟨#[u0, u1, .pointer (some ⟨g2, 0, none⟩), .pointer (some ⟨g3, 0, none⟩), u4, .bool true, .pointer (some ⟨g6, 0, none⟩), .pointer (some ⟨g7, 0, none⟩), .int .i64 0, .pointer (some ⟨g9, 0, none⟩), .pointer (some ⟨g10, 0, none⟩), .int .i64 0, .pointer (some ⟨g12, 0, none⟩), .int .i64 0, .pointer (some ⟨g14, 0, none⟩), .int .i64 0, u16, u17, u18, u19, u20, u21, u22, u23, u24, u25, u26, u27, u28, u29, u30, u31, u32, u33, u34, u35, u36, u37, u38, u39, u40, u41, u42, u43, u44, u45, u46, u47, u48, u49, u50, u51, u52, u53, u54, u55, u56, u57, u58, u59, u60, u61, u62, u63, u64, u65, u66, u67, u68, u69, u70, u71, u72, u73, u74, u75, u76, u77, u78, u79, u80, u81, u82, u83, u84, u85, u86, u87, u88, u89, u90, u91, u92, u93, u94, u95, u96, u97, u98, u99, u100, u101, u102, u103, u104, u105, u106, u107, u108, u109, u110, u111, u112, u113, u114, u115, u116, u117, u118, u119, u120, u121, u122, u123, u124, u125, u126, u127, u128, u129, u130, u131, u132, u133, u134, u135, u136, u137, u138, u139, u140, u141, u142, u143, u144, u145, u146, u147, u148, u149, u150, u151, u152, u153, u154, u155, u156, u157, u158, u159, u160, u161, u162, u163, u164, u165, u166, u167, u168, u169], []⟩ wr := by
  have b14' := b14
  obtain ⟨nA, aA, lA, cA, A, hHA, hRA, hEA⟩ := b14'
  obtain ⟨kA0, kA1, _, _⟩ := two_cells hHA
  have HEA := hid hEA
  clear hEA hHA
  have b2' := b2
  obtain ⟨nB, aB, lB, cB, B, hHB, hRB, hEB⟩ := b2'
  obtain ⟨kB0, kB1, _, _⟩ := two_cells hHB
  have HEB := hid hEB
  clear hEB hHB
  show Code.wp Tryd.prog (Code.seq (head11 9) (tail11 10)) _ _ _
  conv => arg 2; arg 1; whnf
  go_wp2_with fail
  refine (same_yes _ 0 hRA hRB (by rw [HEA.out, HEB.out]; exact hq.out.1.symm)).mono ?_
  rintro e w2 ⟨rfl, hb2⟩
  go_wp2
  exact PN_10 la lb hz hq lqb lq lr hd ldb ld lm (hb.trans (hb2.mono hb.size)) h0 o3 o6 o7 o9 o10 o12 o14 (b2.keep hb2) (b3.keep hb2) (b6.keep hb2) (b7.keep hb2) (b9.keep hb2) (b10.keep hb2) (b12.keep hb2) (b14.keep hb2)

set_option maxRecDepth 100000 in
set_option maxHeartbeats 2000000 in
theorem PN_8 {w wr : World} {g2 g3 g6 g7 g9 g10 g12 : Nat} {u0 u1 u4 u14 u15 u16 u17 u18 u19 u20 u21 u22 u23 u24 u25 u26 u27 u28 u29 u30 u31 u32 u33 u34 u35 u36 u37 u38 u39 u40 u41 u42 u43 u44 u45 u46 u47 u48 u49 u50 u51 u52 u53 u54 u55 u56 u57 u58 u59 u60 u61 u62 u63 u64 u65 u66 u67 u68 u69 u70 u71 u72 u73 u74 u75 u76 u77 u78 u79 u80 u81 u82 u83 u84 u85 u86 u87 u88 u89 u90 u91 u92 u93 u94 u95 u96 u97 u98 u99 u100 u101 u102 u103 u104 u105 u106 u107 u108 u109 u110 u111 u112 u113 u114 u115 u116 u117 u118 u119 u120 u121 u122 u123 u124 u125 u126 u127 u128 u129 u130 u131 u132 u133 u134 u135 u136 u137 u138 u139 u140 u141 u142 u143 u144 u145 u146 u147 u148 u149 u150 u151 u152 u153 u154 u155 u156 u157 u158 u159 u160 u161 u162 u163 u164 u165 u166 u167 u168 u169 : Value} {va vb vq vr vd vm : Int}
    (la : Lt 3840 va) (lb : Lt 3840 vb) (hz : Hid (vb ≠ 0)) (hq : Hid (TruncDiv va vb vq vr)) (lqb : Lt 3841 (vq * vb)) (lq : Lt 3841 vq) (lr : Lt 3840 vr) (hd : Hid (Floors va vb vd vm)) (ldb : Lt 3841 (vd * vb)) (ld : Lt 3841 vd) (lm : Lt 3840 vm)
    (hb : Below w.heap.size w wr) (h0 : w.heap.size ≤ g2)
    (o3 : g2 < g3) (o6 : g3 < g6) (o7 : g6 < g7) (o9 : g7 < g9) (o10 : g9 < g10) (o12 : g10 < g12)
    (b2 : Bx wr g2 (va)) (b3 : Bx wr g3 (vb)) (b6 : Bx wr g6 (vq)) (b7 : Bx wr g7 (vr)) (b9 : Bx wr g9 (vd)) (b10 : Bx wr g10 (vm)) (b12 : Bx wr g12 (vq * vb)) :
    Code.wp Tryd.prog (tail11 8) (Q11 w) ⟨#[u0, u1, .pointer (some ⟨g2, 0, none⟩), .pointer (some ⟨g3, 0, none⟩), u4, .bool true, .pointer (some ⟨g6, 0, none⟩), .pointer (some ⟨g7, 0, none⟩), .int .i64 0, .pointer (some ⟨g9, 0, none⟩), .pointer (some ⟨g10, 0, none⟩), .int .i64 0, .pointer (some ⟨g12, 0, none⟩), .int .i64 0, u14, u15, u16, u17, u18, u19, u20, u21, u22, u23, u24, u25, u26, u27, u28, u29, u30, u31, u32, u33, u34, u35, u36, u37, u38, u39, u40, u41, u42, u43, u44, u45, u46, u47, u48, u49, u50, u51, u52, u53, u54, u55, u56, u57, u58, u59, u60, u61, u62, u63, u64, u65, u66, u67, u68, u69, u70, u71, u72, u73, u74, u75, u76, u77, u78, u79, u80, u81, u82, u83, u84, u85, u86, u87, u88, u89, u90, u91, u92, u93, u94, u95, u96, u97, u98, u99, u100, u101, u102, u103, u104, u105, u106, u107, u108, u109, u110, u111, u112, u113, u114, u115, u116, u117, u118, u119, u120, u121, u122, u123, u124, u125, u126, u127, u128, u129, u130, u131, u132, u133, u134, u135, u136, u137, u138, u139, u140, u141, u142, u143, u144, u145, u146, u147, u148, u149, u150, u151, u152, u153, u154, u155, u156, u157, u158, u159, u160, u161, u162, u163, u164, u165, u166, u167, u168, u169], []⟩ wr := by
  have b12' := b12
  obtain ⟨nA, aA, lA, cA, A, hHA, hRA, hEA⟩ := b12'
  obtain ⟨kA0, kA1, _, _⟩ := two_cells hHA
  have HEA := hid hEA
  clear hEA hHA
  have b7' := b7
  obtain ⟨nB, aB, lB, cB, B, hHB, hRB, hEB⟩ := b7'
  obtain ⟨kB0, kB1, _, _⟩ := two_cells hHB
  have HEB := hid hEB
  clear hEB hHB
  show Code.wp Tryd.prog (Code.seq (head11 8) (tail11 9)) _ _ _
  conv => arg 2; arg 1; whnf
  go_wp2_with fail
  refine (add_ok _ hRA hRB HEA.out HEB.out ((lqb).sm (by decide)) ((lr).sm (by decide)) ((show Lt 3840 (vq * vb + vr) by rw [← hq.out.1]; exact la).sm (by decide))).mono ?_
  rintro e w2 ⟨n2, ao2, len2, C2, rfl, hR2, hE2, hb2⟩
  have HE2 := hid hE2
  clear hE2
  go_wp2
  have hlast : g12 < w2.heap.size := (b12.keep hb2).lt
  have hb3 := hb.trans (hb2.mono hb.size)
  exact PN_9 la lb hz hq lqb lq lr hd ldb ld lm (hb3.alloc hb3.size _) h0 o3 o6 o7 o9 o10 o12 hlast ((b2.keep hb2).alloc _) ((b3.keep hb2).alloc _) ((b6.keep hb2).alloc _) ((b7.keep hb2).alloc _) ((b9.keep hb2).alloc _) ((b10.keep hb2).alloc _) ((b12.keep hb2).alloc _) (Bx.new hR2 HE2.out)

set_option maxRecDepth 100000 in
set_option maxHeartbeats 2000000 in
theorem PN_7 {w wr : World} {g2 g3 g6 g7 g9 g10 : Nat} {u0 u1 u4 u12 u13 u14 u15 u16 u17 u18 u19 u20 u21 u22 u23 u24 u25 u26 u27 u28 u29 u30 u31 u32 u33 u34 u35 u36 u37 u38 u39 u40 u41 u42 u43 u44 u45 u46 u47 u48 u49 u50 u51 u52 u53 u54 u55 u56 u57 u58 u59 u60 u61 u62 u63 u64 u65 u66 u67 u68 u69 u70 u71 u72 u73 u74 u75 u76 u77 u78 u79 u80 u81 u82 u83 u84 u85 u86 u87 u88 u89 u90 u91 u92 u93 u94 u95 u96 u97 u98 u99 u100 u101 u102 u103 u104 u105 u106 u107 u108 u109 u110 u111 u112 u113 u114 u115 u116 u117 u118 u119 u120 u121 u122 u123 u124 u125 u126 u127 u128 u129 u130 u131 u132 u133 u134 u135 u136 u137 u138 u139 u140 u141 u142 u143 u144 u145 u146 u147 u148 u149 u150 u151 u152 u153 u154 u155 u156 u157 u158 u159 u160 u161 u162 u163 u164 u165 u166 u167 u168 u169 : Value} {va vb vq vr vd vm : Int}
    (la : Lt 3840 va) (lb : Lt 3840 vb) (hz : Hid (vb ≠ 0)) (hq : Hid (TruncDiv va vb vq vr)) (lqb : Lt 3841 (vq * vb)) (lq : Lt 3841 vq) (lr : Lt 3840 vr) (hd : Hid (Floors va vb vd vm)) (ldb : Lt 3841 (vd * vb)) (ld : Lt 3841 vd) (lm : Lt 3840 vm)
    (hb : Below w.heap.size w wr) (h0 : w.heap.size ≤ g2)
    (o3 : g2 < g3) (o6 : g3 < g6) (o7 : g6 < g7) (o9 : g7 < g9) (o10 : g9 < g10)
    (b2 : Bx wr g2 (va)) (b3 : Bx wr g3 (vb)) (b6 : Bx wr g6 (vq)) (b7 : Bx wr g7 (vr)) (b9 : Bx wr g9 (vd)) (b10 : Bx wr g10 (vm)) :
    Code.wp Tryd.prog (tail11 7) (Q11 w) ⟨#[u0, u1, .pointer (some ⟨g2, 0, none⟩), .pointer (some ⟨g3, 0, none⟩), u4, .bool true, .pointer (some ⟨g6, 0, none⟩), .pointer (some ⟨g7, 0, none⟩), .int .i64 0, .pointer (some ⟨g9, 0, none⟩), .pointer (some ⟨g10, 0, none⟩), .int .i64 0, u12, u13, u14, u15, u16, u17, u18, u19, u20, u21, u22, u23, u24, u25, u26, u27, u28, u29, u30, u31, u32, u33, u34, u35, u36, u37, u38, u39, u40, u41, u42, u43, u44, u45, u46, u47, u48, u49, u50, u51, u52, u53, u54, u55, u56, u57, u58, u59, u60, u61, u62, u63, u64, u65, u66, u67, u68, u69, u70, u71, u72, u73, u74, u75, u76, u77, u78, u79, u80, u81, u82, u83, u84, u85, u86, u87, u88, u89, u90, u91, u92, u93, u94, u95, u96, u97, u98, u99, u100, u101, u102, u103, u104, u105, u106, u107, u108, u109, u110, u111, u112, u113, u114, u115, u116, u117, u118, u119, u120, u121, u122, u123, u124, u125, u126, u127, u128, u129, u130, u131, u132, u133, u134, u135, u136, u137, u138, u139, u140, u141, u142, u143, u144, u145, u146, u147, u148, u149, u150, u151, u152, u153, u154, u155, u156, u157, u158, u159, u160, u161, u162, u163, u164, u165, u166, u167, u168, u169], []⟩ wr := by
  have b6' := b6
  obtain ⟨nA, aA, lA, cA, A, hHA, hRA, hEA⟩ := b6'
  obtain ⟨kA0, kA1, _, _⟩ := two_cells hHA
  have HEA := hid hEA
  clear hEA hHA
  have b3' := b3
  obtain ⟨nB, aB, lB, cB, B, hHB, hRB, hEB⟩ := b3'
  obtain ⟨kB0, kB1, _, _⟩ := two_cells hHB
  have HEB := hid hEB
  clear hEB hHB
  show Code.wp Tryd.prog (Code.seq (head11 7) (tail11 8)) _ _ _
  conv => arg 2; arg 1; whnf
  go_wp2_with fail
  refine (mul_ok _ hRA hRB HEA.out HEB.out ((lq).sm (by decide)) ((lb).sm (by decide)) ((lqb).sm (by decide))).mono ?_
  rintro e w2 ⟨n2, ao2, len2, C2, rfl, hR2, hE2, hb2⟩
  have HE2 := hid hE2
  clear hE2
  go_wp2
  have hlast : g10 < w2.heap.size := (b10.keep hb2).lt
  have hb3 := hb.trans (hb2.mono hb.size)
  exact PN_8 la lb hz hq lqb lq lr hd ldb ld lm (hb3.alloc hb3.size _) h0 o3 o6 o7 o9 o10 hlast ((b2.keep hb2).alloc _) ((b3.keep hb2).alloc _) ((b6.keep hb2).alloc _) ((b7.keep hb2).alloc _) ((b9.keep hb2).alloc _) ((b10.keep hb2).alloc _) (Bx.new hR2 HE2.out)

set_option maxRecDepth 100000 in
set_option maxHeartbeats 2000000 in
theorem PN_6 {w wr : World} {g2 g3 g6 g7 g9 g10 : Nat} {u0 u1 u4 u12 u13 u14 u15 u16 u17 u18 u19 u20 u21 u22 u23 u24 u25 u26 u27 u28 u29 u30 u31 u32 u33 u34 u35 u36 u37 u38 u39 u40 u41 u42 u43 u44 u45 u46 u47 u48 u49 u50 u51 u52 u53 u54 u55 u56 u57 u58 u59 u60 u61 u62 u63 u64 u65 u66 u67 u68 u69 u70 u71 u72 u73 u74 u75 u76 u77 u78 u79 u80 u81 u82 u83 u84 u85 u86 u87 u88 u89 u90 u91 u92 u93 u94 u95 u96 u97 u98 u99 u100 u101 u102 u103 u104 u105 u106 u107 u108 u109 u110 u111 u112 u113 u114 u115 u116 u117 u118 u119 u120 u121 u122 u123 u124 u125 u126 u127 u128 u129 u130 u131 u132 u133 u134 u135 u136 u137 u138 u139 u140 u141 u142 u143 u144 u145 u146 u147 u148 u149 u150 u151 u152 u153 u154 u155 u156 u157 u158 u159 u160 u161 u162 u163 u164 u165 u166 u167 u168 u169 : Value} {va vb vq vr vd vm : Int}
    (la : Lt 3840 va) (lb : Lt 3840 vb) (hz : Hid (vb ≠ 0)) (hq : Hid (TruncDiv va vb vq vr)) (lqb : Lt 3841 (vq * vb)) (lq : Lt 3841 vq) (lr : Lt 3840 vr) (hd : Hid (Floors va vb vd vm)) (ldb : Lt 3841 (vd * vb)) (ld : Lt 3841 vd) (lm : Lt 3840 vm)
    (hb : Below w.heap.size w wr) (h0 : w.heap.size ≤ g2)
    (o3 : g2 < g3) (o6 : g3 < g6) (o7 : g6 < g7) (o9 : g7 < g9) (o10 : g9 < g10)
    (b2 : Bx wr g2 (va)) (b3 : Bx wr g3 (vb)) (b6 : Bx wr g6 (vq)) (b7 : Bx wr g7 (vr)) (b9 : Bx wr g9 (vd)) (b10 : Bx wr g10 (vm)) :
    Code.wp Tryd.prog (tail11 6) (Q11 w) ⟨#[u0, u1, .pointer (some ⟨g2, 0, none⟩), .pointer (some ⟨g3, 0, none⟩), u4, .bool true, .pointer (some ⟨g6, 0, none⟩), .pointer (some ⟨g7, 0, none⟩), .int .i64 0, .pointer (some ⟨g9, 0, none⟩), .pointer (some ⟨g10, 0, none⟩), .int .i64 0, u12, u13, u14, u15, u16, u17, u18, u19, u20, u21, u22, u23, u24, u25, u26, u27, u28, u29, u30, u31, u32, u33, u34, u35, u36, u37, u38, u39, u40, u41, u42, u43, u44, u45, u46, u47, u48, u49, u50, u51, u52, u53, u54, u55, u56, u57, u58, u59, u60, u61, u62, u63, u64, u65, u66, u67, u68, u69, u70, u71, u72, u73, u74, u75, u76, u77, u78, u79, u80, u81, u82, u83, u84, u85, u86, u87, u88, u89, u90, u91, u92, u93, u94, u95, u96, u97, u98, u99, u100, u101, u102, u103, u104, u105, u106, u107, u108, u109, u110, u111, u112, u113, u114, u115, u116, u117, u118, u119, u120, u121, u122, u123, u124, u125, u126, u127, u128, u129, u130, u131, u132, u133, u134, u135, u136, u137, u138, u139, u140, u141, u142, u143, u144, u145, u146, u147, u148, u149, u150, u151, u152, u153, u154, u155, u156, u157, u158, u159, u160, u161, u162, u163, u164, u165, u166, u167, u168, u169], []⟩ wr := by
  have b3' := b3
  obtain ⟨nB, aB, lB, cB, B, hHB, hRB, hEB⟩ := b3'
  obtain ⟨kB0, kB1, _, _⟩ := two_cells hHB
  have HEB := hid hEB
  clear hEB hHB
  show Code.wp Tryd.prog (Code.seq (head11 6) (tail11 7)) _ _ _
  conv => arg 2; arg 1; whnf
  go_wp2_with fail
  refine (sign_any nB aB lB cB B _ hRB).mono ?_
  rintro e w2 ⟨rfl, hw2⟩
  rw [HEB.out]
  have hb2 : Below wr.heap.size wr w2 := by rw [← hw2]; exact (Below.refl _ _).alloc (Nat.le_refl _) _
  clear hw2
  rcases sign_ne hz.out with hs | hs
  all_goals
    rw [hs]
    go_wp2
    exact PN_7 la lb hz hq lqb lq lr hd ldb ld lm (hb.trans (hb2.mono hb.size)) h0 o3 o6 o7 o9 o10 (b2.keep hb2) (b3.keep hb2) (b6.keep hb2) (b7.keep hb2) (b9.keep hb2) (b10.keep hb2)

set_option maxRecDepth 100000 in
set_option maxHeartbeats 2000000 in
theorem PN_5 {w wr : World} {g2 g3 g6 g7 : Nat} {u0 u1 u4 u9 u10 u11 u12 u13 u14 u15 u16 u17 u18 u19 u20 u21 u22 u23 u24 u25 u26 u27 u28 u29 u30 u31 u32 u33 u34 u35 u36 u37 u38 u39 u40 u41 u42 u43 u44 u45 u46 u47 u48 u49 u50 u51 u52 u53 u54 u55 u56 u57 u58 u59 u60 u61 u62 u63 u64 u65 u66 u67 u68 u69 u70 u71 u72 u73 u74 u75 u76 u77 u78 u79 u80 u81 u82 u83 u84 u85 u86 u87 u88 u89 u90 u91 u92 u93 u94 u95 u96 u97 u98 u99 u100 u101 u102 u103 u104 u105 u106 u107 u108 u109 u110 u111 u112 u113 u114 u115 u116 u117 u118 u119 u120 u121 u122 u123 u124 u125 u126 u127 u128 u129 u130 u131 u132 u133 u134 u135 u136 u137 u138 u139 u140 u141 u142 u143 u144 u145 u146 u147 u148 u149 u150 u151 u152 u153 u154 u155 u156 u157 u158 u159 u160 u161 u162 u163 u164 u165 u166 u167 u168 u169 : Value} {va vb vq vr : Int}
    (la : Lt 3840 va) (lb : Lt 3840 vb) (hz : Hid (vb ≠ 0)) (hq : Hid (TruncDiv va vb vq vr)) (lqb : Lt 3841 (vq * vb)) (lq : Lt 3841 vq) (lr : Lt 3840 vr)
    (hb : Below w.heap.size w wr) (h0 : w.heap.size ≤ g2)
    (o3 : g2 < g3) (o6 : g3 < g6) (o7 : g6 < g7)
    (b2 : Bx wr g2 (va)) (b3 : Bx wr g3 (vb)) (b6 : Bx wr g6 (vq)) (b7 : Bx wr g7 (vr)) :
    Code.wp Tryd.prog (tail11 5) (Q11 w) ⟨#[u0, u1, .pointer (some ⟨g2, 0, none⟩), .pointer (some ⟨g3, 0, none⟩), u4, .bool true, .pointer (some ⟨g6, 0, none⟩), .pointer (some ⟨g7, 0, none⟩), .int .i64 0, u9, u10, u11, u12, u13, u14, u15, u16, u17, u18, u19, u20, u21, u22, u23, u24, u25, u26, u27, u28, u29, u30, u31, u32, u33, u34, u35, u36, u37, u38, u39, u40, u41, u42, u43, u44, u45, u46, u47, u48, u49, u50, u51, u52, u53, u54, u55, u56, u57, u58, u59, u60, u61, u62, u63, u64, u65, u66, u67, u68, u69, u70, u71, u72, u73, u74, u75, u76, u77, u78, u79, u80, u81, u82, u83, u84, u85, u86, u87, u88, u89, u90, u91, u92, u93, u94, u95, u96, u97, u98, u99, u100, u101, u102, u103, u104, u105, u106, u107, u108, u109, u110, u111, u112, u113, u114, u115, u116, u117, u118, u119, u120, u121, u122, u123, u124, u125, u126, u127, u128, u129, u130, u131, u132, u133, u134, u135, u136, u137, u138, u139, u140, u141, u142, u143, u144, u145, u146, u147, u148, u149, u150, u151, u152, u153, u154, u155, u156, u157, u158, u159, u160, u161, u162, u163, u164, u165, u166, u167, u168, u169], []⟩ wr := by
  have b2' := b2
  obtain ⟨nA, aA, lA, cA, A, hHA, hRA, hEA⟩ := b2'
  obtain ⟨kA0, kA1, _, _⟩ := two_cells hHA
  have HEA := hid hEA
  clear hEA hHA
  have b3' := b3
  obtain ⟨nB, aB, lB, cB, B, hHB, hRB, hEB⟩ := b3'
  obtain ⟨kB0, kB1, _, _⟩ := two_cells hHB
  have HEB := hid hEB
  clear hEB hHB
  show Code.wp Tryd.prog (Code.seq (head11 5) (tail11 6)) _ _ _
  conv => arg 2; arg 1; whnf
  go_wp2_with fail
  refine (divMod_all _ hRA hRB HEA.out HEB.out (la.sm (by decide)) (lb.sm (by decide)) hz.out).mono ?_
  rintro e w2 ⟨nq, aq, lq2, Q2, nr, ar, lr2, R2, vd, vm, rfl, hRQ, hEQ, hRR, hER, hT, hb2⟩
  have HEQ := hid hEQ
  have HER := hid hER
  clear hEQ hER
  obtain ⟨s1, s2, s3⟩ := parts_size la lb hz.out hT.out.1 hT.out.2.1
  have hd := hT
  have ldb := s1
  have ld := s2
  have lm := s3
  go_wp2
  have hlast : g7 < w2.heap.size := (b7.keep hb2).lt
  have hb3 := hb.trans (hb2.mono hb.size)
  exact PN_6 la lb hz hq lqb lq lr hd ldb ld lm ((hb3.alloc hb3.size _).alloc (by simp; have := hb3.size; omega) _) h0 o3 o6 o7 hlast (Nat.lt_succ_self _) (((b2.keep hb2).alloc _).alloc _) (((b3.keep hb2).alloc _).alloc _) (((b6.keep hb2).alloc _).alloc _) (((b7.keep hb2).alloc _).alloc _) ((Bx.new hRQ HEQ.out).alloc _) (Bx.new2 hRR HER.out)

set_option maxRecDepth 100000 in
set_option maxHeartbeats 2000000 in
theorem PN_4 {w wr : World} {g2 g3 : Nat} {u0 u1 u4 u6 u7 u8 u9 u10 u11 u12 u13 u14 u15 u16 u17 u18 u19 u20 u21 u22 u23 u24 u25 u26 u27 u28 u29 u30 u31 u32 u33 u34 u35 u36 u37 u38 u39 u40 u41 u42 u43 u44 u45 u46 u47 u48 u49 u50 u51 u52 u53 u54 u55 u56 u57 u58 u59 u60 u61 u62 u63 u64 u65 u66 u67 u68 u69 u70 u71 u72 u73 u74 u75 u76 u77 u78 u79 u80 u81 u82 u83 u84 u85 u86 u87 u88 u89 u90 u91 u92 u93 u94 u95 u96 u97 u98 u99 u100 u101 u102 u103 u104 u105 u106 u107 u108 u109 u110 u111 u112 u113 u114 u115 u116 u117 u118 u119 u120 u121 u122 u123 u124 u125 u126 u127 u128 u129 u130 u131 u132 u133 u134 u135 u136 u137 u138 u139 u140 u141 u142 u143 u144 u145 u146 u147 u148 u149 u150 u151 u152 u153 u154 u155 u156 u157 u158 u159 u160 u161 u162 u163 u164 u165 u166 u167 u168 u169 : Value} {va vb : Int}
    (la : Lt 3840 va) (lb : Lt 3840 vb) (hz : Hid (vb ≠ 0))
    (hb : Below w.heap.size w wr) (h0 : w.heap.size ≤ g2)
    (o3 : g2 < g3)
    (b2 : Bx wr g2 (va)) (b3 : Bx wr g3 (vb)) :
    Code.wp Tryd.prog (tail11 4) (Q11 w) ⟨#[u0, u1, .pointer (some ⟨g2, 0, none⟩), .pointer (some ⟨g3, 0, none⟩), u4, .bool true, u6, u7, u8, u9, u10, u11, u12, u13, u14, u15, u16, u17, u18, u19, u20, u21, u22, u23, u24, u25, u26, u27, u28, u29, u30, u31, u32, u33, u34, u35, u36, u37, u38, u39, u40, u41, u42, u43, u44, u45, u46, u47, u48, u49, u50, u51, u52, u53, u54, u55, u56, u57, u58, u59, u60, u61, u62, u63, u64, u65, u66, u67, u68, u69, u70, u71, u72, u73, u74, u75, u76, u77, u78, u79, u80, u81, u82, u83, u84, u85, u86, u87, u88, u89, u90, u91, u92, u93, u94, u95, u96, u97, u98, u99, u100, u101, u102, u103, u104, u105, u106, u107, u108, u109, u110, u111, u112, u113, u114, u115, u116, u117, u118, u119, u120, u121, u122, u123, u124, u125, u126, u127, u128, u129, u130, u131, u132, u133, u134, u135, u136, u137, u138, u139, u140, u141, u142, u143, u144, u145, u146, u147, u148, u149, u150, u151, u152, u153, u154, u155, u156, u157, u158, u159, u160, u161, u162, u163, u164, u165, u166, u167, u168, u169], []⟩ wr := by
  have b2' := b2
  obtain ⟨nA, aA, lA, cA, A, hHA, hRA, hEA⟩ := b2'
  obtain ⟨kA0, kA1, _, _⟩ := two_cells hHA
  have HEA := hid hEA
  clear hEA hHA
  have b3' := b3
  obtain ⟨nB, aB, lB, cB, B, hHB, hRB, hEB⟩ := b3'
  obtain ⟨kB0, kB1, _, _⟩ := two_cells hHB
  have HEB := hid hEB
  clear hEB hHB
  show Code.wp Tryd.prog (Code.seq (head11 4) (tail11 5)) _ _ _
  conv => arg 2; arg 1; whnf
  go_wp2_with fail
  refine (quoRem_ok _ hRA hRB HEA.out HEB.out (la.sm (by decide)) (lb.sm (by decide)) hz.out).mono ?_
  rintro e w2 ⟨nq, aq, lq2, Q2, nr, ar, lr2, R2, vq, vr, rfl, hRQ, hEQ, hRR, hER, hT, hb2⟩
  have HEQ := hid hEQ
  have HER := hid hER
  clear hEQ hER
  obtain ⟨s1, s2, s3⟩ := parts_size la lb hz.out hT.out.1 hT.out.2.1
  have hq := hT
  have lqb := s1
  have lq := s2
  have lr := s3
  go_wp2
  have hlast : g3 < w2.heap.size := (b3.keep hb2).lt
  have hb3 := hb.trans (hb2.mono hb.size)
  exact PN_5 la lb hz hq lqb lq lr ((hb3.alloc hb3.size _).alloc (by simp; have := hb3.size; omega) _) h0 o3 hlast (Nat.lt_succ_self _) (((b2.keep hb2).alloc _).alloc _) (((b3.keep hb2).alloc _).alloc _) ((Bx.new hRQ HEQ.out).alloc _) (Bx.new2 hRR HER.out)

set_option maxRecDepth 100000 in
set_option maxHeartbeats 2000000 in
theorem PA_4 {w wr : World} {g2 g3 : Nat} {u0 u1 u4 u6 u7 u8 u9 u10 u11 u12 u13 u14 u15 u16 u17 u18 u19 u20 u21 u22 u23 u24 u25 u26 u27 u28 u29 u30 u31 u32 u33 u34 u35 u36 u37 u38 u39 u40 u41 u42 u43 u44 u45 u46 u47 u48 u49 u50 u51 u52 u53 u54 u55 u56 u57 u58 u59 u60 u61 u62 u63 u64 u65 u66 u67 u68 u69 u70 u71 u72 u73 u74 u75 u76 u77 u78 u79 u80 u81 u82 u83 u84 u85 u86 u87 u88 u89 u90 u91 u92 u93 u94 u95 u96 u97 u98 u99 u100 u101 u102 u103 u104 u105 u106 u107 u108 u109 u110 u111 u112 u113 u114 u115 u116 u117 u118 u119 u120 u121 u122 u123 u124 u125 u126 u127 u128 u129 u130 u131 u132 u133 u134 u135 u136 u137 u138 u139 u140 u141 u142 u143 u144 u145 u146 u147 u148 u149 u150 u151 u152 u153 u154 u155 u156 u157 u158 u159 u160 u161 u162 u163 u164 u165 u166 u167 u168 u169 : Value} {va vb : Int}
    (la : Lt 3840 va) (lb : Lt 3840 vb)
    (hb : Below w.heap.size w wr) (h0 : w.heap.size ≤ g2)
    (o3 : g2 < g3)
    (b2 : Bx wr g2 (va)) (b3 : Bx wr g3 (vb)) :
    Code.wp Tryd.prog (tail11 4) (Q11 w) ⟨#[u0, u1, .pointer (some ⟨g2, 0, none⟩), .pointer (some ⟨g3, 0, none⟩), u4, .bool true, u6, u7, u8, u9, u10, u11, u12, u13, u14, u15, u16, u17, u18, u19, u20, u21, u22, u23, u24, u25, u26, u27, u28, u29, u30, u31, u32, u33, u34, u35, u36, u37, u38, u39, u40, u41, u42, u43, u44, u45, u46, u47, u48, u49, u50, u51, u52, u53, u54, u55, u56, u57, u58, u59, u60, u61, u62, u63, u64, u65, u66, u67, u68, u69, u70, u71, u72, u73, u74, u75, u76, u77, u78, u79, u80, u81, u82, u83, u84, u85, u86, u87, u88, u89, u90, u91, u92, u93, u94, u95, u96, u97, u98, u99, u100, u101, u102, u103, u104, u105, u106, u107, u108, u109, u110, u111, u112, u113, u114, u115, u116, u117, u118, u119, u120, u121, u122, u123, u124, u125, u126, u127, u128, u129, u130, u131, u132, u133, u134, u135, u136, u137, u138, u139, u140, u141, u142, u143, u144, u145, u146, u147, u148, u149, u150, u151, u152, u153, u154, u155, u156, u157, u158, u159, u160, u161, u162, u163, u164, u165, u166, u167, u168, u169], []⟩ wr := by
  by_cases hz : vb = 0
  · exact PZ_4 la lb (hid hz) hb h0 o3 b2 b3
  · exact PN_4 la lb (hid hz) hb h0 o3 b2 b3

set_option maxRecDepth 100000 in
set_option maxHeartbeats 2000000 in
theorem PA_3 {w wr : World} {g2 g3 : Nat} {u0 u1 u4 u6 u7 u8 u9 u10 u11 u12 u13 u14 u15 u16 u17 u18 u19 u20 u21 u22 u23 u24 u25 u26 u27 u28 u29 u30 u31 u32 u33 u34 u35 u36 u37 u38 u39 u40 u41 u42 u43 u44 u45 u46 u47 u48 u49 u50 u51 u52 u53 u54 u55 u56 u57 u58 u59 u60 u61 u62 u63 u64 u65 u66 u67 u68 u69 u70 u71 u72 u73 u74 u75 u76 u77 u78 u79 u80 u81 u82 u83 u84 u85 u86 u87 u88 u89 u90 u91 u92 u93 u94 u95 u96 u97 u98 u99 u100 u101 u102 u103 u104 u105 u106 u107 u108 u109 u110 u111 u112 u113 u114 u115 u116 u117 u118 u119 u120 u121 u122 u123 u124 u125 u126 u127 u128 u129 u130 u131 u132 u133 u134 u135 u136 u137 u138 u139 u140 u141 u142 u143 u144 u145 u146 u147 u148 u149 u150 u151 u152 u153 u154 u155 u156 u157 u158 u159 u160 u161 u162 u163 u164 u165 u166 u167 u168 u169 : Value} {va vb : Int}
    (la : Lt 3840 va)
    (hb : Below w.heap.size w wr) (h0 : w.heap.size ≤ g2)
    (o3 : g2 < g3)
    (b2 : Bx wr g2 (va)) (b3 : Bx wr g3 (vb)) :
    Code.wp Tryd.prog (tail11 3) (Q11 w) ⟨#[u0, u1, .pointer (some ⟨g2, 0, none⟩), .pointer (some ⟨g3, 0, none⟩), u4, .bool true, u6, u7, u8, u9, u10, u11, u12, u13, u14, u15, u16, u17, u18, u19, u20, u21, u22, u23, u24, u25, u26, u27, u28, u29, u30, u31, u32, u33, u34, u35, u36, u37, u38, u39, u40, u41, u42, u43, u44, u45, u46, u47, u48, u49, u50, u51, u52, u53, u54, u55, u56, u57, u58, u59, u60, u61, u62, u63, u64, u65, u66, u67, u68, u69, u70, u71, u72, u73, u74, u75, u76, u77, u78, u79, u80, u81, u82, u83, u84, u85, u86, u87, u88, u89, u90, u91, u92, u93, u94, u95, u96, u97, u98, u99, u100, u101, u102, u103, u104, u105, u106, u107, u108, u109, u110, u111, u112, u113, u114, u115, u116, u117, u118, u119, u120, u121, u122, u123, u124, u125, u126, u127, u128, u129, u130, u131, u132, u133, u134, u135, u136, u137, u138, u139, u140, u141, u142, u143, u144, u145, u146, u147, u148, u149, u150, u151, u152, u153, u154, u155, u156, u157, u158, u159, u160, u161, u162, u163, u164, u165, u166, u167, u168, u169], []⟩ wr := by
  have b3' := b3
  obtain ⟨nA, aA, lA, cA, A, hHA, hRA, hEA⟩ := b3'
  obtain ⟨kA0, kA1, _, _⟩ := two_cells hHA
  have HEA := hid hEA
  clear hEA hHA
  show Code.wp Tryd.prog (Code.seq (head11 3) (tail11 4)) _ _ _
  conv => arg 2; arg 1; whnf
  go_wp2_with fail
  refine (few_any nA aA lA cA A 120 _ hRA (by decide) (by decide)).mono ?_
  rintro e w2 ⟨ao2, len2, cap2, rfl, hR2, hb2⟩
  have hlt : Lt 3840 (num nA (A.take 120)) := lt_take hRA.ok _ rfl
  obtain ⟨nP, aP, lP, cP, P, hHP, _, _⟩ := b3.keep hb2
  obtain ⟨kP0, kP1, kP2, kP3⟩ := two_cells hHP
  clear hHP
  go_wp2
  have hb3 := hb.trans (hb2.mono hb.size)
  exact PA_4 la hlt (below_put hb3 (by omega) _ _) h0 o3 ((b2.keep hb2).put_other (b3.keep hb2) (by omega) _ _) ((b3.keep hb2).put hR2 rfl)

set_option maxRecDepth 100000 in
set_option maxHeartbeats 2000000 in
theorem PA_2 {w wr : World} {g2 g3 : Nat} {u0 u1 u4 u6 u7 u8 u9 u10 u11 u12 u13 u14 u15 u16 u17 u18 u19 u20 u21 u22 u23 u24 u25 u26 u27 u28 u29 u30 u31 u32 u33 u34 u35 u36 u37 u38 u39 u40 u41 u42 u43 u44 u45 u46 u47 u48 u49 u50 u51 u52 u53 u54 u55 u56 u57 u58 u59 u60 u61 u62 u63 u64 u65 u66 u67 u68 u69 u70 u71 u72 u73 u74 u75 u76 u77 u78 u79 u80 u81 u82 u83 u84 u85 u86 u87 u88 u89 u90 u91 u92 u93 u94 u95 u96 u97 u98 u99 u100 u101 u102 u103 u104 u105 u106 u107 u108 u109 u110 u111 u112 u113 u114 u115 u116 u117 u118 u119 u120 u121 u122 u123 u124 u125 u126 u127 u128 u129 u130 u131 u132 u133 u134 u135 u136 u137 u138 u139 u140 u141 u142 u143 u144 u145 u146 u147 u148 u149 u150 u151 u152 u153 u154 u155 u156 u157 u158 u159 u160 u161 u162 u163 u164 u165 u166 u167 u168 u169 : Value} {va vb : Int}
    
    (hb : Below w.heap.size w wr) (h0 : w.heap.size ≤ g2)
    (o3 : g2 < g3)
    (b2 : Bx wr g2 (va)) (b3 : Bx wr g3 (vb)) :
    Code.wp Tryd.prog (tail11 2) (Q11 w) ⟨#[u0, u1, .pointer (some ⟨g2, 0, none⟩), .pointer (some ⟨g3, 0, none⟩), u4, .bool true, u6, u7, u8, u9, u10, u11, u12, u13, u14, u15, u16, u17, u18, u19, u20, u21, u22, u23, u24, u25, u26, u27, u28, u29, u30, u31, u32, u33, u34, u35, u36, u37, u38, u39, u40, u41, u42, u43, u44, u45, u46, u47, u48, u49, u50, u51, u52, u53, u54, u55, u56, u57, u58, u59, u60, u61, u62, u63, u64, u65, u66, u67, u68, u69, u70, u71, u72, u73, u74, u75, u76, u77, u78, u79, u80, u81, u82, u83, u84, u85, u86, u87, u88, u89, u90, u91, u92, u93, u94, u95, u96, u97, u98, u99, u100, u101, u102, u103, u104, u105, u106, u107, u108, u109, u110, u111, u112, u113, u114, u115, u116, u117, u118, u119, u120, u121, u122, u123, u124, u125, u126, u127, u128, u129, u130, u131, u132, u133, u134, u135, u136, u137, u138, u139, u140, u141, u142, u143, u144, u145, u146, u147, u148, u149, u150, u151, u152, u153, u154, u155, u156, u157, u158, u159, u160, u161, u162, u163, u164, u165, u166, u167, u168, u169], []⟩ wr := by
  have b2' := b2
  obtain ⟨nA, aA, lA, cA, A, hHA, hRA, hEA⟩ := b2'
  obtain ⟨kA0, kA1, _, _⟩ := two_cells hHA
  have HEA := hid hEA
  clear hEA hHA
  show Code.wp Tryd.prog (Code.seq (head11 2) (tail11 3)) _ _ _
  conv => arg 2; arg 1; whnf
  go_wp2_with fail
  refine (few_any nA aA lA cA A 120 _ hRA (by decide) (by decide)).mono ?_
  rintro e w2 ⟨ao2, len2, cap2, rfl, hR2, hb2⟩
  have hlt : Lt 3840 (num nA (A.take 120)) := lt_take hRA.ok _ rfl
  obtain ⟨nP, aP, lP, cP, P, hHP, _, _⟩ := b2.keep hb2
  obtain ⟨kP0, kP1, kP2, kP3⟩ := two_cells hHP
  clear hHP
  go_wp2
  have hb3 := hb.trans (hb2.mono hb.size)
  exact PA_3 hlt (below_put hb3 (by omega) _ _) h0 o3 ((b2.keep hb2).put hR2 rfl) ((b3.keep hb2).put_other (b2.keep hb2) (by omega) _ _)

set_option maxRecDepth 100000 in
set_option maxHeartbeats 2000000 in
theorem parts_yes {na : Bool} {aa : Option Addr} {la ca : Nat} {A : List Nat} {nb : Bool} {ab : Option Addr} {lb cb : Nat} {B : List Nat} (w : World) (hA : Rd w aa la ca A) (hB : Rd w ab lb cb B) :
    Calls Tryd.prog 11 #[.agg #[.bool na, .slice aa la ca], .agg #[.bool nb, .slice ab lb cb]] w fun e w' => e = .returned (.bool true) ∧ Below w.heap.size w w' := by
  have X0 := (Bx.new (n := na) hA rfl).alloc (.cells #[.bool nb, .slice ab lb cb] 24)
  have X1 := Bx.new (n := nb) (hB.alloc (.cells #[.bool na, .slice aa la ca] 24)) rfl
  rw [show (w.alloc (.cells #[.bool na, .slice aa la ca] 24)).heap.size = w.heap.size + 1 by simp] at X1
  have hb := ((Below.refl w.heap.size w).alloc (Nat.le_refl _) (.cells #[.bool na, .slice aa la ca] 24)).alloc (by simp) (.cells #[.bool nb, .slice ab lb cb] 24)
  go_enter Tryd.func11, Tryd.ntmps11
  change Code.wp Tryd.prog (Code.seq (head11 0) (tail11 1)) (Q11 w) _ _
  conv => arg 2; arg 1; whnf
  go_wp2
  show Code.wp Tryd.prog (Code.seq (head11 1) (tail11 2)) _ _ _
  conv => arg 2; arg 1; whnf
  go_wp2_with fail
  refine (awake_yes _).mono ?_
  rintro e w2 ⟨rfl, hb2⟩
  go_wp2
  exact PA_2 (hb.trans (hb2.mono hb.size)) (Nat.le_refl _) (by simp) (X0.keep hb2) (X1.keep hb2)
end Go.Proofs.YtldafoojkimdeaaDoor
