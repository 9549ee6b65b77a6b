/- The law BigintSets, region by region. -/
import Derived.Test.YtldafoojkimdeaaDoorW35
import Derived.Test.YtldafoojkimdeaaDoorW46
namespace Go.Proofs.YtldafoojkimdeaaDoor
open Go.RowKit Lm

theorem Lt.bop {m k : Nat} {f : Nat → Nat → Nat} (hf : Even f) (hm : m < 400) (hk : k = 32 * m) {u v : Int} (h : Lt k u) (h' : Lt k v) : Lt (k + 1) (Lm.bop f u v) := by
  subst hk
  unfold Lt at *
  rw [← P_two] at h h'
  have := bop_le hf hm h h'
  rw [P_two] at this
  exact Nat.lt_of_le_of_lt this (Nat.pow_lt_pow_right (by decide) (by omega))
theorem Lt.toP {v : Int} {k m : Nat} (h : Lt k v) (hk : k ≤ 32 * m) : v.natAbs < P m := by rw [P_two]; exact h.mono hk
theorem Lt.p390 {v : Int} (h : Lt 3200 v) : v.natAbs < P 390 := h.toP (by decide)
theorem Lt.nought (k : Nat) : Lt k 0 := Nat.two_pow_pos _
theorem Lt.one : Lt 1 (-1) := by unfold Lt; decide
noncomputable def tail13 (n : Nat) : Code := seqDrop n (Tryd.f13.body.getD .skip)
noncomputable def head13 (n : Nat) : Code := seqHead (tail13 n)
noncomputable def Q13 (w : World) : Exit → Act → World → Prop := bodyPost Tryd.prog Tryd.f13 fun e w' => e = .returned (.bool true) ∧ Below w.heap.size w w'

set_option maxRecDepth 100000 in
set_option maxHeartbeats 2000000 in
theorem SE_21 {w wr : World} {g3 g4 g5 g8 g10 g12 g14 g16 g19 g21 g24 g26 g29 g31 g33 : Nat} {u0 u1 u2 u6 u9 u13 u15 u20 u30 u36 u37 u38 u39 u40 u41 u42 u43 u44 u45 u46 u47 u48 u49 u50 u51 u52 u53 u54 u55 u56 u57 u58 u59 u60 u61 u62 u63 u64 u65 u66 u67 u68 u69 u70 u71 u72 u73 u74 u75 u76 u77 u78 u79 u80 u81 u82 u83 u84 u85 u86 u87 u88 u89 u90 u91 u92 u93 u94 u95 u96 u97 u98 u99 u100 u101 u102 u103 u104 u105 u106 u107 u108 u109 u110 u111 u112 u113 u114 u115 u116 u117 u118 u119 u120 u121 u122 u123 u124 u125 u126 u127 u128 u129 u130 u131 u132 u133 u134 u135 u136 u137 u138 u139 u140 u141 u142 u143 u144 u145 : Value} {va vb vc : Int}
    (_la : Lt 3200 va) (_lb : Lt 3200 vb) (_lc : Lt 3200 vc)
    (hb : Below w.heap.size w wr) (_h0 : w.heap.size ≤ g3)
    (_o4 : g3 < g4) (_o5 : g4 < g5) (_o8 : g5 < g8) (_o10 : g8 < g10) (_o12 : g10 < g12) (_o14 : g12 < g14) (_o16 : g14 < g16) (_o19 : g16 < g19) (_o21 : g19 < g21) (_o24 : g21 < g24) (_o26 : g24 < g26) (_o29 : g26 < g29) (_o31 : g29 < g31) (_o33 : g31 < g33)
    (_b3 : Bx wr g3 (va)) (_b4 : Bx wr g4 (vb)) (_b5 : Bx wr g5 (vc)) (_b8 : Bx wr g8 (bop lorf vb vc)) (_b10 : Bx wr g10 (bop landf va (bop lorf vb vc))) (_b12 : Bx wr g12 (bop landf va vb)) (_b14 : Bx wr g14 (bop landf va vc)) (_b16 : Bx wr g16 (bop lorf (bop landf va vb) (bop landf va vc))) (_b19 : Bx wr g19 (bop lxorf va vb)) (_b21 : Bx wr g21 (bop lxorf (bop lxorf va vb) vb)) (_b24 : Bx wr g24 (bop lnotf va 0)) (_b26 : Bx wr g26 (-1 - va)) (_b29 : Bx wr g29 (bop lorf va vb)) (_b31 : Bx wr g31 (bop landf va vb + bop lorf va vb)) (_b33 : Bx wr g33 (va + vb)) :
    Code.wp Tryd.prog (tail13 21) (Q13 w) ⟨#[u0, u1, u2, .pointer (some ⟨g3, 0, none⟩), .pointer (some ⟨g4, 0, none⟩), .pointer (some ⟨g5, 0, none⟩), u6, .bool true, .pointer (some ⟨g8, 0, none⟩), u9, .pointer (some ⟨g10, 0, none⟩), .int .i64 0, .pointer (some ⟨g12, 0, none⟩), u13, .pointer (some ⟨g14, 0, none⟩), u15, .pointer (some ⟨g16, 0, none⟩), .int .i64 0, .bool true, .pointer (some ⟨g19, 0, none⟩), u20, .pointer (some ⟨g21, 0, none⟩), .int .i64 0, .bool true, .pointer (some ⟨g24, 0, none⟩), .int .i64 0, .pointer (some ⟨g26, 0, none⟩), .int .i64 0, .bool true, .pointer (some ⟨g29, 0, none⟩), u30, .pointer (some ⟨g31, 0, none⟩), .int .i64 0, .pointer (some ⟨g33, 0, none⟩), .int .i64 0, .bool true, u36, u37, u38, u39, u40, u41, u42, u43, u44, u45, u46, u47, u48, u49, u50, u51, u52, u53, u54, u55, u56, u57, u58, u59, u60, u61, u62, u63, u64, u65, u66, u67, u68, u69, u70, u71, u72, u73, u74, u75, u76, u77, u78, u79, u80, u81, u82, u83, u84, u85, u86, u87, u88, u89, u90, u91, u92, u93, u94, u95, u96, u97, u98, u99, u100, u101, u102, u103, u104, u105, u106, u107, u108, u109, u110, u111, u112, u113, u114, u115, u116, u117, u118, u119, u120, u121, u122, u123, u124, u125, u126, u127, u128, u129, u130, u131, u132, u133, u134, u135, u136, u137, u138, u139, u140, u141, u142, u143, u144, u145], []⟩ wr := by
  conv => arg 2; whnf
  unfold Q13
  go_wp2
  go_ret
  exact ⟨rfl, hb⟩

set_option maxRecDepth 100000 in
set_option maxHeartbeats 2000000 in
theorem SE_20 {w wr : World} {g3 g4 g5 g8 g10 g12 g14 g16 g19 g21 g24 g26 g29 g31 g33 : Nat} {u0 u1 u2 u6 u9 u13 u15 u20 u30 u35 u36 u37 u38 u39 u40 u41 u42 u43 u44 u45 u46 u47 u48 u49 u50 u51 u52 u53 u54 u55 u56 u57 u58 u59 u60 u61 u62 u63 u64 u65 u66 u67 u68 u69 u70 u71 u72 u73 u74 u75 u76 u77 u78 u79 u80 u81 u82 u83 u84 u85 u86 u87 u88 u89 u90 u91 u92 u93 u94 u95 u96 u97 u98 u99 u100 u101 u102 u103 u104 u105 u106 u107 u108 u109 u110 u111 u112 u113 u114 u115 u116 u117 u118 u119 u120 u121 u122 u123 u124 u125 u126 u127 u128 u129 u130 u131 u132 u133 u134 u135 u136 u137 u138 u139 u140 u141 u142 u143 u144 u145 : Value} {va vb vc : Int}
    (la : Lt 3200 va) (lb : Lt 3200 vb) (lc : Lt 3200 vc)
    (hb : Below w.heap.size w wr) (h0 : w.heap.size ≤ g3)
    (o4 : g3 < g4) (o5 : g4 < g5) (o8 : g5 < g8) (o10 : g8 < g10) (o12 : g10 < g12) (o14 : g12 < g14) (o16 : g14 < g16) (o19 : g16 < g19) (o21 : g19 < g21) (o24 : g21 < g24) (o26 : g24 < g26) (o29 : g26 < g29) (o31 : g29 < g31) (o33 : g31 < g33)
    (b3 : Bx wr g3 (va)) (b4 : Bx wr g4 (vb)) (b5 : Bx wr g5 (vc)) (b8 : Bx wr g8 (bop lorf vb vc)) (b10 : Bx wr g10 (bop landf va (bop lorf vb vc))) (b12 : Bx wr g12 (bop landf va vb)) (b14 : Bx wr g14 (bop landf va vc)) (b16 : Bx wr g16 (bop lorf (bop landf va vb) (bop landf va vc))) (b19 : Bx wr g19 (bop lxorf va vb)) (b21 : Bx wr g21 (bop lxorf (bop lxorf va vb) vb)) (b24 : Bx wr g24 (bop lnotf va 0)) (b26 : Bx wr g26 (-1 - va)) (b29 : Bx wr g29 (bop lorf va vb)) (b31 : Bx wr g31 (bop landf va vb + bop lorf va vb)) (b33 : Bx wr g33 (va + vb)) :
    Code.wp Tryd.prog (tail13 20) (Q13 w) ⟨#[u0, u1, u2, .pointer (some ⟨g3, 0, none⟩), .pointer (some ⟨g4, 0, none⟩), .pointer (some ⟨g5, 0, none⟩), u6, .bool true, .pointer (some ⟨g8, 0, none⟩), u9, .pointer (some ⟨g10, 0, none⟩), .int .i64 0, .pointer (some ⟨g12, 0, none⟩), u13, .pointer (some ⟨g14, 0, none⟩), u15, .pointer (some ⟨g16, 0, none⟩), .int .i64 0, .bool true, .pointer (some ⟨g19, 0, none⟩), u20, .pointer (some ⟨g21, 0, none⟩), .int .i64 0, .bool true, .pointer (some ⟨g24, 0, none⟩), .int .i64 0, .pointer (some ⟨g26, 0, none⟩), .int .i64 0, .bool true, .pointer (some ⟨g29, 0, none⟩), u30, .pointer (some ⟨g31, 0, none⟩), .int .i64 0, .pointer (some ⟨g33, 0, none⟩), .int .i64 0, u35, u36, u37, u38, u39, u40, u41, u42, u43, u44, u45, u46, u47, u48, u49, u50, u51, u52, u53, u54, u55, u56, u57, u58, u59, u60, u61, u62, u63, u64, u65, u66, u67, u68, u69, u70, u71, u72, u73, u74, u75, u76, u77, u78, u79, u80, u81, u82, u83, u84, u85, u86, u87, u88, u89, u90, u91, u92, u93, u94, u95, u96, u97, u98, u99, u100, u101, u102, u103, u104, u105, u106, u107, u108, u109, u110, u111, u112, u113, u114, u115, u116, u117, u118, u119, u120, u121, u122, u123, u124, u125, u126, u127, u128, u129, u130, u131, u132, u133, u134, u135, u136, u137, u138, u139, u140, u141, u142, u143, u144, u145], []⟩ wr := by
  have b31' := b31
  obtain ⟨nA, aA, lA, cA, A, hHA, hRA, hEA⟩ := b31'
  obtain ⟨kA0, kA1, _, _⟩ := two_cells hHA
  have HEA := hid hEA
  clear hEA hHA
  have b33' := b33
  obtain ⟨nB, aB, lB, cB, B, hHB, hRB, hEB⟩ := b33'
  obtain ⟨kB0, kB1, _, _⟩ := two_cells hHB
  have HEB := hid hEB
  clear hEB hHB
  show Code.wp Tryd.prog (Code.seq (head13 20) (tail13 21)) _ _ _
  conv => arg 2; arg 1; whnf
  go_wp2_with fail
  refine (same_yes _ 0 hRA hRB (by rw [HEA.out, HEB.out]; exact bop_sum _ _ la.p390 lb.p390)).mono ?_
  rintro e w2 ⟨rfl, hb2⟩
  go_wp2
  exact SE_21 la lb lc (hb.trans (hb2.mono hb.size)) h0 o4 o5 o8 o10 o12 o14 o16 o19 o21 o24 o26 o29 o31 o33 (b3.keep hb2) (b4.keep hb2) (b5.keep hb2) (b8.keep hb2) (b10.keep hb2) (b12.keep hb2) (b14.keep hb2) (b16.keep hb2) (b19.keep hb2) (b21.keep hb2) (b24.keep hb2) (b26.keep hb2) (b29.keep hb2) (b31.keep hb2) (b33.keep hb2)

set_option maxRecDepth 100000 in
set_option maxHeartbeats 2000000 in
theorem SE_19 {w wr : World} {g3 g4 g5 g8 g10 g12 g14 g16 g19 g21 g24 g26 g29 g31 : Nat} {u0 u1 u2 u6 u9 u13 u15 u20 u30 u33 u34 u35 u36 u37 u38 u39 u40 u41 u42 u43 u44 u45 u46 u47 u48 u49 u50 u51 u52 u53 u54 u55 u56 u57 u58 u59 u60 u61 u62 u63 u64 u65 u66 u67 u68 u69 u70 u71 u72 u73 u74 u75 u76 u77 u78 u79 u80 u81 u82 u83 u84 u85 u86 u87 u88 u89 u90 u91 u92 u93 u94 u95 u96 u97 u98 u99 u100 u101 u102 u103 u104 u105 u106 u107 u108 u109 u110 u111 u112 u113 u114 u115 u116 u117 u118 u119 u120 u121 u122 u123 u124 u125 u126 u127 u128 u129 u130 u131 u132 u133 u134 u135 u136 u137 u138 u139 u140 u141 u142 u143 u144 u145 : Value} {va vb vc : Int}
    (la : Lt 3200 va) (lb : Lt 3200 vb) (lc : Lt 3200 vc)
    (hb : Below w.heap.size w wr) (h0 : w.heap.size ≤ g3)
    (o4 : g3 < g4) (o5 : g4 < g5) (o8 : g5 < g8) (o10 : g8 < g10) (o12 : g10 < g12) (o14 : g12 < g14) (o16 : g14 < g16) (o19 : g16 < g19) (o21 : g19 < g21) (o24 : g21 < g24) (o26 : g24 < g26) (o29 : g26 < g29) (o31 : g29 < g31)
    (b3 : Bx wr g3 (va)) (b4 : Bx wr g4 (vb)) (b5 : Bx wr g5 (vc)) (b8 : Bx wr g8 (bop lorf vb vc)) (b10 : Bx wr g10 (bop landf va (bop lorf vb vc))) (b12 : Bx wr g12 (bop landf va vb)) (b14 : Bx wr g14 (bop landf va vc)) (b16 : Bx wr g16 (bop lorf (bop landf va vb) (bop landf va vc))) (b19 : Bx wr g19 (bop lxorf va vb)) (b21 : Bx wr g21 (bop lxorf (bop lxorf va vb) vb)) (b24 : Bx wr g24 (bop lnotf va 0)) (b26 : Bx wr g26 (-1 - va)) (b29 : Bx wr g29 (bop lorf va vb)) (b31 : Bx wr g31 (bop landf va vb + bop lorf va vb)) :
    Code.wp Tryd.prog (tail13 19) (Q13 w) ⟨#[u0, u1, u2, .pointer (some ⟨g3, 0, none⟩), .pointer (some ⟨g4, 0, none⟩), .pointer (some ⟨g5, 0, none⟩), u6, .bool true, .pointer (some ⟨g8, 0, none⟩), u9, .pointer (some ⟨g10, 0, none⟩), .int .i64 0, .pointer (some ⟨g12, 0, none⟩), u13, .pointer (some ⟨g14, 0, none⟩), u15, .pointer (some ⟨g16, 0, none⟩), .int .i64 0, .bool true, .pointer (some ⟨g19, 0, none⟩), u20, .pointer (some ⟨g21, 0, none⟩), .int .i64 0, .bool true, .pointer (some ⟨g24, 0, none⟩), .int .i64 0, .pointer (some ⟨g26, 0, none⟩), .int .i64 0, .bool true, .pointer (some ⟨g29, 0, none⟩), u30, .pointer (some ⟨g31, 0, none⟩), .int .i64 0, u33, u34, u35, u36, u37, u38, u39, u40, u41, u42, u43, u44, u45, u46, u47, u48, u49, u50, u51, u52, u53, u54, u55, u56, u57, u58, u59, u60, u61, u62, u63, u64, u65, u66, u67, u68, u69, u70, u71, u72, u73, u74, u75, u76, u77, u78, u79, u80, u81, u82, u83, u84, u85, u86, u87, u88, u89, u90, u91, u92, u93, u94, u95, u96, u97, u98, u99, u100, u101, u102, u103, u104, u105, u106, u107, u108, u109, u110, u111, u112, u113, u114, u115, u116, u117, u118, u119, u120, u121, u122, u123, u124, u125, u126, u127, u128, u129, u130, u131, u132, u133, u134, u135, u136, u137, u138, u139, u140, u141, u142, u143, u144, u145], []⟩ wr := by
  have b3' := b3
  obtain ⟨nA, aA, lA, cA, A, hHA, hRA, hEA⟩ := b3'
  obtain ⟨kA0, kA1, _, _⟩ := two_cells hHA
  have HEA := hid hEA
  clear hEA hHA
  have b4' := b4
  obtain ⟨nB, aB, lB, cB, B, hHB, hRB, hEB⟩ := b4'
  obtain ⟨kB0, kB1, _, _⟩ := two_cells hHB
  have HEB := hid hEB
  clear hEB hHB
  show Code.wp Tryd.prog (Code.seq (head13 19) (tail13 20)) _ _ _
  conv => arg 2; arg 1; whnf
  go_wp2_with fail
  refine (add_ok _ hRA hRB HEA.out HEB.out ((la).sm (by decide)) ((lb).sm (by decide)) ((Lt.add la lb).sm (by decide))).mono ?_
  rintro e w2 ⟨n2, ao2, len2, C2, rfl, hR2, hE2, hb2⟩
  have HE2 := hid hE2
  clear hE2
  go_wp2
  have hlast : g31 < w2.heap.size := (b31.keep hb2).lt
  have hb3 := hb.trans (hb2.mono hb.size)
  exact SE_20 la lb lc (hb3.alloc hb3.size _) h0 o4 o5 o8 o10 o12 o14 o16 o19 o21 o24 o26 o29 o31 hlast ((b3.keep hb2).alloc _) ((b4.keep hb2).alloc _) ((b5.keep hb2).alloc _) ((b8.keep hb2).alloc _) ((b10.keep hb2).alloc _) ((b12.keep hb2).alloc _) ((b14.keep hb2).alloc _) ((b16.keep hb2).alloc _) ((b19.keep hb2).alloc _) ((b21.keep hb2).alloc _) ((b24.keep hb2).alloc _) ((b26.keep hb2).alloc _) ((b29.keep hb2).alloc _) ((b31.keep hb2).alloc _) (Bx.new hR2 HE2.out)

set_option maxRecDepth 100000 in
set_option maxHeartbeats 2000000 in
theorem SE_18 {w wr : World} {g3 g4 g5 g8 g10 g12 g14 g16 g19 g21 g24 g26 g29 : Nat} {u0 u1 u2 u6 u9 u13 u15 u20 u30 u31 u32 u33 u34 u35 u36 u37 u38 u39 u40 u41 u42 u43 u44 u45 u46 u47 u48 u49 u50 u51 u52 u53 u54 u55 u56 u57 u58 u59 u60 u61 u62 u63 u64 u65 u66 u67 u68 u69 u70 u71 u72 u73 u74 u75 u76 u77 u78 u79 u80 u81 u82 u83 u84 u85 u86 u87 u88 u89 u90 u91 u92 u93 u94 u95 u96 u97 u98 u99 u100 u101 u102 u103 u104 u105 u106 u107 u108 u109 u110 u111 u112 u113 u114 u115 u116 u117 u118 u119 u120 u121 u122 u123 u124 u125 u126 u127 u128 u129 u130 u131 u132 u133 u134 u135 u136 u137 u138 u139 u140 u141 u142 u143 u144 u145 : Value} {va vb vc : Int}
    (la : Lt 3200 va) (lb : Lt 3200 vb) (lc : Lt 3200 vc)
    (hb : Below w.heap.size w wr) (h0 : w.heap.size ≤ g3)
    (o4 : g3 < g4) (o5 : g4 < g5) (o8 : g5 < g8) (o10 : g8 < g10) (o12 : g10 < g12) (o14 : g12 < g14) (o16 : g14 < g16) (o19 : g16 < g19) (o21 : g19 < g21) (o24 : g21 < g24) (o26 : g24 < g26) (o29 : g26 < g29)
    (b3 : Bx wr g3 (va)) (b4 : Bx wr g4 (vb)) (b5 : Bx wr g5 (vc)) (b8 : Bx wr g8 (bop lorf vb vc)) (b10 : Bx wr g10 (bop landf va (bop lorf vb vc))) (b12 : Bx wr g12 (bop landf va vb)) (b14 : Bx wr g14 (bop landf va vc)) (b16 : Bx wr g16 (bop lorf (bop landf va vb) (bop landf va vc))) (b19 : Bx wr g19 (bop lxorf va vb)) (b21 : Bx wr g21 (bop lxorf (bop lxorf va vb) vb)) (b24 : Bx wr g24 (bop lnotf va 0)) (b26 : Bx wr g26 (-1 - va)) (b29 : Bx wr g29 (bop lorf va vb)) :
    Code.wp Tryd.prog (tail13 18) (Q13 w) ⟨#[u0, u1, u2, .pointer (some ⟨g3, 0, none⟩), .pointer (some ⟨g4, 0, none⟩), .pointer (some ⟨g5, 0, none⟩), u6, .bool true, .pointer (some ⟨g8, 0, none⟩), u9, .pointer (some ⟨g10, 0, none⟩), .int .i64 0, .pointer (some ⟨g12, 0, none⟩), u13, .pointer (some ⟨g14, 0, none⟩), u15, .pointer (some ⟨g16, 0, none⟩), .int .i64 0, .bool true, .pointer (some ⟨g19, 0, none⟩), u20, .pointer (some ⟨g21, 0, none⟩), .int .i64 0, .bool true, .pointer (some ⟨g24, 0, none⟩), .int .i64 0, .pointer (some ⟨g26, 0, none⟩), .int .i64 0, .bool true, .pointer (some ⟨g29, 0, none⟩), u30, u31, u32, u33, u34, u35, u36, u37, u38, u39, u40, u41, u42, u43, u44, u45, u46, u47, u48, u49, u50, u51, u52, u53, u54, u55, u56, u57, u58, u59, u60, u61, u62, u63, u64, u65, u66, u67, u68, u69, u70, u71, u72, u73, u74, u75, u76, u77, u78, u79, u80, u81, u82, u83, u84, u85, u86, u87, u88, u89, u90, u91, u92, u93, u94, u95, u96, u97, u98, u99, u100, u101, u102, u103, u104, u105, u106, u107, u108, u109, u110, u111, u112, u113, u114, u115, u116, u117, u118, u119, u120, u121, u122, u123, u124, u125, u126, u127, u128, u129, u130, u131, u132, u133, u134, u135, u136, u137, u138, u139, u140, u141, u142, u143, u144, u145], []⟩ wr := by
  have b12' := b12
  obtain ⟨nA, aA, lA, cA, A, hHA, hRA, hEA⟩ := b12'
  obtain ⟨kA0, kA1, _, _⟩ := two_cells hHA
  have HEA := hid hEA
  clear hEA hHA
  have b29' := b29
  obtain ⟨nB, aB, lB, cB, B, hHB, hRB, hEB⟩ := b29'
  obtain ⟨kB0, kB1, _, _⟩ := two_cells hHB
  have HEB := hid hEB
  clear hEB hHB
  show Code.wp Tryd.prog (Code.seq (head13 18) (tail13 19)) _ _ _
  conv => arg 2; arg 1; whnf
  go_wp2_with fail
  refine (add_ok _ hRA hRB HEA.out HEB.out (((Lt.bop (m := 100) landf_even (by decide) rfl la lb)).sm (by decide)) (((Lt.bop (m := 100) lorf_even (by decide) rfl la lb)).sm (by decide)) ((Lt.add (Lt.bop (m := 100) landf_even (by decide) rfl la lb) (Lt.bop (m := 100) lorf_even (by decide) rfl la lb)).sm (by decide))).mono ?_
  rintro e w2 ⟨n2, ao2, len2, C2, rfl, hR2, hE2, hb2⟩
  have HE2 := hid hE2
  clear hE2
  go_wp2
  have hlast : g29 < w2.heap.size := (b29.keep hb2).lt
  have hb3 := hb.trans (hb2.mono hb.size)
  exact SE_19 la lb lc (hb3.alloc hb3.size _) h0 o4 o5 o8 o10 o12 o14 o16 o19 o21 o24 o26 o29 hlast ((b3.keep hb2).alloc _) ((b4.keep hb2).alloc _) ((b5.keep hb2).alloc _) ((b8.keep hb2).alloc _) ((b10.keep hb2).alloc _) ((b12.keep hb2).alloc _) ((b14.keep hb2).alloc _) ((b16.keep hb2).alloc _) ((b19.keep hb2).alloc _) ((b21.keep hb2).alloc _) ((b24.keep hb2).alloc _) ((b26.keep hb2).alloc _) ((b29.keep hb2).alloc _) (Bx.new hR2 HE2.out)

set_option maxRecDepth 100000 in
set_option maxHeartbeats 2000000 in
theorem SE_17 {w wr : World} {g3 g4 g5 g8 g10 g12 g14 g16 g19 g21 g24 g26 : Nat} {u0 u1 u2 u6 u9 u13 u15 u20 u29 u30 u31 u32 u33 u34 u35 u36 u37 u38 u39 u40 u41 u42 u43 u44 u45 u46 u47 u48 u49 u50 u51 u52 u53 u54 u55 u56 u57 u58 u59 u60 u61 u62 u63 u64 u65 u66 u67 u68 u69 u70 u71 u72 u73 u74 u75 u76 u77 u78 u79 u80 u81 u82 u83 u84 u85 u86 u87 u88 u89 u90 u91 u92 u93 u94 u95 u96 u97 u98 u99 u100 u101 u102 u103 u104 u105 u106 u107 u108 u109 u110 u111 u112 u113 u114 u115 u116 u117 u118 u119 u120 u121 u122 u123 u124 u125 u126 u127 u128 u129 u130 u131 u132 u133 u134 u135 u136 u137 u138 u139 u140 u141 u142 u143 u144 u145 : Value} {va vb vc : Int}
    (la : Lt 3200 va) (lb : Lt 3200 vb) (lc : Lt 3200 vc)
    (hb : Below w.heap.size w wr) (h0 : w.heap.size ≤ g3)
    (o4 : g3 < g4) (o5 : g4 < g5) (o8 : g5 < g8) (o10 : g8 < g10) (o12 : g10 < g12) (o14 : g12 < g14) (o16 : g14 < g16) (o19 : g16 < g19) (o21 : g19 < g21) (o24 : g21 < g24) (o26 : g24 < g26)
    (b3 : Bx wr g3 (va)) (b4 : Bx wr g4 (vb)) (b5 : Bx wr g5 (vc)) (b8 : Bx wr g8 (bop lorf vb vc)) (b10 : Bx wr g10 (bop landf va (bop lorf vb vc))) (b12 : Bx wr g12 (bop landf va vb)) (b14 : Bx wr g14 (bop landf va vc)) (b16 : Bx wr g16 (bop lorf (bop landf va vb) (bop landf va vc))) (b19 : Bx wr g19 (bop lxorf va vb)) (b21 : Bx wr g21 (bop lxorf (bop lxorf va vb) vb)) (b24 : Bx wr g24 (bop lnotf va 0)) (b26 : Bx wr g26 (-1 - va)) :
    Code.wp Tryd.prog (tail13 17) (Q13 w) ⟨#[u0, u1, u2, .pointer (some ⟨g3, 0, none⟩), .pointer (some ⟨g4, 0, none⟩), .pointer (some ⟨g5, 0, none⟩), u6, .bool true, .pointer (some ⟨g8, 0, none⟩), u9, .pointer (some ⟨g10, 0, none⟩), .int .i64 0, .pointer (some ⟨g12, 0, none⟩), u13, .pointer (some ⟨g14, 0, none⟩), u15, .pointer (some ⟨g16, 0, none⟩), .int .i64 0, .bool true, .pointer (some ⟨g19, 0, none⟩), u20, .pointer (some ⟨g21, 0, none⟩), .int .i64 0, .bool true, .pointer (some ⟨g24, 0, none⟩), .int .i64 0, .pointer (some ⟨g26, 0, none⟩), .int .i64 0, .bool true, u29, u30, u31, u32, u33, u34, u35, u36, u37, u38, u39, u40, u41, u42, u43, u44, u45, u46, u47, u48, u49, u50, u51, u52, u53, u54, u55, u56, u57, u58, u59, u60, u61, u62, u63, u64, u65, u66, u67, u68, u69, u70, u71, u72, u73, u74, u75, u76, u77, u78, u79, u80, u81, u82, u83, u84, u85, u86, u87, u88, u89, u90, u91, u92, u93, u94, u95, u96, u97, u98, u99, u100, u101, u102, u103, u104, u105, u106, u107, u108, u109, u110, u111, u112, u113, u114, u115, u116, u117, u118, u119, u120, u121, u122, u123, u124, u125, u126, u127, u128, u129, u130, u131, u132, u133, u134, u135, u136, u137, u138, u139, u140, u141, u142, u143, u144, u145], []⟩ wr := by
  have b3' := b3
  obtain ⟨nA, aA, lA, cA, A, hHA, hRA, hEA⟩ := b3'
  obtain ⟨kA0, kA1, _, _⟩ := two_cells hHA
  have HEA := hid hEA
  clear hEA hHA
  have b4' := b4
  obtain ⟨nB, aB, lB, cB, B, hHB, hRB, hEB⟩ := b4'
  obtain ⟨kB0, kB1, _, _⟩ := two_cells hHB
  have HEB := hid hEB
  clear hEB hHB
  show Code.wp Tryd.prog (Code.seq (head13 17) (tail13 18)) _ _ _
  conv => arg 2; arg 1; whnf
  go_wp2_with fail
  refine (or_ok _ hRA hRB HEA.out HEB.out ((la).sm (by decide)) ((lb).sm (by decide)) (((Lt.bop (m := 100) lorf_even (by decide) rfl la lb)).sm (by decide))).mono ?_
  rintro e w2 ⟨n2, ao2, len2, C2, rfl, hR2, hE2, hb2⟩
  have HE2 := hid hE2
  clear hE2
  go_wp2
  have hlast : g26 < w2.heap.size := (b26.keep hb2).lt
  have hb3 := hb.trans (hb2.mono hb.size)
  exact SE_18 la lb lc (hb3.alloc hb3.size _) h0 o4 o5 o8 o10 o12 o14 o16 o19 o21 o24 o26 hlast ((b3.keep hb2).alloc _) ((b4.keep hb2).alloc _) ((b5.keep hb2).alloc _) ((b8.keep hb2).alloc _) ((b10.keep hb2).alloc _) ((b12.keep hb2).alloc _) ((b14.keep hb2).alloc _) ((b16.keep hb2).alloc _) ((b19.keep hb2).alloc _) ((b21.keep hb2).alloc _) ((b24.keep hb2).alloc _) ((b26.keep hb2).alloc _) (Bx.new hR2 HE2.out)

set_option maxRecDepth 100000 in
set_option maxHeartbeats 2000000 in
theorem SE_16 {w wr : World} {g3 g4 g5 g8 g10 g12 g14 g16 g19 g21 g24 g26 : Nat} {u0 u1 u2 u6 u9 u13 u15 u20 u28 u29 u30 u31 u32 u33 u34 u35 u36 u37 u38 u39 u40 u41 u42 u43 u44 u45 u46 u47 u48 u49 u50 u51 u52 u53 u54 u55 u56 u57 u58 u59 u60 u61 u62 u63 u64 u65 u66 u67 u68 u69 u70 u71 u72 u73 u74 u75 u76 u77 u78 u79 u80 u81 u82 u83 u84 u85 u86 u87 u88 u89 u90 u91 u92 u93 u94 u95 u96 u97 u98 u99 u100 u101 u102 u103 u104 u105 u106 u107 u108 u109 u110 u111 u112 u113 u114 u115 u116 u117 u118 u119 u120 u121 u122 u123 u124 u125 u126 u127 u128 u129 u130 u131 u132 u133 u134 u135 u136 u137 u138 u139 u140 u141 u142 u143 u144 u145 : Value} {va vb vc : Int}
    (la : Lt 3200 va) (lb : Lt 3200 vb) (lc : Lt 3200 vc)
    (hb : Below w.heap.size w wr) (h0 : w.heap.size ≤ g3)
    (o4 : g3 < g4) (o5 : g4 < g5) (o8 : g5 < g8) (o10 : g8 < g10) (o12 : g10 < g12) (o14 : g12 < g14) (o16 : g14 < g16) (o19 : g16 < g19) (o21 : g19 < g21) (o24 : g21 < g24) (o26 : g24 < g26)
    (b3 : Bx wr g3 (va)) (b4 : Bx wr g4 (vb)) (b5 : Bx wr g5 (vc)) (b8 : Bx wr g8 (bop lorf vb vc)) (b10 : Bx wr g10 (bop landf va (bop lorf vb vc))) (b12 : Bx wr g12 (bop landf va vb)) (b14 : Bx wr g14 (bop landf va vc)) (b16 : Bx wr g16 (bop lorf (bop landf va vb) (bop landf va vc))) (b19 : Bx wr g19 (bop lxorf va vb)) (b21 : Bx wr g21 (bop lxorf (bop lxorf va vb) vb)) (b24 : Bx wr g24 (bop lnotf va 0)) (b26 : Bx wr g26 (-1 - va)) :
    Code.wp Tryd.prog (tail13 16) (Q13 w) ⟨#[u0, u1, u2, .pointer (some ⟨g3, 0, none⟩), .pointer (some ⟨g4, 0, none⟩), .pointer (some ⟨g5, 0, none⟩), u6, .bool true, .pointer (some ⟨g8, 0, none⟩), u9, .pointer (some ⟨g10, 0, none⟩), .int .i64 0, .pointer (some ⟨g12, 0, none⟩), u13, .pointer (some ⟨g14, 0, none⟩), u15, .pointer (some ⟨g16, 0, none⟩), .int .i64 0, .bool true, .pointer (some ⟨g19, 0, none⟩), u20, .pointer (some ⟨g21, 0, none⟩), .int .i64 0, .bool true, .pointer (some ⟨g24, 0, none⟩), .int .i64 0, .pointer (some ⟨g26, 0, none⟩), .int .i64 0, u28, u29, u30, u31, u32, u33, u34, u35, u36, u37, u38, u39, u40, u41, u42, u43, u44, u45, u46, u47, u48, u49, u50, u51, u52, u53, u54, u55, u56, u57, u58, u59, u60, u61, u62, u63, u64, u65, u66, u67, u68, u69, u70, u71, u72, u73, u74, u75, u76, u77, u78, u79, u80, u81, u82, u83, u84, u85, u86, u87, u88, u89, u90, u91, u92, u93, u94, u95, u96, u97, u98, u99, u100, u101, u102, u103, u104, u105, u106, u107, u108, u109, u110, u111, u112, u113, u114, u115, u116, u117, u118, u119, u120, u121, u122, u123, u124, u125, u126, u127, u128, u129, u130, u131, u132, u133, u134, u135, u136, u137, u138, u139, u140, u141, u142, u143, u144, u145], []⟩ wr := by
  have b24' := b24
  obtain ⟨nA, aA, lA, cA, A, hHA, hRA, hEA⟩ := b24'
  obtain ⟨kA0, kA1, _, _⟩ := two_cells hHA
  have HEA := hid hEA
  clear hEA hHA
  have b26' := b26
  obtain ⟨nB, aB, lB, cB, B, hHB, hRB, hEB⟩ := b26'
  obtain ⟨kB0, kB1, _, _⟩ := two_cells hHB
  have HEB := hid hEB
  clear hEB hHB
  show Code.wp Tryd.prog (Code.seq (head13 16) (tail13 17)) _ _ _
  conv => arg 2; arg 1; whnf
  go_wp2_with fail
  refine (same_yes _ 0 hRA hRB (by rw [HEA.out, HEB.out]; exact bop_not _ la.p390)).mono ?_
  rintro e w2 ⟨rfl, hb2⟩
  go_wp2
  exact SE_17 la lb lc (hb.trans (hb2.mono hb.size)) h0 o4 o5 o8 o10 o12 o14 o16 o19 o21 o24 o26 (b3.keep hb2) (b4.keep hb2) (b5.keep hb2) (b8.keep hb2) (b10.keep hb2) (b12.keep hb2) (b14.keep hb2) (b16.keep hb2) (b19.keep hb2) (b21.keep hb2) (b24.keep hb2) (b26.keep hb2)

set_option maxRecDepth 100000 in
set_option maxHeartbeats 2000000 in
theorem SE_15 {w wr : World} {g3 g4 g5 g8 g10 g12 g14 g16 g19 g21 g24 : Nat} {u0 u1 u2 u6 u9 u13 u15 u20 u26 u27 u28 u29 u30 u31 u32 u33 u34 u35 u36 u37 u38 u39 u40 u41 u42 u43 u44 u45 u46 u47 u48 u49 u50 u51 u52 u53 u54 u55 u56 u57 u58 u59 u60 u61 u62 u63 u64 u65 u66 u67 u68 u69 u70 u71 u72 u73 u74 u75 u76 u77 u78 u79 u80 u81 u82 u83 u84 u85 u86 u87 u88 u89 u90 u91 u92 u93 u94 u95 u96 u97 u98 u99 u100 u101 u102 u103 u104 u105 u106 u107 u108 u109 u110 u111 u112 u113 u114 u115 u116 u117 u118 u119 u120 u121 u122 u123 u124 u125 u126 u127 u128 u129 u130 u131 u132 u133 u134 u135 u136 u137 u138 u139 u140 u141 u142 u143 u144 u145 : Value} {va vb vc : Int}
    (la : Lt 3200 va) (lb : Lt 3200 vb) (lc : Lt 3200 vc)
    (hb : Below w.heap.size w wr) (h0 : w.heap.size ≤ g3)
    (o4 : g3 < g4) (o5 : g4 < g5) (o8 : g5 < g8) (o10 : g8 < g10) (o12 : g10 < g12) (o14 : g12 < g14) (o16 : g14 < g16) (o19 : g16 < g19) (o21 : g19 < g21) (o24 : g21 < g24)
    (b3 : Bx wr g3 (va)) (b4 : Bx wr g4 (vb)) (b5 : Bx wr g5 (vc)) (b8 : Bx wr g8 (bop lorf vb vc)) (b10 : Bx wr g10 (bop landf va (bop lorf vb vc))) (b12 : Bx wr g12 (bop landf va vb)) (b14 : Bx wr g14 (bop landf va vc)) (b16 : Bx wr g16 (bop lorf (bop landf va vb) (bop landf va vc))) (b19 : Bx wr g19 (bop lxorf va vb)) (b21 : Bx wr g21 (bop lxorf (bop lxorf va vb) vb)) (b24 : Bx wr g24 (bop lnotf va 0)) :
    Code.wp Tryd.prog (tail13 15) (Q13 w) ⟨#[u0, u1, u2, .pointer (some ⟨g3, 0, none⟩), .pointer (some ⟨g4, 0, none⟩), .pointer (some ⟨g5, 0, none⟩), u6, .bool true, .pointer (some ⟨g8, 0, none⟩), u9, .pointer (some ⟨g10, 0, none⟩), .int .i64 0, .pointer (some ⟨g12, 0, none⟩), u13, .pointer (some ⟨g14, 0, none⟩), u15, .pointer (some ⟨g16, 0, none⟩), .int .i64 0, .bool true, .pointer (some ⟨g19, 0, none⟩), u20, .pointer (some ⟨g21, 0, none⟩), .int .i64 0, .bool true, .pointer (some ⟨g24, 0, none⟩), .int .i64 0, u26, u27, u28, u29, u30, u31, u32, u33, u34, u35, u36, u37, u38, u39, u40, u41, u42, u43, u44, u45, u46, u47, u48, u49, u50, u51, u52, u53, u54, u55, u56, u57, u58, u59, u60, u61, u62, u63, u64, u65, u66, u67, u68, u69, u70, u71, u72, u73, u74, u75, u76, u77, u78, u79, u80, u81, u82, u83, u84, u85, u86, u87, u88, u89, u90, u91, u92, u93, u94, u95, u96, u97, u98, u99, u100, u101, u102, u103, u104, u105, u106, u107, u108, u109, u110, u111, u112, u113, u114, u115, u116, u117, u118, u119, u120, u121, u122, u123, u124, u125, u126, u127, u128, u129, u130, u131, u132, u133, u134, u135, u136, u137, u138, u139, u140, u141, u142, u143, u144, u145], []⟩ wr := by
  have b3' := b3
  obtain ⟨nA, aA, lA, cA, A, hHA, hRA, hEA⟩ := b3'
  obtain ⟨kA0, kA1, _, _⟩ := two_cells hHA
  have HEA := hid hEA
  have HHA := hid hHA
  have HHD := hid (show wr.drew.heap[g3]? = _ from hHA)
  clear hEA hHA
  show Code.wp Tryd.prog (Code.seq (head13 15) (tail13 16)) _ _ _
  conv => arg 2; arg 1; whnf
  go_wp2_with fail
  have bx0 := hid (show (wr.alloc (.cells #[.bool false, .slice none 0 0] 24)).drew.heap[wr.heap.size]? = _ from heap_alloc_new wr (.cells #[.bool false, .slice none 0 0] 24))
  have HHB := hid (show (wr.alloc (.cells #[.bool false, .slice none 0 0] 24)).drew.heap[g3]? = _ from hpS (.cells #[.bool false, .slice none 0 0] 24) HHA.out)
  have hl24 := b24.lt
  have hl3 := b3.lt
  go_region_held3 (fun w' => w'.cell? ⟨g3, 0, none⟩ = some (.bool nA) ∧ w'.cell? ⟨g3, 1, none⟩ = some (.slice aA lA cA))
    (first | (with_reducible exact ⟨(two_cells HHA.out).1, (two_cells HHA.out).2.1⟩) | (with_reducible exact ⟨(two_cells HHD.out).1, (two_cells HHD.out).2.1⟩) | (with_reducible exact ⟨(two_cells HHB.out).1, (two_cells HHB.out).2.1⟩) | (with_reducible exact ⟨(two_cells IA.out).1, (two_cells IA.out).2.1⟩) | (with_reducible exact ⟨(two_cells JA.out).1, (two_cells JA.out).2.1⟩) | (with_reducible exact ⟨(two_cells (hpS _ IA.out)).1, (two_cells (hpS _ IA.out)).2.1⟩) | (with_reducible exact ⟨(two_cells (hpS _ JA.out)).1, (two_cells (hpS _ JA.out)).2.1⟩) | (refine ⟨?_, ?_⟩ <;> (rw [World.cell?_setCell_far _ _ _ _ (by simp; omega), World.cell?_setCell_far _ _ _ _ (by simp; omega)]; first | (with_reducible exact k30) | (with_reducible exact k31))) | (go_keep; done))
    ((first
      | (go_at_call 24; (with_reducible refine (from_any (-1) wr.drew (by decide) (by decide)).mono ?_); rintro e w2 ⟨n1, ao1, len1, rfl, hnum, hb2⟩; have hbw2 := undrew (w := wr) hb2; have IA := hid (heap_keep HHA.out hbw2); obtain ⟨C1, hR1, hE1⟩ := hnum.read; have HE1 := hid hE1; clear hE1; obtain ⟨k20, k21, _, _⟩ := two_cells IA.out; have hR2 := hRA.keep hbw2; have hs2 := hbw2.size)
      | (go_at_call 24; (with_reducible refine (from_any (-1) (wr.alloc (.cells #[.bool false, .slice none 0 0] 24)).drew (by decide) (by decide)).mono ?_); rintro e w2 ⟨n1, ao1, len1, rfl, hnum, hb2⟩; have hz := hid (heap_keep bx0.out hb2); have hbw2 := balloc (w := wr) (undrew hb2); have IA := hid (heap_keep HHA.out hbw2); obtain ⟨C1, hR1, hE1⟩ := hnum.read; have HE1 := hid hE1; clear hE1; obtain ⟨k20, k21, _, _⟩ := two_cells IA.out; have hR2 := hRA.keep hbw2; have hs2 := hbw2.size)
      | (go_at_call 36; (with_reducible refine (sub_ok w2 hR1 hR2 HE1.out HEA.out (Lt.one.sm (by decide)) (la.sm (by decide)) ((Lt.sub Lt.one la).sm (by decide))).mono ?_); rintro e w3 ⟨n3, ao3, len3, C3, rfl, hR3, hE3, hbw3⟩; have JA := hid (heap_keep IA.out hbw3); (try (have hz4 := heap_keep hz.out hbw3; obtain ⟨z0, z1, z2, z3⟩ := two_cells hz4; have hz3 : Bx w3 _ 0 := ⟨false, none, 0, 0, [], hz4, rd_nothing _, rfl⟩; clear hz4)); have HE3 := hid hE3; clear hE3; obtain ⟨k30, k31, _, _⟩ := two_cells JA.out; have hs3 := hbw3.size)
      | (go_at_call 36; (with_reducible refine (sub_ok (w2.alloc (.cells #[.bool false, .slice none 0 0] 24)) (hR1.alloc _) (hR2.alloc _) HE1.out HEA.out (Lt.one.sm (by decide)) (la.sm (by decide)) ((Lt.sub Lt.one la).sm (by decide))).mono ?_); rintro e w3 ⟨n3, ao3, len3, C3, rfl, hR3, hE3, hb3⟩; have hz4 := heap_keep (heap_alloc_new w2 _) hb3; obtain ⟨z0, z1, z2, z3⟩ := two_cells hz4; have hz3 : Bx w3 _ 0 := ⟨false, none, 0, 0, [], hz4, rd_nothing _, rfl⟩; clear hz4; have hbw3 := balloc hb3; have JA := hid (heap_keep IA.out hbw3); have HE3 := hid hE3; clear hE3; obtain ⟨k30, k31, _, _⟩ := two_cells JA.out; have hs3 := hbw3.size)))
  all_goals
    have hx := (hb.trans (hbw2.mono hb.size)).trans (hbw3.mono (hb.trans (hbw2.mono hb.size)).size)
    have hw2s : wr.heap.size ≤ w2.heap.size := hbw2.size
    have hw3s : w2.heap.size ≤ w3.heap.size := hbw3.size
    have hws : w.heap.size ≤ wr.heap.size := hb.size
    go_wp2
    first | exact SE_16 la lb lc (hx.alloc hx.size _) h0 o4 o5 o8 o10 o12 o14 o16 o19 o21 o24 (by omega) (((b3.keep hbw2).keep hbw3).alloc _) (((b4.keep hbw2).keep hbw3).alloc _) (((b5.keep hbw2).keep hbw3).alloc _) (((b8.keep hbw2).keep hbw3).alloc _) (((b10.keep hbw2).keep hbw3).alloc _) (((b12.keep hbw2).keep hbw3).alloc _) (((b14.keep hbw2).keep hbw3).alloc _) (((b16.keep hbw2).keep hbw3).alloc _) (((b19.keep hbw2).keep hbw3).alloc _) (((b21.keep hbw2).keep hbw3).alloc _) (((b24.keep hbw2).keep hbw3).alloc _) (Bx.new hR3 HE3.out) | exact SE_16 la lb lc (below_put hx (by omega) _ _) h0 o4 o5 o8 o10 o12 o14 o16 o19 o21 o24 (by omega) (((b3.keep hbw2).keep hbw3).put_other hz3 (by omega) _ _) (((b4.keep hbw2).keep hbw3).put_other hz3 (by omega) _ _) (((b5.keep hbw2).keep hbw3).put_other hz3 (by omega) _ _) (((b8.keep hbw2).keep hbw3).put_other hz3 (by omega) _ _) (((b10.keep hbw2).keep hbw3).put_other hz3 (by omega) _ _) (((b12.keep hbw2).keep hbw3).put_other hz3 (by omega) _ _) (((b14.keep hbw2).keep hbw3).put_other hz3 (by omega) _ _) (((b16.keep hbw2).keep hbw3).put_other hz3 (by omega) _ _) (((b19.keep hbw2).keep hbw3).put_other hz3 (by omega) _ _) (((b21.keep hbw2).keep hbw3).put_other hz3 (by omega) _ _) (((b24.keep hbw2).keep hbw3).put_other hz3 (by omega) _ _) (hz3.put hR3 HE3.out)

set_option maxRecDepth 100000 in
set_option maxHeartbeats 2000000 in
theorem SE_14 {w wr : World} {g3 g4 g5 g8 g10 g12 g14 g16 g19 g21 : Nat} {u0 u1 u2 u6 u9 u13 u15 u20 u24 u25 u26 u27 u28 u29 u30 u31 u32 u33 u34 u35 u36 u37 u38 u39 u40 u41 u42 u43 u44 u45 u46 u47 u48 u49 u50 u51 u52 u53 u54 u55 u56 u57 u58 u59 u60 u61 u62 u63 u64 u65 u66 u67 u68 u69 u70 u71 u72 u73 u74 u75 u76 u77 u78 u79 u80 u81 u82 u83 u84 u85 u86 u87 u88 u89 u90 u91 u92 u93 u94 u95 u96 u97 u98 u99 u100 u101 u102 u103 u104 u105 u106 u107 u108 u109 u110 u111 u112 u113 u114 u115 u116 u117 u118 u119 u120 u121 u122 u123 u124 u125 u126 u127 u128 u129 u130 u131 u132 u133 u134 u135 u136 u137 u138 u139 u140 u141 u142 u143 u144 u145 : Value} {va vb vc : Int}
    (la : Lt 3200 va) (lb : Lt 3200 vb) (lc : Lt 3200 vc)
    (hb : Below w.heap.size w wr) (h0 : w.heap.size ≤ g3)
    (o4 : g3 < g4) (o5 : g4 < g5) (o8 : g5 < g8) (o10 : g8 < g10) (o12 : g10 < g12) (o14 : g12 < g14) (o16 : g14 < g16) (o19 : g16 < g19) (o21 : g19 < g21)
    (b3 : Bx wr g3 (va)) (b4 : Bx wr g4 (vb)) (b5 : Bx wr g5 (vc)) (b8 : Bx wr g8 (bop lorf vb vc)) (b10 : Bx wr g10 (bop landf va (bop lorf vb vc))) (b12 : Bx wr g12 (bop landf va vb)) (b14 : Bx wr g14 (bop landf va vc)) (b16 : Bx wr g16 (bop lorf (bop landf va vb) (bop landf va vc))) (b19 : Bx wr g19 (bop lxorf va vb)) (b21 : Bx wr g21 (bop lxorf (bop lxorf va vb) vb)) :
    Code.wp Tryd.prog (tail13 14) (Q13 w) ⟨#[u0, u1, u2, .pointer (some ⟨g3, 0, none⟩), .pointer (some ⟨g4, 0, none⟩), .pointer (some ⟨g5, 0, none⟩), u6, .bool true, .pointer (some ⟨g8, 0, none⟩), u9, .pointer (some ⟨g10, 0, none⟩), .int .i64 0, .pointer (some ⟨g12, 0, none⟩), u13, .pointer (some ⟨g14, 0, none⟩), u15, .pointer (some ⟨g16, 0, none⟩), .int .i64 0, .bool true, .pointer (some ⟨g19, 0, none⟩), u20, .pointer (some ⟨g21, 0, none⟩), .int .i64 0, .bool true, u24, u25, u26, u27, u28, u29, u30, u31, u32, u33, u34, u35, u36, u37, u38, u39, u40, u41, u42, u43, u44, u45, u46, u47, u48, u49, u50, u51, u52, u53, u54, u55, u56, u57, u58, u59, u60, u61, u62, u63, u64, u65, u66, u67, u68, u69, u70, u71, u72, u73, u74, u75, u76, u77, u78, u79, u80, u81, u82, u83, u84, u85, u86, u87, u88, u89, u90, u91, u92, u93, u94, u95, u96, u97, u98, u99, u100, u101, u102, u103, u104, u105, u106, u107, u108, u109, u110, u111, u112, u113, u114, u115, u116, u117, u118, u119, u120, u121, u122, u123, u124, u125, u126, u127, u128, u129, u130, u131, u132, u133, u134, u135, u136, u137, u138, u139, u140, u141, u142, u143, u144, u145], []⟩ wr := by
  have b3' := b3
  obtain ⟨nA, aA, lA, cA, A, hHA, hRA, hEA⟩ := b3'
  obtain ⟨kA0, kA1, _, _⟩ := two_cells hHA
  have HEA := hid hEA
  clear hEA hHA
  show Code.wp Tryd.prog (Code.seq (head13 14) (tail13 15)) _ _ _
  conv => arg 2; arg 1; whnf
  go_wp2_with fail
  refine (not_ok _ hRA HEA.out (la.sm (by decide)) ((Lt.bop (m := 100) lnotf_even (by decide) rfl la (Lt.nought 3200)).sm (by decide))).mono ?_
  rintro e w2 ⟨n2, ao2, len2, C2, rfl, hR2, hE2, hb2⟩
  have HE2 := hid hE2
  clear hE2
  go_wp2
  have hlast : g21 < w2.heap.size := (b21.keep hb2).lt
  have hb3 := hb.trans (hb2.mono hb.size)
  exact SE_15 la lb lc (hb3.alloc hb3.size _) h0 o4 o5 o8 o10 o12 o14 o16 o19 o21 hlast ((b3.keep hb2).alloc _) ((b4.keep hb2).alloc _) ((b5.keep hb2).alloc _) ((b8.keep hb2).alloc _) ((b10.keep hb2).alloc _) ((b12.keep hb2).alloc _) ((b14.keep hb2).alloc _) ((b16.keep hb2).alloc _) ((b19.keep hb2).alloc _) ((b21.keep hb2).alloc _) (Bx.new hR2 HE2.out)

set_option maxRecDepth 100000 in
set_option maxHeartbeats 2000000 in
theorem SE_13 {w wr : World} {g3 g4 g5 g8 g10 g12 g14 g16 g19 g21 : Nat} {u0 u1 u2 u6 u9 u13 u15 u20 u23 u24 u25 u26 u27 u28 u29 u30 u31 u32 u33 u34 u35 u36 u37 u38 u39 u40 u41 u42 u43 u44 u45 u46 u47 u48 u49 u50 u51 u52 u53 u54 u55 u56 u57 u58 u59 u60 u61 u62 u63 u64 u65 u66 u67 u68 u69 u70 u71 u72 u73 u74 u75 u76 u77 u78 u79 u80 u81 u82 u83 u84 u85 u86 u87 u88 u89 u90 u91 u92 u93 u94 u95 u96 u97 u98 u99 u100 u101 u102 u103 u104 u105 u106 u107 u108 u109 u110 u111 u112 u113 u114 u115 u116 u117 u118 u119 u120 u121 u122 u123 u124 u125 u126 u127 u128 u129 u130 u131 u132 u133 u134 u135 u136 u137 u138 u139 u140 u141 u142 u143 u144 u145 : Value} {va vb vc : Int}
    (la : Lt 3200 va) (lb : Lt 3200 vb) (lc : Lt 3200 vc)
    (hb : Below w.heap.size w wr) (h0 : w.heap.size ≤ g3)
    (o4 : g3 < g4) (o5 : g4 < g5) (o8 : g5 < g8) (o10 : g8 < g10) (o12 : g10 < g12) (o14 : g12 < g14) (o16 : g14 < g16) (o19 : g16 < g19) (o21 : g19 < g21)
    (b3 : Bx wr g3 (va)) (b4 : Bx wr g4 (vb)) (b5 : Bx wr g5 (vc)) (b8 : Bx wr g8 (bop lorf vb vc)) (b10 : Bx wr g10 (bop landf va (bop lorf vb vc))) (b12 : Bx wr g12 (bop landf va vb)) (b14 : Bx wr g14 (bop landf va vc)) (b16 : Bx wr g16 (bop lorf (bop landf va vb) (bop landf va vc))) (b19 : Bx wr g19 (bop lxorf va vb)) (b21 : Bx wr g21 (bop lxorf (bop lxorf va vb) vb)) :
    Code.wp Tryd.prog (tail13 13) (Q13 w) ⟨#[u0, u1, u2, .pointer (some ⟨g3, 0, none⟩), .pointer (some ⟨g4, 0, none⟩), .pointer (some ⟨g5, 0, none⟩), u6, .bool true, .pointer (some ⟨g8, 0, none⟩), u9, .pointer (some ⟨g10, 0, none⟩), .int .i64 0, .pointer (some ⟨g12, 0, none⟩), u13, .pointer (some ⟨g14, 0, none⟩), u15, .pointer (some ⟨g16, 0, none⟩), .int .i64 0, .bool true, .pointer (some ⟨g19, 0, none⟩), u20, .pointer (some ⟨g21, 0, none⟩), .int .i64 0, u23, u24, u25, u26, u27, u28, u29, u30, u31, u32, u33, u34, u35, u36, u37, u38, u39, u40, u41, u42, u43, u44, u45, u46, u47, u48, u49, u50, u51, u52, u53, u54, u55, u56, u57, u58, u59, u60, u61, u62, u63, u64, u65, u66, u67, u68, u69, u70, u71, u72, u73, u74, u75, u76, u77, u78, u79, u80, u81, u82, u83, u84, u85, u86, u87, u88, u89, u90, u91, u92, u93, u94, u95, u96, u97, u98, u99, u100, u101, u102, u103, u104, u105, u106, u107, u108, u109, u110, u111, u112, u113, u114, u115, u116, u117, u118, u119, u120, u121, u122, u123, u124, u125, u126, u127, u128, u129, u130, u131, u132, u133, u134, u135, u136, u137, u138, u139, u140, u141, u142, u143, u144, u145], []⟩ wr := by
  have b21' := b21
  obtain ⟨nA, aA, lA, cA, A, hHA, hRA, hEA⟩ := b21'
  obtain ⟨kA0, kA1, _, _⟩ := two_cells hHA
  have HEA := hid hEA
  clear hEA hHA
  have b3' := b3
  obtain ⟨nB, aB, lB, cB, B, hHB, hRB, hEB⟩ := b3'
  obtain ⟨kB0, kB1, _, _⟩ := two_cells hHB
  have HEB := hid hEB
  clear hEB hHB
  show Code.wp Tryd.prog (Code.seq (head13 13) (tail13 14)) _ _ _
  conv => arg 2; arg 1; whnf
  go_wp2_with fail
  refine (same_yes _ 0 hRA hRB (by rw [HEA.out, HEB.out]; exact bop_xor2 _ _ la.p390 lb.p390)).mono ?_
  rintro e w2 ⟨rfl, hb2⟩
  go_wp2
  exact SE_14 la lb lc (hb.trans (hb2.mono hb.size)) h0 o4 o5 o8 o10 o12 o14 o16 o19 o21 (b3.keep hb2) (b4.keep hb2) (b5.keep hb2) (b8.keep hb2) (b10.keep hb2) (b12.keep hb2) (b14.keep hb2) (b16.keep hb2) (b19.keep hb2) (b21.keep hb2)

set_option maxRecDepth 100000 in
set_option maxHeartbeats 2000000 in
theorem SE_12 {w wr : World} {g3 g4 g5 g8 g10 g12 g14 g16 g19 : Nat} {u0 u1 u2 u6 u9 u13 u15 u20 u21 u22 u23 u24 u25 u26 u27 u28 u29 u30 u31 u32 u33 u34 u35 u36 u37 u38 u39 u40 u41 u42 u43 u44 u45 u46 u47 u48 u49 u50 u51 u52 u53 u54 u55 u56 u57 u58 u59 u60 u61 u62 u63 u64 u65 u66 u67 u68 u69 u70 u71 u72 u73 u74 u75 u76 u77 u78 u79 u80 u81 u82 u83 u84 u85 u86 u87 u88 u89 u90 u91 u92 u93 u94 u95 u96 u97 u98 u99 u100 u101 u102 u103 u104 u105 u106 u107 u108 u109 u110 u111 u112 u113 u114 u115 u116 u117 u118 u119 u120 u121 u122 u123 u124 u125 u126 u127 u128 u129 u130 u131 u132 u133 u134 u135 u136 u137 u138 u139 u140 u141 u142 u143 u144 u145 : Value} {va vb vc : Int}
    (la : Lt 3200 va) (lb : Lt 3200 vb) (lc : Lt 3200 vc)
    (hb : Below w.heap.size w wr) (h0 : w.heap.size ≤ g3)
    (o4 : g3 < g4) (o5 : g4 < g5) (o8 : g5 < g8) (o10 : g8 < g10) (o12 : g10 < g12) (o14 : g12 < g14) (o16 : g14 < g16) (o19 : g16 < g19)
    (b3 : Bx wr g3 (va)) (b4 : Bx wr g4 (vb)) (b5 : Bx wr g5 (vc)) (b8 : Bx wr g8 (bop lorf vb vc)) (b10 : Bx wr g10 (bop landf va (bop lorf vb vc))) (b12 : Bx wr g12 (bop landf va vb)) (b14 : Bx wr g14 (bop landf va vc)) (b16 : Bx wr g16 (bop lorf (bop landf va vb) (bop landf va vc))) (b19 : Bx wr g19 (bop lxorf va vb)) :
    Code.wp Tryd.prog (tail13 12) (Q13 w) ⟨#[u0, u1, u2, .pointer (some ⟨g3, 0, none⟩), .pointer (some ⟨g4, 0, none⟩), .pointer (some ⟨g5, 0, none⟩), u6, .bool true, .pointer (some ⟨g8, 0, none⟩), u9, .pointer (some ⟨g10, 0, none⟩), .int .i64 0, .pointer (some ⟨g12, 0, none⟩), u13, .pointer (some ⟨g14, 0, none⟩), u15, .pointer (some ⟨g16, 0, none⟩), .int .i64 0, .bool true, .pointer (some ⟨g19, 0, none⟩), u20, u21, u22, u23, u24, u25, u26, u27, u28, u29, u30, u31, u32, u33, u34, u35, u36, u37, u38, u39, u40, u41, u42, u43, u44, u45, u46, u47, u48, u49, u50, u51, u52, u53, u54, u55, u56, u57, u58, u59, u60, u61, u62, u63, u64, u65, u66, u67, u68, u69, u70, u71, u72, u73, u74, u75, u76, u77, u78, u79, u80, u81, u82, u83, u84, u85, u86, u87, u88, u89, u90, u91, u92, u93, u94, u95, u96, u97, u98, u99, u100, u101, u102, u103, u104, u105, u106, u107, u108, u109, u110, u111, u112, u113, u114, u115, u116, u117, u118, u119, u120, u121, u122, u123, u124, u125, u126, u127, u128, u129, u130, u131, u132, u133, u134, u135, u136, u137, u138, u139, u140, u141, u142, u143, u144, u145], []⟩ wr := by
  have b19' := b19
  obtain ⟨nA, aA, lA, cA, A, hHA, hRA, hEA⟩ := b19'
  obtain ⟨kA0, kA1, _, _⟩ := two_cells hHA
  have HEA := hid hEA
  clear hEA hHA
  have b4' := b4
  obtain ⟨nB, aB, lB, cB, B, hHB, hRB, hEB⟩ := b4'
  obtain ⟨kB0, kB1, _, _⟩ := two_cells hHB
  have HEB := hid hEB
  clear hEB hHB
  show Code.wp Tryd.prog (Code.seq (head13 12) (tail13 13)) _ _ _
  conv => arg 2; arg 1; whnf
  go_wp2_with fail
  refine (xor_ok _ hRA hRB HEA.out HEB.out (((Lt.bop (m := 100) lxorf_even (by decide) rfl la lb)).sm (by decide)) ((lb).sm (by decide)) (((Lt.bop (m := 101) lxorf_even (by decide) rfl (Lt.mono (Lt.bop (m := 100) lxorf_even (by decide) rfl la lb) (k := 3232) (by decide)) (Lt.mono lb (k := 3232) (by decide)))).sm (by decide))).mono ?_
  rintro e w2 ⟨n2, ao2, len2, C2, rfl, hR2, hE2, hb2⟩
  have HE2 := hid hE2
  clear hE2
  go_wp2
  have hlast : g19 < w2.heap.size := (b19.keep hb2).lt
  have hb3 := hb.trans (hb2.mono hb.size)
  exact SE_13 la lb lc (hb3.alloc hb3.size _) h0 o4 o5 o8 o10 o12 o14 o16 o19 hlast ((b3.keep hb2).alloc _) ((b4.keep hb2).alloc _) ((b5.keep hb2).alloc _) ((b8.keep hb2).alloc _) ((b10.keep hb2).alloc _) ((b12.keep hb2).alloc _) ((b14.keep hb2).alloc _) ((b16.keep hb2).alloc _) ((b19.keep hb2).alloc _) (Bx.new hR2 HE2.out)

set_option maxRecDepth 100000 in
set_option maxHeartbeats 2000000 in
theorem SE_11 {w wr : World} {g3 g4 g5 g8 g10 g12 g14 g16 : Nat} {u0 u1 u2 u6 u9 u13 u15 u19 u20 u21 u22 u23 u24 u25 u26 u27 u28 u29 u30 u31 u32 u33 u34 u35 u36 u37 u38 u39 u40 u41 u42 u43 u44 u45 u46 u47 u48 u49 u50 u51 u52 u53 u54 u55 u56 u57 u58 u59 u60 u61 u62 u63 u64 u65 u66 u67 u68 u69 u70 u71 u72 u73 u74 u75 u76 u77 u78 u79 u80 u81 u82 u83 u84 u85 u86 u87 u88 u89 u90 u91 u92 u93 u94 u95 u96 u97 u98 u99 u100 u101 u102 u103 u104 u105 u106 u107 u108 u109 u110 u111 u112 u113 u114 u115 u116 u117 u118 u119 u120 u121 u122 u123 u124 u125 u126 u127 u128 u129 u130 u131 u132 u133 u134 u135 u136 u137 u138 u139 u140 u141 u142 u143 u144 u145 : Value} {va vb vc : Int}
    (la : Lt 3200 va) (lb : Lt 3200 vb) (lc : Lt 3200 vc)
    (hb : Below w.heap.size w wr) (h0 : w.heap.size ≤ g3)
    (o4 : g3 < g4) (o5 : g4 < g5) (o8 : g5 < g8) (o10 : g8 < g10) (o12 : g10 < g12) (o14 : g12 < g14) (o16 : g14 < g16)
    (b3 : Bx wr g3 (va)) (b4 : Bx wr g4 (vb)) (b5 : Bx wr g5 (vc)) (b8 : Bx wr g8 (bop lorf vb vc)) (b10 : Bx wr g10 (bop landf va (bop lorf vb vc))) (b12 : Bx wr g12 (bop landf va vb)) (b14 : Bx wr g14 (bop landf va vc)) (b16 : Bx wr g16 (bop lorf (bop landf va vb) (bop landf va vc))) :
    Code.wp Tryd.prog (tail13 11) (Q13 w) ⟨#[u0, u1, u2, .pointer (some ⟨g3, 0, none⟩), .pointer (some ⟨g4, 0, none⟩), .pointer (some ⟨g5, 0, none⟩), u6, .bool true, .pointer (some ⟨g8, 0, none⟩), u9, .pointer (some ⟨g10, 0, none⟩), .int .i64 0, .pointer (some ⟨g12, 0, none⟩), u13, .pointer (some ⟨g14, 0, none⟩), u15, .pointer (some ⟨g16, 0, none⟩), .int .i64 0, .bool true, u19, u20, u21, u22, u23, u24, u25, u26, u27, u28, u29, u30, u31, u32, u33, u34, u35, u36, u37, u38, u39, u40, u41, u42, u43, u44, u45, u46, u47, u48, u49, u50, u51, u52, u53, u54, u55, u56, u57, u58, u59, u60, u61, u62, u63, u64, u65, u66, u67, u68, u69, u70, u71, u72, u73, u74, u75, u76, u77, u78, u79, u80, u81, u82, u83, u84, u85, u86, u87, u88, u89, u90, u91, u92, u93, u94, u95, u96, u97, u98, u99, u100, u101, u102, u103, u104, u105, u106, u107, u108, u109, u110, u111, u112, u113, u114, u115, u116, u117, u118, u119, u120, u121, u122, u123, u124, u125, u126, u127, u128, u129, u130, u131, u132, u133, u134, u135, u136, u137, u138, u139, u140, u141, u142, u143, u144, u145], []⟩ wr := by
  have b3' := b3
  obtain ⟨nA, aA, lA, cA, A, hHA, hRA, hEA⟩ := b3'
  obtain ⟨kA0, kA1, _, _⟩ := two_cells hHA
  have HEA := hid hEA
  clear hEA hHA
  have b4' := b4
  obtain ⟨nB, aB, lB, cB, B, hHB, hRB, hEB⟩ := b4'
  obtain ⟨kB0, kB1, _, _⟩ := two_cells hHB
  have HEB := hid hEB
  clear hEB hHB
  show Code.wp Tryd.prog (Code.seq (head13 11) (tail13 12)) _ _ _
  conv => arg 2; arg 1; whnf
  go_wp2_with fail
  refine (xor_ok _ hRA hRB HEA.out HEB.out ((la).sm (by decide)) ((lb).sm (by decide)) (((Lt.bop (m := 100) lxorf_even (by decide) rfl la lb)).sm (by decide))).mono ?_
  rintro e w2 ⟨n2, ao2, len2, C2, rfl, hR2, hE2, hb2⟩
  have HE2 := hid hE2
  clear hE2
  go_wp2
  have hlast : g16 < w2.heap.size := (b16.keep hb2).lt
  have hb3 := hb.trans (hb2.mono hb.size)
  exact SE_12 la lb lc (hb3.alloc hb3.size _) h0 o4 o5 o8 o10 o12 o14 o16 hlast ((b3.keep hb2).alloc _) ((b4.keep hb2).alloc _) ((b5.keep hb2).alloc _) ((b8.keep hb2).alloc _) ((b10.keep hb2).alloc _) ((b12.keep hb2).alloc _) ((b14.keep hb2).alloc _) ((b16.keep hb2).alloc _) (Bx.new hR2 HE2.out)

set_option maxRecDepth 100000 in
set_option maxHeartbeats 2000000 in
theorem SE_10 {w wr : World} {g3 g4 g5 g8 g10 g12 g14 g16 : Nat} {u0 u1 u2 u6 u9 u13 u15 u18 u19 u20 u21 u22 u23 u24 u25 u26 u27 u28 u29 u30 u31 u32 u33 u34 u35 u36 u37 u38 u39 u40 u41 u42 u43 u44 u45 u46 u47 u48 u49 u50 u51 u52 u53 u54 u55 u56 u57 u58 u59 u60 u61 u62 u63 u64 u65 u66 u67 u68 u69 u70 u71 u72 u73 u74 u75 u76 u77 u78 u79 u80 u81 u82 u83 u84 u85 u86 u87 u88 u89 u90 u91 u92 u93 u94 u95 u96 u97 u98 u99 u100 u101 u102 u103 u104 u105 u106 u107 u108 u109 u110 u111 u112 u113 u114 u115 u116 u117 u118 u119 u120 u121 u122 u123 u124 u125 u126 u127 u128 u129 u130 u131 u132 u133 u134 u135 u136 u137 u138 u139 u140 u141 u142 u143 u144 u145 : Value} {va vb vc : Int}
    (la : Lt 3200 va) (lb : Lt 3200 vb) (lc : Lt 3200 vc)
    (hb : Below w.heap.size w wr) (h0 : w.heap.size ≤ g3)
    (o4 : g3 < g4) (o5 : g4 < g5) (o8 : g5 < g8) (o10 : g8 < g10) (o12 : g10 < g12) (o14 : g12 < g14) (o16 : g14 < g16)
    (b3 : Bx wr g3 (va)) (b4 : Bx wr g4 (vb)) (b5 : Bx wr g5 (vc)) (b8 : Bx wr g8 (bop lorf vb vc)) (b10 : Bx wr g10 (bop landf va (bop lorf vb vc))) (b12 : Bx wr g12 (bop landf va vb)) (b14 : Bx wr g14 (bop landf va vc)) (b16 : Bx wr g16 (bop lorf (bop landf va vb) (bop landf va vc))) :
    Code.wp Tryd.prog (tail13 10) (Q13 w) ⟨#[u0, u1, u2, .pointer (some ⟨g3, 0, none⟩), .pointer (some ⟨g4, 0, none⟩), .pointer (some ⟨g5, 0, none⟩), u6, .bool true, .pointer (some ⟨g8, 0, none⟩), u9, .pointer (some ⟨g10, 0, none⟩), .int .i64 0, .pointer (some ⟨g12, 0, none⟩), u13, .pointer (some ⟨g14, 0, none⟩), u15, .pointer (some ⟨g16, 0, none⟩), .int .i64 0, u18, u19, u20, u21, u22, u23, u24, u25, u26, u27, u28, u29, u30, u31, u32, u33, u34, u35, u36, u37, u38, u39, u40, u41, u42, u43, u44, u45, u46, u47, u48, u49, u50, u51, u52, u53, u54, u55, u56, u57, u58, u59, u60, u61, u62, u63, u64, u65, u66, u67, u68, u69, u70, u71, u72, u73, u74, u75, u76, u77, u78, u79, u80, u81, u82, u83, u84, u85, u86, u87, u88, u89, u90, u91, u92, u93, u94, u95, u96, u97, u98, u99, u100, u101, u102, u103, u104, u105, u106, u107, u108, u109, u110, u111, u112, u113, u114, u115, u116, u117, u118, u119, u120, u121, u122, u123, u124, u125, u126, u127, u128, u129, u130, u131, u132, u133, u134, u135, u136, u137, u138, u139, u140, u141, u142, u143, u144, u145], []⟩ wr := by
  have b10' := b10
  obtain ⟨nA, aA, lA, cA, A, hHA, hRA, hEA⟩ := b10'
  obtain ⟨kA0, kA1, _, _⟩ := two_cells hHA
  have HEA := hid hEA
  clear hEA hHA
  have b16' := b16
  obtain ⟨nB, aB, lB, cB, B, hHB, hRB, hEB⟩ := b16'
  obtain ⟨kB0, kB1, _, _⟩ := two_cells hHB
  have HEB := hid hEB
  clear hEB hHB
  show Code.wp Tryd.prog (Code.seq (head13 10) (tail13 11)) _ _ _
  conv => arg 2; arg 1; whnf
  go_wp2_with fail
  refine (same_yes _ 0 hRA hRB (by rw [HEA.out, HEB.out]; exact bop_share _ _ _ la.p390 lb.p390 lc.p390)).mono ?_
  rintro e w2 ⟨rfl, hb2⟩
  go_wp2
  exact SE_11 la lb lc (hb.trans (hb2.mono hb.size)) h0 o4 o5 o8 o10 o12 o14 o16 (b3.keep hb2) (b4.keep hb2) (b5.keep hb2) (b8.keep hb2) (b10.keep hb2) (b12.keep hb2) (b14.keep hb2) (b16.keep hb2)

set_option maxRecDepth 100000 in
set_option maxHeartbeats 2000000 in
theorem SE_9 {w wr : World} {g3 g4 g5 g8 g10 g12 g14 : Nat} {u0 u1 u2 u6 u9 u13 u15 u16 u17 u18 u19 u20 u21 u22 u23 u24 u25 u26 u27 u28 u29 u30 u31 u32 u33 u34 u35 u36 u37 u38 u39 u40 u41 u42 u43 u44 u45 u46 u47 u48 u49 u50 u51 u52 u53 u54 u55 u56 u57 u58 u59 u60 u61 u62 u63 u64 u65 u66 u67 u68 u69 u70 u71 u72 u73 u74 u75 u76 u77 u78 u79 u80 u81 u82 u83 u84 u85 u86 u87 u88 u89 u90 u91 u92 u93 u94 u95 u96 u97 u98 u99 u100 u101 u102 u103 u104 u105 u106 u107 u108 u109 u110 u111 u112 u113 u114 u115 u116 u117 u118 u119 u120 u121 u122 u123 u124 u125 u126 u127 u128 u129 u130 u131 u132 u133 u134 u135 u136 u137 u138 u139 u140 u141 u142 u143 u144 u145 : Value} {va vb vc : Int}
    (la : Lt 3200 va) (lb : Lt 3200 vb) (lc : Lt 3200 vc)
    (hb : Below w.heap.size w wr) (h0 : w.heap.size ≤ g3)
    (o4 : g3 < g4) (o5 : g4 < g5) (o8 : g5 < g8) (o10 : g8 < g10) (o12 : g10 < g12) (o14 : g12 < g14)
    (b3 : Bx wr g3 (va)) (b4 : Bx wr g4 (vb)) (b5 : Bx wr g5 (vc)) (b8 : Bx wr g8 (bop lorf vb vc)) (b10 : Bx wr g10 (bop landf va (bop lorf vb vc))) (b12 : Bx wr g12 (bop landf va vb)) (b14 : Bx wr g14 (bop landf va vc)) :
    Code.wp Tryd.prog (tail13 9) (Q13 w) ⟨#[u0, u1, u2, .pointer (some ⟨g3, 0, none⟩), .pointer (some ⟨g4, 0, none⟩), .pointer (some ⟨g5, 0, none⟩), u6, .bool true, .pointer (some ⟨g8, 0, none⟩), u9, .pointer (some ⟨g10, 0, none⟩), .int .i64 0, .pointer (some ⟨g12, 0, none⟩), u13, .pointer (some ⟨g14, 0, none⟩), u15, u16, u17, u18, u19, u20, u21, u22, u23, u24, u25, u26, u27, u28, u29, u30, u31, u32, u33, u34, u35, u36, u37, u38, u39, u40, u41, u42, u43, u44, u45, u46, u47, u48, u49, u50, u51, u52, u53, u54, u55, u56, u57, u58, u59, u60, u61, u62, u63, u64, u65, u66, u67, u68, u69, u70, u71, u72, u73, u74, u75, u76, u77, u78, u79, u80, u81, u82, u83, u84, u85, u86, u87, u88, u89, u90, u91, u92, u93, u94, u95, u96, u97, u98, u99, u100, u101, u102, u103, u104, u105, u106, u107, u108, u109, u110, u111, u112, u113, u114, u115, u116, u117, u118, u119, u120, u121, u122, u123, u124, u125, u126, u127, u128, u129, u130, u131, u132, u133, u134, u135, u136, u137, u138, u139, u140, u141, u142, u143, u144, u145], []⟩ wr := by
  have b12' := b12
  obtain ⟨nA, aA, lA, cA, A, hHA, hRA, hEA⟩ := b12'
  obtain ⟨kA0, kA1, _, _⟩ := two_cells hHA
  have HEA := hid hEA
  clear hEA hHA
  have b14' := b14
  obtain ⟨nB, aB, lB, cB, B, hHB, hRB, hEB⟩ := b14'
  obtain ⟨kB0, kB1, _, _⟩ := two_cells hHB
  have HEB := hid hEB
  clear hEB hHB
  show Code.wp Tryd.prog (Code.seq (head13 9) (tail13 10)) _ _ _
  conv => arg 2; arg 1; whnf
  go_wp2_with fail
  refine (or_ok _ hRA hRB HEA.out HEB.out (((Lt.bop (m := 100) landf_even (by decide) rfl la lb)).sm (by decide)) (((Lt.bop (m := 100) landf_even (by decide) rfl la lc)).sm (by decide)) (((Lt.bop (m := 101) lorf_even (by decide) rfl (Lt.mono (Lt.bop (m := 100) landf_even (by decide) rfl la lb) (k := 3232) (by decide)) (Lt.mono (Lt.bop (m := 100) landf_even (by decide) rfl la lc) (k := 3232) (by decide)))).sm (by decide))).mono ?_
  rintro e w2 ⟨n2, ao2, len2, C2, rfl, hR2, hE2, hb2⟩
  have HE2 := hid hE2
  clear hE2
  go_wp2
  have hlast : g14 < w2.heap.size := (b14.keep hb2).lt
  have hb3 := hb.trans (hb2.mono hb.size)
  exact SE_10 la lb lc (hb3.alloc hb3.size _) h0 o4 o5 o8 o10 o12 o14 hlast ((b3.keep hb2).alloc _) ((b4.keep hb2).alloc _) ((b5.keep hb2).alloc _) ((b8.keep hb2).alloc _) ((b10.keep hb2).alloc _) ((b12.keep hb2).alloc _) ((b14.keep hb2).alloc _) (Bx.new hR2 HE2.out)

set_option maxRecDepth 100000 in
set_option maxHeartbeats 2000000 in
theorem SE_8 {w wr : World} {g3 g4 g5 g8 g10 g12 : Nat} {u0 u1 u2 u6 u9 u13 u14 u15 u16 u17 u18 u19 u20 u21 u22 u23 u24 u25 u26 u27 u28 u29 u30 u31 u32 u33 u34 u35 u36 u37 u38 u39 u40 u41 u42 u43 u44 u45 u46 u47 u48 u49 u50 u51 u52 u53 u54 u55 u56 u57 u58 u59 u60 u61 u62 u63 u64 u65 u66 u67 u68 u69 u70 u71 u72 u73 u74 u75 u76 u77 u78 u79 u80 u81 u82 u83 u84 u85 u86 u87 u88 u89 u90 u91 u92 u93 u94 u95 u96 u97 u98 u99 u100 u101 u102 u103 u104 u105 u106 u107 u108 u109 u110 u111 u112 u113 u114 u115 u116 u117 u118 u119 u120 u121 u122 u123 u124 u125 u126 u127 u128 u129 u130 u131 u132 u133 u134 u135 u136 u137 u138 u139 u140 u141 u142 u143 u144 u145 : Value} {va vb vc : Int}
    (la : Lt 3200 va) (lb : Lt 3200 vb) (lc : Lt 3200 vc)
    (hb : Below w.heap.size w wr) (h0 : w.heap.size ≤ g3)
    (o4 : g3 < g4) (o5 : g4 < g5) (o8 : g5 < g8) (o10 : g8 < g10) (o12 : g10 < g12)
    (b3 : Bx wr g3 (va)) (b4 : Bx wr g4 (vb)) (b5 : Bx wr g5 (vc)) (b8 : Bx wr g8 (bop lorf vb vc)) (b10 : Bx wr g10 (bop landf va (bop lorf vb vc))) (b12 : Bx wr g12 (bop landf va vb)) :
    Code.wp Tryd.prog (tail13 8) (Q13 w) ⟨#[u0, u1, u2, .pointer (some ⟨g3, 0, none⟩), .pointer (some ⟨g4, 0, none⟩), .pointer (some ⟨g5, 0, none⟩), u6, .bool true, .pointer (some ⟨g8, 0, none⟩), u9, .pointer (some ⟨g10, 0, none⟩), .int .i64 0, .pointer (some ⟨g12, 0, none⟩), u13, u14, u15, u16, u17, u18, u19, u20, u21, u22, u23, u24, u25, u26, u27, u28, u29, u30, u31, u32, u33, u34, u35, u36, u37, u38, u39, u40, u41, u42, u43, u44, u45, u46, u47, u48, u49, u50, u51, u52, u53, u54, u55, u56, u57, u58, u59, u60, u61, u62, u63, u64, u65, u66, u67, u68, u69, u70, u71, u72, u73, u74, u75, u76, u77, u78, u79, u80, u81, u82, u83, u84, u85, u86, u87, u88, u89, u90, u91, u92, u93, u94, u95, u96, u97, u98, u99, u100, u101, u102, u103, u104, u105, u106, u107, u108, u109, u110, u111, u112, u113, u114, u115, u116, u117, u118, u119, u120, u121, u122, u123, u124, u125, u126, u127, u128, u129, u130, u131, u132, u133, u134, u135, u136, u137, u138, u139, u140, u141, u142, u143, u144, u145], []⟩ wr := by
  have b3' := b3
  obtain ⟨nA, aA, lA, cA, A, hHA, hRA, hEA⟩ := b3'
  obtain ⟨kA0, kA1, _, _⟩ := two_cells hHA
  have HEA := hid hEA
  clear hEA hHA
  have b5' := b5
  obtain ⟨nB, aB, lB, cB, B, hHB, hRB, hEB⟩ := b5'
  obtain ⟨kB0, kB1, _, _⟩ := two_cells hHB
  have HEB := hid hEB
  clear hEB hHB
  show Code.wp Tryd.prog (Code.seq (head13 8) (tail13 9)) _ _ _
  conv => arg 2; arg 1; whnf
  go_wp2_with fail
  refine (and_ok _ hRA hRB HEA.out HEB.out ((la).sm (by decide)) ((lc).sm (by decide)) (((Lt.bop (m := 100) landf_even (by decide) rfl la lc)).sm (by decide))).mono ?_
  rintro e w2 ⟨n2, ao2, len2, C2, rfl, hR2, hE2, hb2⟩
  have HE2 := hid hE2
  clear hE2
  go_wp2
  have hlast : g12 < w2.heap.size := (b12.keep hb2).lt
  have hb3 := hb.trans (hb2.mono hb.size)
  exact SE_9 la lb lc (hb3.alloc hb3.size _) h0 o4 o5 o8 o10 o12 hlast ((b3.keep hb2).alloc _) ((b4.keep hb2).alloc _) ((b5.keep hb2).alloc _) ((b8.keep hb2).alloc _) ((b10.keep hb2).alloc _) ((b12.keep hb2).alloc _) (Bx.new hR2 HE2.out)

set_option maxRecDepth 100000 in
set_option maxHeartbeats 2000000 in
theorem SE_7 {w wr : World} {g3 g4 g5 g8 g10 : Nat} {u0 u1 u2 u6 u9 u12 u13 u14 u15 u16 u17 u18 u19 u20 u21 u22 u23 u24 u25 u26 u27 u28 u29 u30 u31 u32 u33 u34 u35 u36 u37 u38 u39 u40 u41 u42 u43 u44 u45 u46 u47 u48 u49 u50 u51 u52 u53 u54 u55 u56 u57 u58 u59 u60 u61 u62 u63 u64 u65 u66 u67 u68 u69 u70 u71 u72 u73 u74 u75 u76 u77 u78 u79 u80 u81 u82 u83 u84 u85 u86 u87 u88 u89 u90 u91 u92 u93 u94 u95 u96 u97 u98 u99 u100 u101 u102 u103 u104 u105 u106 u107 u108 u109 u110 u111 u112 u113 u114 u115 u116 u117 u118 u119 u120 u121 u122 u123 u124 u125 u126 u127 u128 u129 u130 u131 u132 u133 u134 u135 u136 u137 u138 u139 u140 u141 u142 u143 u144 u145 : Value} {va vb vc : Int}
    (la : Lt 3200 va) (lb : Lt 3200 vb) (lc : Lt 3200 vc)
    (hb : Below w.heap.size w wr) (h0 : w.heap.size ≤ g3)
    (o4 : g3 < g4) (o5 : g4 < g5) (o8 : g5 < g8) (o10 : g8 < g10)
    (b3 : Bx wr g3 (va)) (b4 : Bx wr g4 (vb)) (b5 : Bx wr g5 (vc)) (b8 : Bx wr g8 (bop lorf vb vc)) (b10 : Bx wr g10 (bop landf va (bop lorf vb vc))) :
    Code.wp Tryd.prog (tail13 7) (Q13 w) ⟨#[u0, u1, u2, .pointer (some ⟨g3, 0, none⟩), .pointer (some ⟨g4, 0, none⟩), .pointer (some ⟨g5, 0, none⟩), u6, .bool true, .pointer (some ⟨g8, 0, none⟩), u9, .pointer (some ⟨g10, 0, none⟩), .int .i64 0, u12, u13, u14, u15, u16, u17, u18, u19, u20, u21, u22, u23, u24, u25, u26, u27, u28, u29, u30, u31, u32, u33, u34, u35, u36, u37, u38, u39, u40, u41, u42, u43, u44, u45, u46, u47, u48, u49, u50, u51, u52, u53, u54, u55, u56, u57, u58, u59, u60, u61, u62, u63, u64, u65, u66, u67, u68, u69, u70, u71, u72, u73, u74, u75, u76, u77, u78, u79, u80, u81, u82, u83, u84, u85, u86, u87, u88, u89, u90, u91, u92, u93, u94, u95, u96, u97, u98, u99, u100, u101, u102, u103, u104, u105, u106, u107, u108, u109, u110, u111, u112, u113, u114, u115, u116, u117, u118, u119, u120, u121, u122, u123, u124, u125, u126, u127, u128, u129, u130, u131, u132, u133, u134, u135, u136, u137, u138, u139, u140, u141, u142, u143, u144, u145], []⟩ wr := by
  have b3' := b3
  obtain ⟨nA, aA, lA, cA, A, hHA, hRA, hEA⟩ := b3'
  obtain ⟨kA0, kA1, _, _⟩ := two_cells hHA
  have HEA := hid hEA
  clear hEA hHA
  have b4' := b4
  obtain ⟨nB, aB, lB, cB, B, hHB, hRB, hEB⟩ := b4'
  obtain ⟨kB0, kB1, _, _⟩ := two_cells hHB
  have HEB := hid hEB
  clear hEB hHB
  show Code.wp Tryd.prog (Code.seq (head13 7) (tail13 8)) _ _ _
  conv => arg 2; arg 1; whnf
  go_wp2_with fail
  refine (and_ok _ hRA hRB HEA.out HEB.out ((la).sm (by decide)) ((lb).sm (by decide)) (((Lt.bop (m := 100) landf_even (by decide) rfl la lb)).sm (by decide))).mono ?_
  rintro e w2 ⟨n2, ao2, len2, C2, rfl, hR2, hE2, hb2⟩
  have HE2 := hid hE2
  clear hE2
  go_wp2
  have hlast : g10 < w2.heap.size := (b10.keep hb2).lt
  have hb3 := hb.trans (hb2.mono hb.size)
  exact SE_8 la lb lc (hb3.alloc hb3.size _) h0 o4 o5 o8 o10 hlast ((b3.keep hb2).alloc _) ((b4.keep hb2).alloc _) ((b5.keep hb2).alloc _) ((b8.keep hb2).alloc _) ((b10.keep hb2).alloc _) (Bx.new hR2 HE2.out)

set_option maxRecDepth 100000 in
set_option maxHeartbeats 2000000 in
theorem SE_6 {w wr : World} {g3 g4 g5 g8 : Nat} {u0 u1 u2 u6 u9 u10 u11 u12 u13 u14 u15 u16 u17 u18 u19 u20 u21 u22 u23 u24 u25 u26 u27 u28 u29 u30 u31 u32 u33 u34 u35 u36 u37 u38 u39 u40 u41 u42 u43 u44 u45 u46 u47 u48 u49 u50 u51 u52 u53 u54 u55 u56 u57 u58 u59 u60 u61 u62 u63 u64 u65 u66 u67 u68 u69 u70 u71 u72 u73 u74 u75 u76 u77 u78 u79 u80 u81 u82 u83 u84 u85 u86 u87 u88 u89 u90 u91 u92 u93 u94 u95 u96 u97 u98 u99 u100 u101 u102 u103 u104 u105 u106 u107 u108 u109 u110 u111 u112 u113 u114 u115 u116 u117 u118 u119 u120 u121 u122 u123 u124 u125 u126 u127 u128 u129 u130 u131 u132 u133 u134 u135 u136 u137 u138 u139 u140 u141 u142 u143 u144 u145 : Value} {va vb vc : Int}
    (la : Lt 3200 va) (lb : Lt 3200 vb) (lc : Lt 3200 vc)
    (hb : Below w.heap.size w wr) (h0 : w.heap.size ≤ g3)
    (o4 : g3 < g4) (o5 : g4 < g5) (o8 : g5 < g8)
    (b3 : Bx wr g3 (va)) (b4 : Bx wr g4 (vb)) (b5 : Bx wr g5 (vc)) (b8 : Bx wr g8 (bop lorf vb vc)) :
    Code.wp Tryd.prog (tail13 6) (Q13 w) ⟨#[u0, u1, u2, .pointer (some ⟨g3, 0, none⟩), .pointer (some ⟨g4, 0, none⟩), .pointer (some ⟨g5, 0, none⟩), u6, .bool true, .pointer (some ⟨g8, 0, none⟩), u9, u10, u11, u12, u13, u14, u15, u16, u17, u18, u19, u20, u21, u22, u23, u24, u25, u26, u27, u28, u29, u30, u31, u32, u33, u34, u35, u36, u37, u38, u39, u40, u41, u42, u43, u44, u45, u46, u47, u48, u49, u50, u51, u52, u53, u54, u55, u56, u57, u58, u59, u60, u61, u62, u63, u64, u65, u66, u67, u68, u69, u70, u71, u72, u73, u74, u75, u76, u77, u78, u79, u80, u81, u82, u83, u84, u85, u86, u87, u88, u89, u90, u91, u92, u93, u94, u95, u96, u97, u98, u99, u100, u101, u102, u103, u104, u105, u106, u107, u108, u109, u110, u111, u112, u113, u114, u115, u116, u117, u118, u119, u120, u121, u122, u123, u124, u125, u126, u127, u128, u129, u130, u131, u132, u133, u134, u135, u136, u137, u138, u139, u140, u141, u142, u143, u144, u145], []⟩ wr := by
  have b3' := b3
  obtain ⟨nA, aA, lA, cA, A, hHA, hRA, hEA⟩ := b3'
  obtain ⟨kA0, kA1, _, _⟩ := two_cells hHA
  have HEA := hid hEA
  clear hEA hHA
  have b8' := b8
  obtain ⟨nB, aB, lB, cB, B, hHB, hRB, hEB⟩ := b8'
  obtain ⟨kB0, kB1, _, _⟩ := two_cells hHB
  have HEB := hid hEB
  clear hEB hHB
  show Code.wp Tryd.prog (Code.seq (head13 6) (tail13 7)) _ _ _
  conv => arg 2; arg 1; whnf
  go_wp2_with fail
  refine (and_ok _ hRA hRB HEA.out HEB.out ((la).sm (by decide)) (((Lt.bop (m := 100) lorf_even (by decide) rfl lb lc)).sm (by decide)) (((Lt.bop (m := 101) landf_even (by decide) rfl (Lt.mono la (k := 3232) (by decide)) (Lt.mono (Lt.bop (m := 100) lorf_even (by decide) rfl lb lc) (k := 3232) (by decide)))).sm (by decide))).mono ?_
  rintro e w2 ⟨n2, ao2, len2, C2, rfl, hR2, hE2, hb2⟩
  have HE2 := hid hE2
  clear hE2
  go_wp2
  have hlast : g8 < w2.heap.size := (b8.keep hb2).lt
  have hb3 := hb.trans (hb2.mono hb.size)
  exact SE_7 la lb lc (hb3.alloc hb3.size _) h0 o4 o5 o8 hlast ((b3.keep hb2).alloc _) ((b4.keep hb2).alloc _) ((b5.keep hb2).alloc _) ((b8.keep hb2).alloc _) (Bx.new hR2 HE2.out)

set_option maxRecDepth 100000 in
set_option maxHeartbeats 2000000 in
theorem SE_5 {w wr : World} {g3 g4 g5 : Nat} {u0 u1 u2 u6 u8 u9 u10 u11 u12 u13 u14 u15 u16 u17 u18 u19 u20 u21 u22 u23 u24 u25 u26 u27 u28 u29 u30 u31 u32 u33 u34 u35 u36 u37 u38 u39 u40 u41 u42 u43 u44 u45 u46 u47 u48 u49 u50 u51 u52 u53 u54 u55 u56 u57 u58 u59 u60 u61 u62 u63 u64 u65 u66 u67 u68 u69 u70 u71 u72 u73 u74 u75 u76 u77 u78 u79 u80 u81 u82 u83 u84 u85 u86 u87 u88 u89 u90 u91 u92 u93 u94 u95 u96 u97 u98 u99 u100 u101 u102 u103 u104 u105 u106 u107 u108 u109 u110 u111 u112 u113 u114 u115 u116 u117 u118 u119 u120 u121 u122 u123 u124 u125 u126 u127 u128 u129 u130 u131 u132 u133 u134 u135 u136 u137 u138 u139 u140 u141 u142 u143 u144 u145 : Value} {va vb vc : Int}
    (la : Lt 3200 va) (lb : Lt 3200 vb) (lc : Lt 3200 vc)
    (hb : Below w.heap.size w wr) (h0 : w.heap.size ≤ g3)
    (o4 : g3 < g4) (o5 : g4 < g5)
    (b3 : Bx wr g3 (va)) (b4 : Bx wr g4 (vb)) (b5 : Bx wr g5 (vc)) :
    Code.wp Tryd.prog (tail13 5) (Q13 w) ⟨#[u0, u1, u2, .pointer (some ⟨g3, 0, none⟩), .pointer (some ⟨g4, 0, none⟩), .pointer (some ⟨g5, 0, none⟩), u6, .bool true, u8, u9, u10, u11, u12, u13, u14, u15, u16, u17, u18, u19, u20, u21, u22, u23, u24, u25, u26, u27, u28, u29, u30, u31, u32, u33, u34, u35, u36, u37, u38, u39, u40, u41, u42, u43, u44, u45, u46, u47, u48, u49, u50, u51, u52, u53, u54, u55, u56, u57, u58, u59, u60, u61, u62, u63, u64, u65, u66, u67, u68, u69, u70, u71, u72, u73, u74, u75, u76, u77, u78, u79, u80, u81, u82, u83, u84, u85, u86, u87, u88, u89, u90, u91, u92, u93, u94, u95, u96, u97, u98, u99, u100, u101, u102, u103, u104, u105, u106, u107, u108, u109, u110, u111, u112, u113, u114, u115, u116, u117, u118, u119, u120, u121, u122, u123, u124, u125, u126, u127, u128, u129, u130, u131, u132, u133, u134, u135, u136, u137, u138, u139, u140, u141, u142, u143, u144, u145], []⟩ wr := by
  have b4' := b4
  obtain ⟨nA, aA, lA, cA, A, hHA, hRA, hEA⟩ := b4'
  obtain ⟨kA0, kA1, _, _⟩ := two_cells hHA
  have HEA := hid hEA
  clear hEA hHA
  have b5' := b5
  obtain ⟨nB, aB, lB, cB, B, hHB, hRB, hEB⟩ := b5'
  obtain ⟨kB0, kB1, _, _⟩ := two_cells hHB
  have HEB := hid hEB
  clear hEB hHB
  show Code.wp Tryd.prog (Code.seq (head13 5) (tail13 6)) _ _ _
  conv => arg 2; arg 1; whnf
  go_wp2_with fail
  refine (or_ok _ hRA hRB HEA.out HEB.out ((lb).sm (by decide)) ((lc).sm (by decide)) (((Lt.bop (m := 100) lorf_even (by decide) rfl lb lc)).sm (by decide))).mono ?_
  rintro e w2 ⟨n2, ao2, len2, C2, rfl, hR2, hE2, hb2⟩
  have HE2 := hid hE2
  clear hE2
  go_wp2
  have hlast : g5 < w2.heap.size := (b5.keep hb2).lt
  have hb3 := hb.trans (hb2.mono hb.size)
  exact SE_6 la lb lc (hb3.alloc hb3.size _) h0 o4 o5 hlast ((b3.keep hb2).alloc _) ((b4.keep hb2).alloc _) ((b5.keep hb2).alloc _) (Bx.new hR2 HE2.out)

set_option maxRecDepth 100000 in
set_option maxHeartbeats 2000000 in
theorem SE_4 {w wr : World} {g3 g4 g5 : Nat} {u0 u1 u2 u6 u8 u9 u10 u11 u12 u13 u14 u15 u16 u17 u18 u19 u20 u21 u22 u23 u24 u25 u26 u27 u28 u29 u30 u31 u32 u33 u34 u35 u36 u37 u38 u39 u40 u41 u42 u43 u44 u45 u46 u47 u48 u49 u50 u51 u52 u53 u54 u55 u56 u57 u58 u59 u60 u61 u62 u63 u64 u65 u66 u67 u68 u69 u70 u71 u72 u73 u74 u75 u76 u77 u78 u79 u80 u81 u82 u83 u84 u85 u86 u87 u88 u89 u90 u91 u92 u93 u94 u95 u96 u97 u98 u99 u100 u101 u102 u103 u104 u105 u106 u107 u108 u109 u110 u111 u112 u113 u114 u115 u116 u117 u118 u119 u120 u121 u122 u123 u124 u125 u126 u127 u128 u129 u130 u131 u132 u133 u134 u135 u136 u137 u138 u139 u140 u141 u142 u143 u144 u145 : Value} {va vb vc : Int}
    (la : Lt 3200 va) (lb : Lt 3200 vb)
    (hb : Below w.heap.size w wr) (h0 : w.heap.size ≤ g3)
    (o4 : g3 < g4) (o5 : g4 < g5)
    (b3 : Bx wr g3 (va)) (b4 : Bx wr g4 (vb)) (b5 : Bx wr g5 (vc)) :
    Code.wp Tryd.prog (tail13 4) (Q13 w) ⟨#[u0, u1, u2, .pointer (some ⟨g3, 0, none⟩), .pointer (some ⟨g4, 0, none⟩), .pointer (some ⟨g5, 0, none⟩), u6, .bool true, u8, u9, u10, u11, u12, u13, u14, u15, u16, u17, u18, u19, u20, u21, u22, u23, u24, u25, u26, u27, u28, u29, u30, u31, u32, u33, u34, u35, u36, u37, u38, u39, u40, u41, u42, u43, u44, u45, u46, u47, u48, u49, u50, u51, u52, u53, u54, u55, u56, u57, u58, u59, u60, u61, u62, u63, u64, u65, u66, u67, u68, u69, u70, u71, u72, u73, u74, u75, u76, u77, u78, u79, u80, u81, u82, u83, u84, u85, u86, u87, u88, u89, u90, u91, u92, u93, u94, u95, u96, u97, u98, u99, u100, u101, u102, u103, u104, u105, u106, u107, u108, u109, u110, u111, u112, u113, u114, u115, u116, u117, u118, u119, u120, u121, u122, u123, u124, u125, u126, u127, u128, u129, u130, u131, u132, u133, u134, u135, u136, u137, u138, u139, u140, u141, u142, u143, u144, u145], []⟩ wr := by
  have b5' := b5
  obtain ⟨nA, aA, lA, cA, A, hHA, hRA, hEA⟩ := b5'
  obtain ⟨kA0, kA1, _, _⟩ := two_cells hHA
  have HEA := hid hEA
  clear hEA hHA
  show Code.wp Tryd.prog (Code.seq (head13 4) (tail13 5)) _ _ _
  conv => arg 2; arg 1; whnf
  go_wp2_with fail
  refine (few_any nA aA lA cA A 100 _ hRA (by decide) (by decide)).mono ?_
  rintro e w2 ⟨ao2, len2, cap2, rfl, hR2, hb2⟩
  have hlt : Lt 3200 (num nA (A.take 100)) := lt_take hRA.ok _ rfl
  obtain ⟨nP, aP, lP, cP, P, hHP, _, _⟩ := b5.keep hb2
  obtain ⟨kP0, kP1, kP2, kP3⟩ := two_cells hHP
  clear hHP
  go_wp2
  have hb3 := hb.trans (hb2.mono hb.size)
  exact SE_5 la lb hlt (below_put hb3 (by omega) _ _) h0 o4 o5 ((b3.keep hb2).put_other (b5.keep hb2) (by omega) _ _) ((b4.keep hb2).put_other (b5.keep hb2) (by omega) _ _) ((b5.keep hb2).put hR2 rfl)

set_option maxRecDepth 100000 in
set_option maxHeartbeats 2000000 in
theorem SE_3 {w wr : World} {g3 g4 g5 : Nat} {u0 u1 u2 u6 u8 u9 u10 u11 u12 u13 u14 u15 u16 u17 u18 u19 u20 u21 u22 u23 u24 u25 u26 u27 u28 u29 u30 u31 u32 u33 u34 u35 u36 u37 u38 u39 u40 u41 u42 u43 u44 u45 u46 u47 u48 u49 u50 u51 u52 u53 u54 u55 u56 u57 u58 u59 u60 u61 u62 u63 u64 u65 u66 u67 u68 u69 u70 u71 u72 u73 u74 u75 u76 u77 u78 u79 u80 u81 u82 u83 u84 u85 u86 u87 u88 u89 u90 u91 u92 u93 u94 u95 u96 u97 u98 u99 u100 u101 u102 u103 u104 u105 u106 u107 u108 u109 u110 u111 u112 u113 u114 u115 u116 u117 u118 u119 u120 u121 u122 u123 u124 u125 u126 u127 u128 u129 u130 u131 u132 u133 u134 u135 u136 u137 u138 u139 u140 u141 u142 u143 u144 u145 : Value} {va vb vc : Int}
    (la : Lt 3200 va)
    (hb : Below w.heap.size w wr) (h0 : w.heap.size ≤ g3)
    (o4 : g3 < g4) (o5 : g4 < g5)
    (b3 : Bx wr g3 (va)) (b4 : Bx wr g4 (vb)) (b5 : Bx wr g5 (vc)) :
    Code.wp Tryd.prog (tail13 3) (Q13 w) ⟨#[u0, u1, u2, .pointer (some ⟨g3, 0, none⟩), .pointer (some ⟨g4, 0, none⟩), .pointer (some ⟨g5, 0, none⟩), u6, .bool true, u8, u9, u10, u11, u12, u13, u14, u15, u16, u17, u18, u19, u20, u21, u22, u23, u24, u25, u26, u27, u28, u29, u30, u31, u32, u33, u34, u35, u36, u37, u38, u39, u40, u41, u42, u43, u44, u45, u46, u47, u48, u49, u50, u51, u52, u53, u54, u55, u56, u57, u58, u59, u60, u61, u62, u63, u64, u65, u66, u67, u68, u69, u70, u71, u72, u73, u74, u75, u76, u77, u78, u79, u80, u81, u82, u83, u84, u85, u86, u87, u88, u89, u90, u91, u92, u93, u94, u95, u96, u97, u98, u99, u100, u101, u102, u103, u104, u105, u106, u107, u108, u109, u110, u111, u112, u113, u114, u115, u116, u117, u118, u119, u120, u121, u122, u123, u124, u125, u126, u127, u128, u129, u130, u131, u132, u133, u134, u135, u136, u137, u138, u139, u140, u141, u142, u143, u144, u145], []⟩ wr := by
  have b4' := b4
  obtain ⟨nA, aA, lA, cA, A, hHA, hRA, hEA⟩ := b4'
  obtain ⟨kA0, kA1, _, _⟩ := two_cells hHA
  have HEA := hid hEA
  clear hEA hHA
  show Code.wp Tryd.prog (Code.seq (head13 3) (tail13 4)) _ _ _
  conv => arg 2; arg 1; whnf
  go_wp2_with fail
  refine (few_any nA aA lA cA A 100 _ hRA (by decide) (by decide)).mono ?_
  rintro e w2 ⟨ao2, len2, cap2, rfl, hR2, hb2⟩
  have hlt : Lt 3200 (num nA (A.take 100)) := lt_take hRA.ok _ rfl
  obtain ⟨nP, aP, lP, cP, P, hHP, _, _⟩ := b4.keep hb2
  obtain ⟨kP0, kP1, kP2, kP3⟩ := two_cells hHP
  clear hHP
  go_wp2
  have hb3 := hb.trans (hb2.mono hb.size)
  exact SE_4 la hlt (below_put hb3 (by omega) _ _) h0 o4 o5 ((b3.keep hb2).put_other (b4.keep hb2) (by omega) _ _) ((b4.keep hb2).put hR2 rfl) ((b5.keep hb2).put_other (b4.keep hb2) (by omega) _ _)

set_option maxRecDepth 100000 in
set_option maxHeartbeats 2000000 in
theorem SE_2 {w wr : World} {g3 g4 g5 : Nat} {u0 u1 u2 u6 u8 u9 u10 u11 u12 u13 u14 u15 u16 u17 u18 u19 u20 u21 u22 u23 u24 u25 u26 u27 u28 u29 u30 u31 u32 u33 u34 u35 u36 u37 u38 u39 u40 u41 u42 u43 u44 u45 u46 u47 u48 u49 u50 u51 u52 u53 u54 u55 u56 u57 u58 u59 u60 u61 u62 u63 u64 u65 u66 u67 u68 u69 u70 u71 u72 u73 u74 u75 u76 u77 u78 u79 u80 u81 u82 u83 u84 u85 u86 u87 u88 u89 u90 u91 u92 u93 u94 u95 u96 u97 u98 u99 u100 u101 u102 u103 u104 u105 u106 u107 u108 u109 u110 u111 u112 u113 u114 u115 u116 u117 u118 u119 u120 u121 u122 u123 u124 u125 u126 u127 u128 u129 u130 u131 u132 u133 u134 u135 u136 u137 u138 u139 u140 u141 u142 u143 u144 u145 : Value} {va vb vc : Int}
    
    (hb : Below w.heap.size w wr) (h0 : w.heap.size ≤ g3)
    (o4 : g3 < g4) (o5 : g4 < g5)
    (b3 : Bx wr g3 (va)) (b4 : Bx wr g4 (vb)) (b5 : Bx wr g5 (vc)) :
    Code.wp Tryd.prog (tail13 2) (Q13 w) ⟨#[u0, u1, u2, .pointer (some ⟨g3, 0, none⟩), .pointer (some ⟨g4, 0, none⟩), .pointer (some ⟨g5, 0, none⟩), u6, .bool true, u8, u9, u10, u11, u12, u13, u14, u15, u16, u17, u18, u19, u20, u21, u22, u23, u24, u25, u26, u27, u28, u29, u30, u31, u32, u33, u34, u35, u36, u37, u38, u39, u40, u41, u42, u43, u44, u45, u46, u47, u48, u49, u50, u51, u52, u53, u54, u55, u56, u57, u58, u59, u60, u61, u62, u63, u64, u65, u66, u67, u68, u69, u70, u71, u72, u73, u74, u75, u76, u77, u78, u79, u80, u81, u82, u83, u84, u85, u86, u87, u88, u89, u90, u91, u92, u93, u94, u95, u96, u97, u98, u99, u100, u101, u102, u103, u104, u105, u106, u107, u108, u109, u110, u111, u112, u113, u114, u115, u116, u117, u118, u119, u120, u121, u122, u123, u124, u125, u126, u127, u128, u129, u130, u131, u132, u133, u134, u135, u136, u137, u138, u139, u140, u141, u142, u143, u144, u145], []⟩ wr := by
  have b3' := b3
  obtain ⟨nA, aA, lA, cA, A, hHA, hRA, hEA⟩ := b3'
  obtain ⟨kA0, kA1, _, _⟩ := two_cells hHA
  have HEA := hid hEA
  clear hEA hHA
  show Code.wp Tryd.prog (Code.seq (head13 2) (tail13 3)) _ _ _
  conv => arg 2; arg 1; whnf
  go_wp2_with fail
  refine (few_any nA aA lA cA A 100 _ hRA (by decide) (by decide)).mono ?_
  rintro e w2 ⟨ao2, len2, cap2, rfl, hR2, hb2⟩
  have hlt : Lt 3200 (num nA (A.take 100)) := lt_take hRA.ok _ rfl
  obtain ⟨nP, aP, lP, cP, P, hHP, _, _⟩ := b3.keep hb2
  obtain ⟨kP0, kP1, kP2, kP3⟩ := two_cells hHP
  clear hHP
  go_wp2
  have hb3 := hb.trans (hb2.mono hb.size)
  exact SE_3 hlt (below_put hb3 (by omega) _ _) h0 o4 o5 ((b3.keep hb2).put hR2 rfl) ((b4.keep hb2).put_other (b3.keep hb2) (by omega) _ _) ((b5.keep hb2).put_other (b3.keep hb2) (by omega) _ _)

set_option maxRecDepth 100000 in
set_option maxHeartbeats 2000000 in
theorem sets_yes {na : Bool} {aa : Option Addr} {la ca : Nat} {A : List Nat} {nb : Bool} {ab : Option Addr} {lb cb : Nat} {B : List Nat} {nc : Bool} {ac : Option Addr} {lc cc : Nat} {C : List Nat} (w : World) (hA : Rd w aa la ca A) (hB : Rd w ab lb cb B) (hC : Rd w ac lc cc C) :
    Calls Tryd.prog 13 #[.agg #[.bool na, .slice aa la ca], .agg #[.bool nb, .slice ab lb cb], .agg #[.bool nc, .slice ac lc cc]] w fun e w' => e = .returned (.bool true) ∧ Below w.heap.size w w' := by
  have X0 := ((Bx.new (n := na) hA rfl).alloc (.cells #[.bool nb, .slice ab lb cb] 24)).alloc (.cells #[.bool nc, .slice ac lc cc] 24)
  have X1 := (Bx.new (n := nb) (hB.alloc (.cells #[.bool na, .slice aa la ca] 24)) rfl).alloc (.cells #[.bool nc, .slice ac lc cc] 24)
  have X2 := Bx.new (n := nc) ((hC.alloc (.cells #[.bool na, .slice aa la ca] 24)).alloc (.cells #[.bool nb, .slice ab lb cb] 24)) rfl
  rw [show (w.alloc (.cells #[.bool na, .slice aa la ca] 24)).heap.size = w.heap.size + 1 by simp] at X1
  rw [show ((w.alloc (.cells #[.bool na, .slice aa la ca] 24)).alloc (.cells #[.bool nb, .slice ab lb cb] 24)).heap.size = w.heap.size + 1 + 1 by simp] at X2
  have hb := (((Below.refl w.heap.size w).alloc (Nat.le_refl _) (.cells #[.bool na, .slice aa la ca] 24)).alloc (by simp) (.cells #[.bool nb, .slice ab lb cb] 24)).alloc (by simp; omega) (.cells #[.bool nc, .slice ac lc cc] 24)
  go_enter Tryd.func13, Tryd.ntmps13
  change Code.wp Tryd.prog (Code.seq (head13 0) (tail13 1)) (Q13 w) _ _
  conv => arg 2; arg 1; whnf
  go_wp2
  show Code.wp Tryd.prog (Code.seq (head13 1) (tail13 2)) _ _ _
  conv => arg 2; arg 1; whnf
  go_wp2_with fail
  refine (awake_yes _).mono ?_
  rintro e w2 ⟨rfl, hb2⟩
  go_wp2
  exact SE_2 (hb.trans (hb2.mono hb.size)) (Nat.le_refl _) (by simp) (by simp) (X0.keep hb2) (X1.keep hb2) (X2.keep hb2)
end Go.Proofs.YtldafoojkimdeaaDoor
