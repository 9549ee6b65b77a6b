/- The law BigintRings, region by region. -/
import Derived.Test.YtldafoojkimdeaaDoorW34
namespace Go.Proofs.YtldafoojkimdeaaDoor
open Go.RowKit Lm

/-- A number of less than so many bits. -/
def Lt (k : Nat) (v : Int) : Prop := v.natAbs < 2 ^ k
theorem Lt.sm {k : Nat} {v : Int} (h : Lt k v) (hk : k ≤ 4096) : Sm v := sm_of h hk
theorem Lt.mono {j k : Nat} {v : Int} (h : Lt j v) (hk : j ≤ k) : Lt k v := Nat.lt_of_lt_of_le h (Nat.pow_le_pow_right (by decide) hk)
theorem Lt.add {j k : Nat} {u v : Int} (h : Lt j u) (h' : Lt k v) : Lt (max j k + 1) (u + v) := by
  have h1 := h.mono (Nat.le_max_left j k)
  have h2 := h'.mono (Nat.le_max_right j k)
  unfold Lt at *
  rw [Nat.pow_succ]; omega
theorem Lt.neg {j : Nat} {u : Int} (h : Lt j u) : Lt j (-u) := by unfold Lt at *; omega
theorem Lt.sub {j k : Nat} {u v : Int} (h : Lt j u) (h' : Lt k v) : Lt (max j k + 1) (u - v) := by
  rw [Int.sub_eq_add_neg]; exact h.add h'.neg
theorem Lt.mul {j k : Nat} {u v : Int} (h : Lt j u) (h' : Lt k v) : Lt (j + k) (u * v) := by
  unfold Lt at *
  rw [Int.natAbs_mul, Nat.pow_add]
  exact Nat.mul_lt_mul'' h h'
theorem lt_take {n : Bool} {A : List Nat} (hA : Ok A) (m : Nat) {k : Nat} (hk : k = 32 * m) : Lt k (num n (A.take m)) := by
  unfold Lt
  rw [num_abs, hk, ← P_two]
  exact Nat.lt_of_lt_of_le (val_lt (hA.take m)) (P_le (by rw [List.length_take]; exact Nat.min_le_left _ _))

/-- The code from its region on, and its first region. -/
def seqDrop : Nat → Code → Code
  | 0, c => c
  | n + 1, .seq _ b => seqDrop n b
  | _ + 1, c => c
def seqHead : Code → Code
  | .seq a _ => a
  | c => c
noncomputable def tail10 (n : Nat) : Code := seqDrop n (Tryd.f10.body.getD .skip)
noncomputable def head10 (n : Nat) : Code := seqHead (tail10 n)
noncomputable def Q10 (w : World) : Exit → Act → World → Prop := bodyPost Tryd.prog Tryd.f10 fun e w' => e = .returned (.bool true) ∧ Below w.heap.size w w'

set_option maxRecDepth 100000 in
set_option maxHeartbeats 2000000 in
theorem T_25 {w wr : World} {g3 g4 g5 g8 g10 g14 g16 g18 g21 g25 : Nat} {u0 u1 u2 u6 u15 u17 u19 u22 u26 u28 u29 u30 u31 u32 u33 u34 u35 u36 u37 u38 u39 u40 u41 u42 u43 u44 u45 u46 u47 u48 u49 u50 u51 u52 u53 u54 u55 u56 u57 u58 u59 u60 u61 u62 u63 u64 u65 u66 u67 u68 u69 u70 u71 u72 u73 u74 u75 u76 u77 u78 u79 u80 u81 u82 u83 u84 u85 u86 u87 u88 u89 u90 u91 u92 u93 u94 u95 u96 u97 u98 u99 u100 u101 u102 u103 u104 u105 u106 u107 u108 u109 u110 u111 u112 u113 u114 u115 u116 u117 u118 u119 u120 u121 u122 u123 u124 u125 u126 u127 u128 u129 u130 u131 u132 u133 u134 u135 u136 u137 u138 u139 u140 u141 u142 u143 u144 u145 u146 u147 u148 u149 u150 u151 u152 u153 u154 u155 u156 u157 u158 u159 u160 u161 u162 u163 u164 u165 u166 u167 : Value} {va vb vc : Int}
    (_la : Lt 1280 va) (_lb : Lt 1280 vb) (_lc : Lt 1280 vc)
    (hb : Below w.heap.size w wr) (_h0 : w.heap.size ≤ g3)
    (_o4 : g3 < g4) (_o5 : g4 < g5) (_o8 : g5 < g8) (_o10 : g8 < g10) (_o14 : g10 < g14) (_o16 : g14 < g16) (_o18 : g16 < g18) (_o21 : g18 < g21) (_o25 : g21 < g25)
    (_b3 : Bx wr g3 (va)) (_b4 : Bx wr g4 (vb)) (_b5 : Bx wr g5 (vc)) (_b8 : Bx wr g8 (va * vb * vc)) (_b10 : Bx wr g10 (va * (vb * vc))) (_b14 : Bx wr g14 (vb + vc)) (_b16 : Bx wr g16 (va * vb)) (_b18 : Bx wr g18 (va * vc)) (_b21 : Bx wr g21 (va - vb)) (_b25 : Bx wr g25 (vb * vc)) :
    Code.wp Tryd.prog (tail10 25) (Q10 w) ⟨#[u0, u1, u2, .pointer (some ⟨g3, 0, none⟩), .pointer (some ⟨g4, 0, none⟩), .pointer (some ⟨g5, 0, none⟩), u6, .bool true, .pointer (some ⟨g8, 0, none⟩), .int .i64 0, .pointer (some ⟨g10, 0, none⟩), .int .i64 0, .bool true, .bool true, .pointer (some ⟨g14, 0, none⟩), u15, .pointer (some ⟨g16, 0, none⟩), u17, .pointer (some ⟨g18, 0, none⟩), u19, .bool true, .pointer (some ⟨g21, 0, none⟩), u22, .bool true, .bool true, .pointer (some ⟨g25, 0, none⟩), u26, .bool true, u28, u29, u30, u31, u32, u33, u34, u35, u36, u37, u38, u39, u40, u41, u42, u43, u44, u45, u46, u47, u48, u49, u50, u51, u52, u53, u54, u55, u56, u57, u58, u59, u60, u61, u62, u63, u64, u65, u66, u67, u68, u69, u70, u71, u72, u73, u74, u75, u76, u77, u78, u79, u80, u81, u82, u83, u84, u85, u86, u87, u88, u89, u90, u91, u92, u93, u94, u95, u96, u97, u98, u99, u100, u101, u102, u103, u104, u105, u106, u107, u108, u109, u110, u111, u112, u113, u114, u115, u116, u117, u118, u119, u120, u121, u122, u123, u124, u125, u126, u127, u128, u129, u130, u131, u132, u133, u134, u135, u136, u137, u138, u139, u140, u141, u142, u143, u144, u145, u146, u147, u148, u149, u150, u151, u152, u153, u154, u155, u156, u157, u158, u159, u160, u161, u162, u163, u164, u165, u166, u167], []⟩ wr := by
  conv => arg 2; whnf
  unfold Q10
  go_wp2
  go_ret
  exact ⟨rfl, hb⟩

set_option maxRecDepth 100000 in
set_option maxHeartbeats 2000000 in
theorem T_24 {w wr : World} {g3 g4 g5 g8 g10 g14 g16 g18 g21 g25 : Nat} {u0 u1 u2 u6 u15 u17 u19 u22 u26 u27 u28 u29 u30 u31 u32 u33 u34 u35 u36 u37 u38 u39 u40 u41 u42 u43 u44 u45 u46 u47 u48 u49 u50 u51 u52 u53 u54 u55 u56 u57 u58 u59 u60 u61 u62 u63 u64 u65 u66 u67 u68 u69 u70 u71 u72 u73 u74 u75 u76 u77 u78 u79 u80 u81 u82 u83 u84 u85 u86 u87 u88 u89 u90 u91 u92 u93 u94 u95 u96 u97 u98 u99 u100 u101 u102 u103 u104 u105 u106 u107 u108 u109 u110 u111 u112 u113 u114 u115 u116 u117 u118 u119 u120 u121 u122 u123 u124 u125 u126 u127 u128 u129 u130 u131 u132 u133 u134 u135 u136 u137 u138 u139 u140 u141 u142 u143 u144 u145 u146 u147 u148 u149 u150 u151 u152 u153 u154 u155 u156 u157 u158 u159 u160 u161 u162 u163 u164 u165 u166 u167 : Value} {va vb vc : Int}
    (la : Lt 1280 va) (lb : Lt 1280 vb) (lc : Lt 1280 vc)
    (hb : Below w.heap.size w wr) (h0 : w.heap.size ≤ g3)
    (o4 : g3 < g4) (o5 : g4 < g5) (o8 : g5 < g8) (o10 : g8 < g10) (o14 : g10 < g14) (o16 : g14 < g16) (o18 : g16 < g18) (o21 : g18 < g21) (o25 : g21 < g25)
    (b3 : Bx wr g3 (va)) (b4 : Bx wr g4 (vb)) (b5 : Bx wr g5 (vc)) (b8 : Bx wr g8 (va * vb * vc)) (b10 : Bx wr g10 (va * (vb * vc))) (b14 : Bx wr g14 (vb + vc)) (b16 : Bx wr g16 (va * vb)) (b18 : Bx wr g18 (va * vc)) (b21 : Bx wr g21 (va - vb)) (b25 : Bx wr g25 (vb * vc)) :
    Code.wp Tryd.prog (tail10 24) (Q10 w) ⟨#[u0, u1, u2, .pointer (some ⟨g3, 0, none⟩), .pointer (some ⟨g4, 0, none⟩), .pointer (some ⟨g5, 0, none⟩), u6, .bool true, .pointer (some ⟨g8, 0, none⟩), .int .i64 0, .pointer (some ⟨g10, 0, none⟩), .int .i64 0, .bool true, .bool true, .pointer (some ⟨g14, 0, none⟩), u15, .pointer (some ⟨g16, 0, none⟩), u17, .pointer (some ⟨g18, 0, none⟩), u19, .bool true, .pointer (some ⟨g21, 0, none⟩), u22, .bool true, .bool true, .pointer (some ⟨g25, 0, none⟩), u26, u27, u28, u29, u30, u31, u32, u33, u34, u35, u36, u37, u38, u39, u40, u41, u42, u43, u44, u45, u46, u47, u48, u49, u50, u51, u52, u53, u54, u55, u56, u57, u58, u59, u60, u61, u62, u63, u64, u65, u66, u67, u68, u69, u70, u71, u72, u73, u74, u75, u76, u77, u78, u79, u80, u81, u82, u83, u84, u85, u86, u87, u88, u89, u90, u91, u92, u93, u94, u95, u96, u97, u98, u99, u100, u101, u102, u103, u104, u105, u106, u107, u108, u109, u110, u111, u112, u113, u114, u115, u116, u117, u118, u119, u120, u121, u122, u123, u124, u125, u126, u127, u128, u129, u130, u131, u132, u133, u134, u135, u136, u137, u138, u139, u140, u141, u142, u143, u144, u145, u146, u147, u148, u149, u150, u151, u152, u153, u154, u155, u156, u157, u158, u159, u160, u161, u162, u163, u164, u165, u166, u167], []⟩ wr := by
  have b8' := b8
  obtain ⟨nA, aA, lA, cA, A, hHA, hRA, hEA⟩ := b8'
  obtain ⟨kA0, kA1, _, _⟩ := two_cells hHA
  have HEA := hid hEA
  clear hEA hHA
  have b10' := b10
  obtain ⟨nB, aB, lB, cB, B, hHB, hRB, hEB⟩ := b10'
  obtain ⟨kB0, kB1, _, _⟩ := two_cells hHB
  have HEB := hid hEB
  clear hEB hHB
  show Code.wp Tryd.prog (Code.seq (head10 24) (tail10 25)) _ _ _
  conv => arg 2; arg 1; whnf
  go_wp2_with fail
  refine (same_yes _ 0 hRA hRB (by rw [HEA.out, HEB.out]; exact Int.mul_assoc _ _ _)).mono ?_
  rintro e w2 ⟨rfl, hb2⟩
  go_wp2
  exact T_25 la lb lc (hb.trans (hb2.mono hb.size)) h0 o4 o5 o8 o10 o14 o16 o18 o21 o25 (b3.keep hb2) (b4.keep hb2) (b5.keep hb2) (b8.keep hb2) (b10.keep hb2) (b14.keep hb2) (b16.keep hb2) (b18.keep hb2) (b21.keep hb2) (b25.keep hb2)

set_option maxRecDepth 100000 in
set_option maxHeartbeats 2000000 in
theorem T_23 {w wr : World} {g3 g4 g5 g8 g10 g14 g16 g18 g21 g25 : Nat} {u0 u1 u2 u6 u15 u17 u19 u22 u26 u27 u28 u29 u30 u31 u32 u33 u34 u35 u36 u37 u38 u39 u40 u41 u42 u43 u44 u45 u46 u47 u48 u49 u50 u51 u52 u53 u54 u55 u56 u57 u58 u59 u60 u61 u62 u63 u64 u65 u66 u67 u68 u69 u70 u71 u72 u73 u74 u75 u76 u77 u78 u79 u80 u81 u82 u83 u84 u85 u86 u87 u88 u89 u90 u91 u92 u93 u94 u95 u96 u97 u98 u99 u100 u101 u102 u103 u104 u105 u106 u107 u108 u109 u110 u111 u112 u113 u114 u115 u116 u117 u118 u119 u120 u121 u122 u123 u124 u125 u126 u127 u128 u129 u130 u131 u132 u133 u134 u135 u136 u137 u138 u139 u140 u141 u142 u143 u144 u145 u146 u147 u148 u149 u150 u151 u152 u153 u154 u155 u156 u157 u158 u159 u160 u161 u162 u163 u164 u165 u166 u167 : Value} {va vb vc : Int}
    (la : Lt 1280 va) (lb : Lt 1280 vb) (lc : Lt 1280 vc)
    (hb : Below w.heap.size w wr) (h0 : w.heap.size ≤ g3)
    (o4 : g3 < g4) (o5 : g4 < g5) (o8 : g5 < g8) (o10 : g8 < g10) (o14 : g10 < g14) (o16 : g14 < g16) (o18 : g16 < g18) (o21 : g18 < g21) (o25 : g21 < g25)
    (b3 : Bx wr g3 (va)) (b4 : Bx wr g4 (vb)) (b5 : Bx wr g5 (vc)) (b8 : Bx wr g8 (va * vb * vc)) (b10 : Bx wr g10 (va * vb + va * vc)) (b14 : Bx wr g14 (vb + vc)) (b16 : Bx wr g16 (va * vb)) (b18 : Bx wr g18 (va * vc)) (b21 : Bx wr g21 (va - vb)) (b25 : Bx wr g25 (vb * vc)) :
    Code.wp Tryd.prog (tail10 23) (Q10 w) ⟨#[u0, u1, u2, .pointer (some ⟨g3, 0, none⟩), .pointer (some ⟨g4, 0, none⟩), .pointer (some ⟨g5, 0, none⟩), u6, .bool true, .pointer (some ⟨g8, 0, none⟩), .int .i64 0, .pointer (some ⟨g10, 0, none⟩), .int .i64 0, .bool true, .bool true, .pointer (some ⟨g14, 0, none⟩), u15, .pointer (some ⟨g16, 0, none⟩), u17, .pointer (some ⟨g18, 0, none⟩), u19, .bool true, .pointer (some ⟨g21, 0, none⟩), u22, .bool true, .bool true, .pointer (some ⟨g25, 0, none⟩), u26, u27, u28, u29, u30, u31, u32, u33, u34, u35, u36, u37, u38, u39, u40, u41, u42, u43, u44, u45, u46, u47, u48, u49, u50, u51, u52, u53, u54, u55, u56, u57, u58, u59, u60, u61, u62, u63, u64, u65, u66, u67, u68, u69, u70, u71, u72, u73, u74, u75, u76, u77, u78, u79, u80, u81, u82, u83, u84, u85, u86, u87, u88, u89, u90, u91, u92, u93, u94, u95, u96, u97, u98, u99, u100, u101, u102, u103, u104, u105, u106, u107, u108, u109, u110, u111, u112, u113, u114, u115, u116, u117, u118, u119, u120, u121, u122, u123, u124, u125, u126, u127, u128, u129, u130, u131, u132, u133, u134, u135, u136, u137, u138, u139, u140, u141, u142, u143, u144, u145, u146, u147, u148, u149, u150, u151, u152, u153, u154, u155, u156, u157, u158, u159, u160, u161, u162, u163, u164, u165, u166, u167], []⟩ wr := by
  have b3' := b3
  obtain ⟨nA, aA, lA, cA, A, hHA, hRA, hEA⟩ := b3'
  obtain ⟨kA0, kA1, _, _⟩ := two_cells hHA
  have HEA := hid hEA
  clear hEA hHA
  have b25' := b25
  obtain ⟨nB, aB, lB, cB, B, hHB, hRB, hEB⟩ := b25'
  obtain ⟨kB0, kB1, _, _⟩ := two_cells hHB
  have HEB := hid hEB
  clear hEB hHB
  show Code.wp Tryd.prog (Code.seq (head10 23) (tail10 24)) _ _ _
  conv => arg 2; arg 1; whnf
  go_wp2_with fail
  refine (mul_ok _ hRA hRB HEA.out HEB.out (la.sm (by decide)) ((Lt.mul lb lc).sm (by decide)) ((Lt.mul la (Lt.mul lb lc)).sm (by decide))).mono ?_
  rintro e w2 ⟨n2, ao2, len2, C2, rfl, hR2, hE2, hb2⟩
  have HE2 := hid hE2
  clear hE2
  obtain ⟨nP, aP, lP, cP, P, hHP, _, _⟩ := b10.keep hb2
  obtain ⟨kP0, kP1, kP2, kP3⟩ := two_cells hHP
  clear hHP
  go_wp2
  have hb3 := hb.trans (hb2.mono hb.size)
  exact T_24 la lb lc (below_put hb3 (by omega) _ _) h0 o4 o5 o8 o10 o14 o16 o18 o21 o25 ((b3.keep hb2).put_other (b10.keep hb2) (by omega) _ _) ((b4.keep hb2).put_other (b10.keep hb2) (by omega) _ _) ((b5.keep hb2).put_other (b10.keep hb2) (by omega) _ _) ((b8.keep hb2).put_other (b10.keep hb2) (by omega) _ _) ((b10.keep hb2).put hR2 HE2.out) ((b14.keep hb2).put_other (b10.keep hb2) (by omega) _ _) ((b16.keep hb2).put_other (b10.keep hb2) (by omega) _ _) ((b18.keep hb2).put_other (b10.keep hb2) (by omega) _ _) ((b21.keep hb2).put_other (b10.keep hb2) (by omega) _ _) ((b25.keep hb2).put_other (b10.keep hb2) (by omega) _ _)

set_option maxRecDepth 100000 in
set_option maxHeartbeats 2000000 in
theorem T_22 {w wr : World} {g3 g4 g5 g8 g10 g14 g16 g18 g21 : Nat} {u0 u1 u2 u6 u15 u17 u19 u22 u25 u26 u27 u28 u29 u30 u31 u32 u33 u34 u35 u36 u37 u38 u39 u40 u41 u42 u43 u44 u45 u46 u47 u48 u49 u50 u51 u52 u53 u54 u55 u56 u57 u58 u59 u60 u61 u62 u63 u64 u65 u66 u67 u68 u69 u70 u71 u72 u73 u74 u75 u76 u77 u78 u79 u80 u81 u82 u83 u84 u85 u86 u87 u88 u89 u90 u91 u92 u93 u94 u95 u96 u97 u98 u99 u100 u101 u102 u103 u104 u105 u106 u107 u108 u109 u110 u111 u112 u113 u114 u115 u116 u117 u118 u119 u120 u121 u122 u123 u124 u125 u126 u127 u128 u129 u130 u131 u132 u133 u134 u135 u136 u137 u138 u139 u140 u141 u142 u143 u144 u145 u146 u147 u148 u149 u150 u151 u152 u153 u154 u155 u156 u157 u158 u159 u160 u161 u162 u163 u164 u165 u166 u167 : Value} {va vb vc : Int}
    (la : Lt 1280 va) (lb : Lt 1280 vb) (lc : Lt 1280 vc)
    (hb : Below w.heap.size w wr) (h0 : w.heap.size ≤ g3)
    (o4 : g3 < g4) (o5 : g4 < g5) (o8 : g5 < g8) (o10 : g8 < g10) (o14 : g10 < g14) (o16 : g14 < g16) (o18 : g16 < g18) (o21 : g18 < g21)
    (b3 : Bx wr g3 (va)) (b4 : Bx wr g4 (vb)) (b5 : Bx wr g5 (vc)) (b8 : Bx wr g8 (va * vb * vc)) (b10 : Bx wr g10 (va * vb + va * vc)) (b14 : Bx wr g14 (vb + vc)) (b16 : Bx wr g16 (va * vb)) (b18 : Bx wr g18 (va * vc)) (b21 : Bx wr g21 (va - vb)) :
    Code.wp Tryd.prog (tail10 22) (Q10 w) ⟨#[u0, u1, u2, .pointer (some ⟨g3, 0, none⟩), .pointer (some ⟨g4, 0, none⟩), .pointer (some ⟨g5, 0, none⟩), u6, .bool true, .pointer (some ⟨g8, 0, none⟩), .int .i64 0, .pointer (some ⟨g10, 0, none⟩), .int .i64 0, .bool true, .bool true, .pointer (some ⟨g14, 0, none⟩), u15, .pointer (some ⟨g16, 0, none⟩), u17, .pointer (some ⟨g18, 0, none⟩), u19, .bool true, .pointer (some ⟨g21, 0, none⟩), u22, .bool true, .bool true, u25, u26, u27, u28, u29, u30, u31, u32, u33, u34, u35, u36, u37, u38, u39, u40, u41, u42, u43, u44, u45, u46, u47, u48, u49, u50, u51, u52, u53, u54, u55, u56, u57, u58, u59, u60, u61, u62, u63, u64, u65, u66, u67, u68, u69, u70, u71, u72, u73, u74, u75, u76, u77, u78, u79, u80, u81, u82, u83, u84, u85, u86, u87, u88, u89, u90, u91, u92, u93, u94, u95, u96, u97, u98, u99, u100, u101, u102, u103, u104, u105, u106, u107, u108, u109, u110, u111, u112, u113, u114, u115, u116, u117, u118, u119, u120, u121, u122, u123, u124, u125, u126, u127, u128, u129, u130, u131, u132, u133, u134, u135, u136, u137, u138, u139, u140, u141, u142, u143, u144, u145, u146, u147, u148, u149, u150, u151, u152, u153, u154, u155, u156, u157, u158, u159, u160, u161, u162, u163, u164, u165, u166, u167], []⟩ wr := by
  have b4' := b4
  obtain ⟨nA, aA, lA, cA, A, hHA, hRA, hEA⟩ := b4'
  obtain ⟨kA0, kA1, _, _⟩ := two_cells hHA
  have HEA := hid hEA
  clear hEA hHA
  have b5' := b5
  obtain ⟨nB, aB, lB, cB, B, hHB, hRB, hEB⟩ := b5'
  obtain ⟨kB0, kB1, _, _⟩ := two_cells hHB
  have HEB := hid hEB
  clear hEB hHB
  show Code.wp Tryd.prog (Code.seq (head10 22) (tail10 23)) _ _ _
  conv => arg 2; arg 1; whnf
  go_wp2_with fail
  refine (mul_ok _ hRA hRB HEA.out HEB.out (lb.sm (by decide)) (lc.sm (by decide)) ((Lt.mul lb lc).sm (by decide))).mono ?_
  rintro e w2 ⟨n2, ao2, len2, C2, rfl, hR2, hE2, hb2⟩
  have HE2 := hid hE2
  clear hE2
  go_wp2
  have hlast : g21 < w2.heap.size := (b21.keep hb2).lt
  have hb3 := hb.trans (hb2.mono hb.size)
  exact T_23 la lb lc (hb3.alloc hb3.size _) h0 o4 o5 o8 o10 o14 o16 o18 o21 hlast ((b3.keep hb2).alloc _) ((b4.keep hb2).alloc _) ((b5.keep hb2).alloc _) ((b8.keep hb2).alloc _) ((b10.keep hb2).alloc _) ((b14.keep hb2).alloc _) ((b16.keep hb2).alloc _) ((b18.keep hb2).alloc _) ((b21.keep hb2).alloc _) (Bx.new hR2 HE2.out)

set_option maxRecDepth 100000 in
set_option maxHeartbeats 2000000 in
theorem T_21 {w wr : World} {g3 g4 g5 g8 g10 g14 g16 g18 g21 : Nat} {u0 u1 u2 u6 u15 u17 u19 u22 u25 u26 u27 u28 u29 u30 u31 u32 u33 u34 u35 u36 u37 u38 u39 u40 u41 u42 u43 u44 u45 u46 u47 u48 u49 u50 u51 u52 u53 u54 u55 u56 u57 u58 u59 u60 u61 u62 u63 u64 u65 u66 u67 u68 u69 u70 u71 u72 u73 u74 u75 u76 u77 u78 u79 u80 u81 u82 u83 u84 u85 u86 u87 u88 u89 u90 u91 u92 u93 u94 u95 u96 u97 u98 u99 u100 u101 u102 u103 u104 u105 u106 u107 u108 u109 u110 u111 u112 u113 u114 u115 u116 u117 u118 u119 u120 u121 u122 u123 u124 u125 u126 u127 u128 u129 u130 u131 u132 u133 u134 u135 u136 u137 u138 u139 u140 u141 u142 u143 u144 u145 u146 u147 u148 u149 u150 u151 u152 u153 u154 u155 u156 u157 u158 u159 u160 u161 u162 u163 u164 u165 u166 u167 : Value} {va vb vc : Int}
    (la : Lt 1280 va) (lb : Lt 1280 vb) (lc : Lt 1280 vc)
    (hb : Below w.heap.size w wr) (h0 : w.heap.size ≤ g3)
    (o4 : g3 < g4) (o5 : g4 < g5) (o8 : g5 < g8) (o10 : g8 < g10) (o14 : g10 < g14) (o16 : g14 < g16) (o18 : g16 < g18) (o21 : g18 < g21)
    (b3 : Bx wr g3 (va)) (b4 : Bx wr g4 (vb)) (b5 : Bx wr g5 (vc)) (b8 : Bx wr g8 (va - vb + vb)) (b10 : Bx wr g10 (va * vb + va * vc)) (b14 : Bx wr g14 (vb + vc)) (b16 : Bx wr g16 (va * vb)) (b18 : Bx wr g18 (va * vc)) (b21 : Bx wr g21 (va - vb)) :
    Code.wp Tryd.prog (tail10 21) (Q10 w) ⟨#[u0, u1, u2, .pointer (some ⟨g3, 0, none⟩), .pointer (some ⟨g4, 0, none⟩), .pointer (some ⟨g5, 0, none⟩), u6, .bool true, .pointer (some ⟨g8, 0, none⟩), .int .i64 0, .pointer (some ⟨g10, 0, none⟩), .int .i64 0, .bool true, .bool true, .pointer (some ⟨g14, 0, none⟩), u15, .pointer (some ⟨g16, 0, none⟩), u17, .pointer (some ⟨g18, 0, none⟩), u19, .bool true, .pointer (some ⟨g21, 0, none⟩), u22, .bool true, .bool true, u25, u26, u27, u28, u29, u30, u31, u32, u33, u34, u35, u36, u37, u38, u39, u40, u41, u42, u43, u44, u45, u46, u47, u48, u49, u50, u51, u52, u53, u54, u55, u56, u57, u58, u59, u60, u61, u62, u63, u64, u65, u66, u67, u68, u69, u70, u71, u72, u73, u74, u75, u76, u77, u78, u79, u80, u81, u82, u83, u84, u85, u86, u87, u88, u89, u90, u91, u92, u93, u94, u95, u96, u97, u98, u99, u100, u101, u102, u103, u104, u105, u106, u107, u108, u109, u110, u111, u112, u113, u114, u115, u116, u117, u118, u119, u120, u121, u122, u123, u124, u125, u126, u127, u128, u129, u130, u131, u132, u133, u134, u135, u136, u137, u138, u139, u140, u141, u142, u143, u144, u145, u146, u147, u148, u149, u150, u151, u152, u153, u154, u155, u156, u157, u158, u159, u160, u161, u162, u163, u164, u165, u166, u167], []⟩ wr := by
  have b16' := b16
  obtain ⟨nA, aA, lA, cA, A, hHA, hRA, hEA⟩ := b16'
  obtain ⟨kA0, kA1, _, _⟩ := two_cells hHA
  have HEA := hid hEA
  clear hEA hHA
  have b5' := b5
  obtain ⟨nB, aB, lB, cB, B, hHB, hRB, hEB⟩ := b5'
  obtain ⟨kB0, kB1, _, _⟩ := two_cells hHB
  have HEB := hid hEB
  clear hEB hHB
  show Code.wp Tryd.prog (Code.seq (head10 21) (tail10 22)) _ _ _
  conv => arg 2; arg 1; whnf
  go_wp2_with fail
  refine (mul_ok _ hRA hRB HEA.out HEB.out ((Lt.mul la lb).sm (by decide)) (lc.sm (by decide)) ((Lt.mul (Lt.mul la lb) lc).sm (by decide))).mono ?_
  rintro e w2 ⟨n2, ao2, len2, C2, rfl, hR2, hE2, hb2⟩
  have HE2 := hid hE2
  clear hE2
  obtain ⟨nP, aP, lP, cP, P, hHP, _, _⟩ := b8.keep hb2
  obtain ⟨kP0, kP1, kP2, kP3⟩ := two_cells hHP
  clear hHP
  go_wp2
  have hb3 := hb.trans (hb2.mono hb.size)
  exact T_22 la lb lc (below_put hb3 (by omega) _ _) h0 o4 o5 o8 o10 o14 o16 o18 o21 ((b3.keep hb2).put_other (b8.keep hb2) (by omega) _ _) ((b4.keep hb2).put_other (b8.keep hb2) (by omega) _ _) ((b5.keep hb2).put_other (b8.keep hb2) (by omega) _ _) ((b8.keep hb2).put hR2 HE2.out) ((b10.keep hb2).put_other (b8.keep hb2) (by omega) _ _) ((b14.keep hb2).put_other (b8.keep hb2) (by omega) _ _) ((b16.keep hb2).put_other (b8.keep hb2) (by omega) _ _) ((b18.keep hb2).put_other (b8.keep hb2) (by omega) _ _) ((b21.keep hb2).put_other (b8.keep hb2) (by omega) _ _)

set_option maxRecDepth 100000 in
set_option maxHeartbeats 2000000 in
theorem T_20 {w wr : World} {g3 g4 g5 g8 g10 g14 g16 g18 g21 : Nat} {u0 u1 u2 u6 u15 u17 u19 u22 u24 u25 u26 u27 u28 u29 u30 u31 u32 u33 u34 u35 u36 u37 u38 u39 u40 u41 u42 u43 u44 u45 u46 u47 u48 u49 u50 u51 u52 u53 u54 u55 u56 u57 u58 u59 u60 u61 u62 u63 u64 u65 u66 u67 u68 u69 u70 u71 u72 u73 u74 u75 u76 u77 u78 u79 u80 u81 u82 u83 u84 u85 u86 u87 u88 u89 u90 u91 u92 u93 u94 u95 u96 u97 u98 u99 u100 u101 u102 u103 u104 u105 u106 u107 u108 u109 u110 u111 u112 u113 u114 u115 u116 u117 u118 u119 u120 u121 u122 u123 u124 u125 u126 u127 u128 u129 u130 u131 u132 u133 u134 u135 u136 u137 u138 u139 u140 u141 u142 u143 u144 u145 u146 u147 u148 u149 u150 u151 u152 u153 u154 u155 u156 u157 u158 u159 u160 u161 u162 u163 u164 u165 u166 u167 : Value} {va vb vc : Int}
    (la : Lt 1280 va) (lb : Lt 1280 vb) (lc : Lt 1280 vc)
    (hb : Below w.heap.size w wr) (h0 : w.heap.size ≤ g3)
    (o4 : g3 < g4) (o5 : g4 < g5) (o8 : g5 < g8) (o10 : g8 < g10) (o14 : g10 < g14) (o16 : g14 < g16) (o18 : g16 < g18) (o21 : g18 < g21)
    (b3 : Bx wr g3 (va)) (b4 : Bx wr g4 (vb)) (b5 : Bx wr g5 (vc)) (b8 : Bx wr g8 (va - vb + vb)) (b10 : Bx wr g10 (va * vb + va * vc)) (b14 : Bx wr g14 (vb + vc)) (b16 : Bx wr g16 (va * vb)) (b18 : Bx wr g18 (va * vc)) (b21 : Bx wr g21 (va - vb)) :
    Code.wp Tryd.prog (tail10 20) (Q10 w) ⟨#[u0, u1, u2, .pointer (some ⟨g3, 0, none⟩), .pointer (some ⟨g4, 0, none⟩), .pointer (some ⟨g5, 0, none⟩), u6, .bool true, .pointer (some ⟨g8, 0, none⟩), .int .i64 0, .pointer (some ⟨g10, 0, none⟩), .int .i64 0, .bool true, .bool true, .pointer (some ⟨g14, 0, none⟩), u15, .pointer (some ⟨g16, 0, none⟩), u17, .pointer (some ⟨g18, 0, none⟩), u19, .bool true, .pointer (some ⟨g21, 0, none⟩), u22, .bool true, u24, u25, u26, u27, u28, u29, u30, u31, u32, u33, u34, u35, u36, u37, u38, u39, u40, u41, u42, u43, u44, u45, u46, u47, u48, u49, u50, u51, u52, u53, u54, u55, u56, u57, u58, u59, u60, u61, u62, u63, u64, u65, u66, u67, u68, u69, u70, u71, u72, u73, u74, u75, u76, u77, u78, u79, u80, u81, u82, u83, u84, u85, u86, u87, u88, u89, u90, u91, u92, u93, u94, u95, u96, u97, u98, u99, u100, u101, u102, u103, u104, u105, u106, u107, u108, u109, u110, u111, u112, u113, u114, u115, u116, u117, u118, u119, u120, u121, u122, u123, u124, u125, u126, u127, u128, u129, u130, u131, u132, u133, u134, u135, u136, u137, u138, u139, u140, u141, u142, u143, u144, u145, u146, u147, u148, u149, u150, u151, u152, u153, u154, u155, u156, u157, u158, u159, u160, u161, u162, u163, u164, u165, u166, u167], []⟩ wr := by
  have b21' := b21
  obtain ⟨nD, aD, lD, cD, D, hHD, hRD, hED⟩ := b21'
  obtain ⟨kD0, kD1, _, _⟩ := two_cells hHD
  have HED := hid hED
  have HHD := hid (show wr.drew.heap[g21]? = _ from hHD)
  clear hED hHD
  have b3' := b3
  obtain ⟨nA, aA, lA, cA, A, hHA, hRA, hEA⟩ := b3'
  obtain ⟨kA0, kA1, _, _⟩ := two_cells hHA
  have HEA := hid hEA
  have HHA := hid (show wr.drew.heap[g3]? = _ from hHA)
  clear hEA hHA
  have b4' := b4
  obtain ⟨nB, aB, lB, cB, B, hHB, hRB, hEB⟩ := b4'
  obtain ⟨kB0, kB1, _, _⟩ := two_cells hHB
  have HEB := hid hEB
  have HHB := hid (show wr.drew.heap[g4]? = _ from hHB)
  clear hEB hHB
  have hbd := hb.drew
  show Code.wp Tryd.prog (Code.seq (head10 20) (tail10 21)) _ _ _
  conv => arg 2; arg 1; whnf
  go_wp2_with fail
  go_region_held3 (fun w' => w'.cell? ⟨g21, 0, none⟩ = some (.bool nD) ∧ w'.cell? ⟨g21, 1, none⟩ = some (.slice aD lD cD) ∧ w'.cell? ⟨g3, 0, none⟩ = some (.bool nA) ∧ w'.cell? ⟨g3, 1, none⟩ = some (.slice aA lA cA) ∧ w'.cell? ⟨g4, 0, none⟩ = some (.bool nB) ∧ w'.cell? ⟨g4, 1, none⟩ = some (.slice aB lB cB))
    (first
      | go_keep
      | (with_reducible exact ⟨(two_cells JD.out).1, (two_cells JD.out).2.1, (two_cells JA.out).1, (two_cells JA.out).2.1, (two_cells JB.out).1, (two_cells JB.out).2.1⟩)
      | (with_reducible exact ⟨(two_cells ID.out).1, (two_cells ID.out).2.1, (two_cells IA.out).1, (two_cells IA.out).2.1, (two_cells IB.out).1, (two_cells IB.out).2.1⟩))
    ((first
      | (go_at_call 28; (with_reducible refine (sign_any nD aD lD cD D wr.drew hRD.drew).mono ?_); rintro e w2 ⟨rfl, hw2⟩; rw [HED.out]; have hb2 : Below wr.drew.heap.size wr.drew w2 := (by rw [← hw2]; exact (Below.refl _ _).alloc (Nat.le_refl _) _); clear hw2; have ID := hid (heap_keep HHD.out hb2); have IA := hid (heap_keep HHA.out hb2); have IB := hid (heap_keep HHB.out hb2); have hx := hbd.trans (hb2.mono hbd.size))
      | (go_at_call 30; (with_reducible refine (cmp_any nA aA lA cA A nB aB lB cB B w2 (hRA.drew.keep hb2) (hRB.drew.keep hb2)).mono ?_); rintro e w3 ⟨rfl, hb3⟩; rw [HEA.out, HEB.out]; have JD := hid (heap_keep ID.out hb3); have JA := hid (heap_keep IA.out hb3); have JB := hid (heap_keep IB.out hb3); have hy := hx.trans (hb3.mono hx.size))
      | (go_at_call 30; (with_reducible refine (cmp_any nA aA lA cA A nB aB lB cB B wr.drew hRA.drew hRB.drew).mono ?_); rintro e w2 ⟨rfl, hb2⟩; rw [HEA.out, HEB.out]; have ID := hid (heap_keep HHD.out hb2); have IA := hid (heap_keep HHA.out hb2); have IB := hid (heap_keep HHB.out hb2); have hx := hbd.trans (hb2.mono hbd.size))
      | (go_at_call 28; (with_reducible refine (sign_any nD aD lD cD D w2 (hRD.drew.keep hb2)).mono ?_); rintro e w3 ⟨rfl, hw3⟩; rw [HED.out]; have hb3 : Below w2.heap.size w2 w3 := (by rw [← hw3]; exact (Below.refl _ _).alloc (Nat.le_refl _) _); clear hw3; have JD := hid (heap_keep ID.out hb3); have JA := hid (heap_keep IA.out hb3); have JB := hid (heap_keep IB.out hb3); have hy := hx.trans (hb3.mono hx.size))))
  all_goals
    go_wp2
    exact T_21 la lb lc (hy) h0 o4 o5 o8 o10 o14 o16 o18 o21 ((b3.drew.keep hb2).keep hb3) ((b4.drew.keep hb2).keep hb3) ((b5.drew.keep hb2).keep hb3) ((b8.drew.keep hb2).keep hb3) ((b10.drew.keep hb2).keep hb3) ((b14.drew.keep hb2).keep hb3) ((b16.drew.keep hb2).keep hb3) ((b18.drew.keep hb2).keep hb3) ((b21.drew.keep hb2).keep hb3)

set_option maxRecDepth 100000 in
set_option maxHeartbeats 2000000 in
theorem T_19 {w wr : World} {g3 g4 g5 g8 g10 g14 g16 g18 g21 : Nat} {u0 u1 u2 u6 u15 u17 u19 u22 u23 u24 u25 u26 u27 u28 u29 u30 u31 u32 u33 u34 u35 u36 u37 u38 u39 u40 u41 u42 u43 u44 u45 u46 u47 u48 u49 u50 u51 u52 u53 u54 u55 u56 u57 u58 u59 u60 u61 u62 u63 u64 u65 u66 u67 u68 u69 u70 u71 u72 u73 u74 u75 u76 u77 u78 u79 u80 u81 u82 u83 u84 u85 u86 u87 u88 u89 u90 u91 u92 u93 u94 u95 u96 u97 u98 u99 u100 u101 u102 u103 u104 u105 u106 u107 u108 u109 u110 u111 u112 u113 u114 u115 u116 u117 u118 u119 u120 u121 u122 u123 u124 u125 u126 u127 u128 u129 u130 u131 u132 u133 u134 u135 u136 u137 u138 u139 u140 u141 u142 u143 u144 u145 u146 u147 u148 u149 u150 u151 u152 u153 u154 u155 u156 u157 u158 u159 u160 u161 u162 u163 u164 u165 u166 u167 : Value} {va vb vc : Int}
    (la : Lt 1280 va) (lb : Lt 1280 vb) (lc : Lt 1280 vc)
    (hb : Below w.heap.size w wr) (h0 : w.heap.size ≤ g3)
    (o4 : g3 < g4) (o5 : g4 < g5) (o8 : g5 < g8) (o10 : g8 < g10) (o14 : g10 < g14) (o16 : g14 < g16) (o18 : g16 < g18) (o21 : g18 < g21)
    (b3 : Bx wr g3 (va)) (b4 : Bx wr g4 (vb)) (b5 : Bx wr g5 (vc)) (b8 : Bx wr g8 (va - vb + vb)) (b10 : Bx wr g10 (va * vb + va * vc)) (b14 : Bx wr g14 (vb + vc)) (b16 : Bx wr g16 (va * vb)) (b18 : Bx wr g18 (va * vc)) (b21 : Bx wr g21 (va - vb)) :
    Code.wp Tryd.prog (tail10 19) (Q10 w) ⟨#[u0, u1, u2, .pointer (some ⟨g3, 0, none⟩), .pointer (some ⟨g4, 0, none⟩), .pointer (some ⟨g5, 0, none⟩), u6, .bool true, .pointer (some ⟨g8, 0, none⟩), .int .i64 0, .pointer (some ⟨g10, 0, none⟩), .int .i64 0, .bool true, .bool true, .pointer (some ⟨g14, 0, none⟩), u15, .pointer (some ⟨g16, 0, none⟩), u17, .pointer (some ⟨g18, 0, none⟩), u19, .bool true, .pointer (some ⟨g21, 0, none⟩), u22, u23, u24, u25, u26, u27, u28, u29, u30, u31, u32, u33, u34, u35, u36, u37, u38, u39, u40, u41, u42, u43, u44, u45, u46, u47, u48, u49, u50, u51, u52, u53, u54, u55, u56, u57, u58, u59, u60, u61, u62, u63, u64, u65, u66, u67, u68, u69, u70, u71, u72, u73, u74, u75, u76, u77, u78, u79, u80, u81, u82, u83, u84, u85, u86, u87, u88, u89, u90, u91, u92, u93, u94, u95, u96, u97, u98, u99, u100, u101, u102, u103, u104, u105, u106, u107, u108, u109, u110, u111, u112, u113, u114, u115, u116, u117, u118, u119, u120, u121, u122, u123, u124, u125, u126, u127, u128, u129, u130, u131, u132, u133, u134, u135, u136, u137, u138, u139, u140, u141, u142, u143, u144, u145, u146, u147, u148, u149, u150, u151, u152, u153, u154, u155, u156, u157, u158, u159, u160, u161, u162, u163, u164, u165, u166, u167], []⟩ wr := by
  have b8' := b8
  obtain ⟨nA, aA, lA, cA, A, hHA, hRA, hEA⟩ := b8'
  obtain ⟨kA0, kA1, _, _⟩ := two_cells hHA
  have HEA := hid hEA
  clear hEA hHA
  have b3' := b3
  obtain ⟨nB, aB, lB, cB, B, hHB, hRB, hEB⟩ := b3'
  obtain ⟨kB0, kB1, _, _⟩ := two_cells hHB
  have HEB := hid hEB
  clear hEB hHB
  show Code.wp Tryd.prog (Code.seq (head10 19) (tail10 20)) _ _ _
  conv => arg 2; arg 1; whnf
  go_wp2_with fail
  refine (same_yes _ 0 hRA hRB (by rw [HEA.out, HEB.out]; exact Int.sub_add_cancel _ _)).mono ?_
  rintro e w2 ⟨rfl, hb2⟩
  go_wp2
  exact T_20 la lb lc (hb.trans (hb2.mono hb.size)) h0 o4 o5 o8 o10 o14 o16 o18 o21 (b3.keep hb2) (b4.keep hb2) (b5.keep hb2) (b8.keep hb2) (b10.keep hb2) (b14.keep hb2) (b16.keep hb2) (b18.keep hb2) (b21.keep hb2)

set_option maxRecDepth 100000 in
set_option maxHeartbeats 2000000 in
theorem T_18 {w wr : World} {g3 g4 g5 g8 g10 g14 g16 g18 g21 : Nat} {u0 u1 u2 u6 u15 u17 u19 u22 u23 u24 u25 u26 u27 u28 u29 u30 u31 u32 u33 u34 u35 u36 u37 u38 u39 u40 u41 u42 u43 u44 u45 u46 u47 u48 u49 u50 u51 u52 u53 u54 u55 u56 u57 u58 u59 u60 u61 u62 u63 u64 u65 u66 u67 u68 u69 u70 u71 u72 u73 u74 u75 u76 u77 u78 u79 u80 u81 u82 u83 u84 u85 u86 u87 u88 u89 u90 u91 u92 u93 u94 u95 u96 u97 u98 u99 u100 u101 u102 u103 u104 u105 u106 u107 u108 u109 u110 u111 u112 u113 u114 u115 u116 u117 u118 u119 u120 u121 u122 u123 u124 u125 u126 u127 u128 u129 u130 u131 u132 u133 u134 u135 u136 u137 u138 u139 u140 u141 u142 u143 u144 u145 u146 u147 u148 u149 u150 u151 u152 u153 u154 u155 u156 u157 u158 u159 u160 u161 u162 u163 u164 u165 u166 u167 : Value} {va vb vc : Int}
    (la : Lt 1280 va) (lb : Lt 1280 vb) (lc : Lt 1280 vc)
    (hb : Below w.heap.size w wr) (h0 : w.heap.size ≤ g3)
    (o4 : g3 < g4) (o5 : g4 < g5) (o8 : g5 < g8) (o10 : g8 < g10) (o14 : g10 < g14) (o16 : g14 < g16) (o18 : g16 < g18) (o21 : g18 < g21)
    (b3 : Bx wr g3 (va)) (b4 : Bx wr g4 (vb)) (b5 : Bx wr g5 (vc)) (b8 : Bx wr g8 (va * (vb + vc))) (b10 : Bx wr g10 (va * vb + va * vc)) (b14 : Bx wr g14 (vb + vc)) (b16 : Bx wr g16 (va * vb)) (b18 : Bx wr g18 (va * vc)) (b21 : Bx wr g21 (va - vb)) :
    Code.wp Tryd.prog (tail10 18) (Q10 w) ⟨#[u0, u1, u2, .pointer (some ⟨g3, 0, none⟩), .pointer (some ⟨g4, 0, none⟩), .pointer (some ⟨g5, 0, none⟩), u6, .bool true, .pointer (some ⟨g8, 0, none⟩), .int .i64 0, .pointer (some ⟨g10, 0, none⟩), .int .i64 0, .bool true, .bool true, .pointer (some ⟨g14, 0, none⟩), u15, .pointer (some ⟨g16, 0, none⟩), u17, .pointer (some ⟨g18, 0, none⟩), u19, .bool true, .pointer (some ⟨g21, 0, none⟩), u22, u23, u24, u25, u26, u27, u28, u29, u30, u31, u32, u33, u34, u35, u36, u37, u38, u39, u40, u41, u42, u43, u44, u45, u46, u47, u48, u49, u50, u51, u52, u53, u54, u55, u56, u57, u58, u59, u60, u61, u62, u63, u64, u65, u66, u67, u68, u69, u70, u71, u72, u73, u74, u75, u76, u77, u78, u79, u80, u81, u82, u83, u84, u85, u86, u87, u88, u89, u90, u91, u92, u93, u94, u95, u96, u97, u98, u99, u100, u101, u102, u103, u104, u105, u106, u107, u108, u109, u110, u111, u112, u113, u114, u115, u116, u117, u118, u119, u120, u121, u122, u123, u124, u125, u126, u127, u128, u129, u130, u131, u132, u133, u134, u135, u136, u137, u138, u139, u140, u141, u142, u143, u144, u145, u146, u147, u148, u149, u150, u151, u152, u153, u154, u155, u156, u157, u158, u159, u160, u161, u162, u163, u164, u165, u166, u167], []⟩ wr := by
  have b21' := b21
  obtain ⟨nA, aA, lA, cA, A, hHA, hRA, hEA⟩ := b21'
  obtain ⟨kA0, kA1, _, _⟩ := two_cells hHA
  have HEA := hid hEA
  clear hEA hHA
  have b4' := b4
  obtain ⟨nB, aB, lB, cB, B, hHB, hRB, hEB⟩ := b4'
  obtain ⟨kB0, kB1, _, _⟩ := two_cells hHB
  have HEB := hid hEB
  clear hEB hHB
  show Code.wp Tryd.prog (Code.seq (head10 18) (tail10 19)) _ _ _
  conv => arg 2; arg 1; whnf
  go_wp2_with fail
  refine (add_ok _ hRA hRB HEA.out HEB.out ((Lt.sub la lb).sm (by decide)) (lb.sm (by decide)) ((Lt.add (Lt.sub la lb) lb).sm (by decide))).mono ?_
  rintro e w2 ⟨n2, ao2, len2, C2, rfl, hR2, hE2, hb2⟩
  have HE2 := hid hE2
  clear hE2
  obtain ⟨nP, aP, lP, cP, P, hHP, _, _⟩ := b8.keep hb2
  obtain ⟨kP0, kP1, kP2, kP3⟩ := two_cells hHP
  clear hHP
  go_wp2
  have hb3 := hb.trans (hb2.mono hb.size)
  exact T_19 la lb lc (below_put hb3 (by omega) _ _) h0 o4 o5 o8 o10 o14 o16 o18 o21 ((b3.keep hb2).put_other (b8.keep hb2) (by omega) _ _) ((b4.keep hb2).put_other (b8.keep hb2) (by omega) _ _) ((b5.keep hb2).put_other (b8.keep hb2) (by omega) _ _) ((b8.keep hb2).put hR2 HE2.out) ((b10.keep hb2).put_other (b8.keep hb2) (by omega) _ _) ((b14.keep hb2).put_other (b8.keep hb2) (by omega) _ _) ((b16.keep hb2).put_other (b8.keep hb2) (by omega) _ _) ((b18.keep hb2).put_other (b8.keep hb2) (by omega) _ _) ((b21.keep hb2).put_other (b8.keep hb2) (by omega) _ _)

set_option maxRecDepth 100000 in
set_option maxHeartbeats 2000000 in
theorem T_17 {w wr : World} {g3 g4 g5 g8 g10 g14 g16 g18 : Nat} {u0 u1 u2 u6 u15 u17 u19 u21 u22 u23 u24 u25 u26 u27 u28 u29 u30 u31 u32 u33 u34 u35 u36 u37 u38 u39 u40 u41 u42 u43 u44 u45 u46 u47 u48 u49 u50 u51 u52 u53 u54 u55 u56 u57 u58 u59 u60 u61 u62 u63 u64 u65 u66 u67 u68 u69 u70 u71 u72 u73 u74 u75 u76 u77 u78 u79 u80 u81 u82 u83 u84 u85 u86 u87 u88 u89 u90 u91 u92 u93 u94 u95 u96 u97 u98 u99 u100 u101 u102 u103 u104 u105 u106 u107 u108 u109 u110 u111 u112 u113 u114 u115 u116 u117 u118 u119 u120 u121 u122 u123 u124 u125 u126 u127 u128 u129 u130 u131 u132 u133 u134 u135 u136 u137 u138 u139 u140 u141 u142 u143 u144 u145 u146 u147 u148 u149 u150 u151 u152 u153 u154 u155 u156 u157 u158 u159 u160 u161 u162 u163 u164 u165 u166 u167 : Value} {va vb vc : Int}
    (la : Lt 1280 va) (lb : Lt 1280 vb) (lc : Lt 1280 vc)
    (hb : Below w.heap.size w wr) (h0 : w.heap.size ≤ g3)
    (o4 : g3 < g4) (o5 : g4 < g5) (o8 : g5 < g8) (o10 : g8 < g10) (o14 : g10 < g14) (o16 : g14 < g16) (o18 : g16 < g18)
    (b3 : Bx wr g3 (va)) (b4 : Bx wr g4 (vb)) (b5 : Bx wr g5 (vc)) (b8 : Bx wr g8 (va * (vb + vc))) (b10 : Bx wr g10 (va * vb + va * vc)) (b14 : Bx wr g14 (vb + vc)) (b16 : Bx wr g16 (va * vb)) (b18 : Bx wr g18 (va * vc)) :
    Code.wp Tryd.prog (tail10 17) (Q10 w) ⟨#[u0, u1, u2, .pointer (some ⟨g3, 0, none⟩), .pointer (some ⟨g4, 0, none⟩), .pointer (some ⟨g5, 0, none⟩), u6, .bool true, .pointer (some ⟨g8, 0, none⟩), .int .i64 0, .pointer (some ⟨g10, 0, none⟩), .int .i64 0, .bool true, .bool true, .pointer (some ⟨g14, 0, none⟩), u15, .pointer (some ⟨g16, 0, none⟩), u17, .pointer (some ⟨g18, 0, none⟩), u19, .bool true, u21, u22, u23, u24, u25, u26, u27, u28, u29, u30, u31, u32, u33, u34, u35, u36, u37, u38, u39, u40, u41, u42, u43, u44, u45, u46, u47, u48, u49, u50, u51, u52, u53, u54, u55, u56, u57, u58, u59, u60, u61, u62, u63, u64, u65, u66, u67, u68, u69, u70, u71, u72, u73, u74, u75, u76, u77, u78, u79, u80, u81, u82, u83, u84, u85, u86, u87, u88, u89, u90, u91, u92, u93, u94, u95, u96, u97, u98, u99, u100, u101, u102, u103, u104, u105, u106, u107, u108, u109, u110, u111, u112, u113, u114, u115, u116, u117, u118, u119, u120, u121, u122, u123, u124, u125, u126, u127, u128, u129, u130, u131, u132, u133, u134, u135, u136, u137, u138, u139, u140, u141, u142, u143, u144, u145, u146, u147, u148, u149, u150, u151, u152, u153, u154, u155, u156, u157, u158, u159, u160, u161, u162, u163, u164, u165, u166, u167], []⟩ wr := by
  have b3' := b3
  obtain ⟨nA, aA, lA, cA, A, hHA, hRA, hEA⟩ := b3'
  obtain ⟨kA0, kA1, _, _⟩ := two_cells hHA
  have HEA := hid hEA
  clear hEA hHA
  have b4' := b4
  obtain ⟨nB, aB, lB, cB, B, hHB, hRB, hEB⟩ := b4'
  obtain ⟨kB0, kB1, _, _⟩ := two_cells hHB
  have HEB := hid hEB
  clear hEB hHB
  show Code.wp Tryd.prog (Code.seq (head10 17) (tail10 18)) _ _ _
  conv => arg 2; arg 1; whnf
  go_wp2_with fail
  refine (sub_ok _ hRA hRB HEA.out HEB.out (la.sm (by decide)) (lb.sm (by decide)) ((Lt.sub la lb).sm (by decide))).mono ?_
  rintro e w2 ⟨n2, ao2, len2, C2, rfl, hR2, hE2, hb2⟩
  have HE2 := hid hE2
  clear hE2
  go_wp2
  have hlast : g18 < w2.heap.size := (b18.keep hb2).lt
  have hb3 := hb.trans (hb2.mono hb.size)
  exact T_18 la lb lc (hb3.alloc hb3.size _) h0 o4 o5 o8 o10 o14 o16 o18 hlast ((b3.keep hb2).alloc _) ((b4.keep hb2).alloc _) ((b5.keep hb2).alloc _) ((b8.keep hb2).alloc _) ((b10.keep hb2).alloc _) ((b14.keep hb2).alloc _) ((b16.keep hb2).alloc _) ((b18.keep hb2).alloc _) (Bx.new hR2 HE2.out)

set_option maxRecDepth 100000 in
set_option maxHeartbeats 2000000 in
theorem T_16 {w wr : World} {g3 g4 g5 g8 g10 g14 g16 g18 : Nat} {u0 u1 u2 u6 u15 u17 u19 u20 u21 u22 u23 u24 u25 u26 u27 u28 u29 u30 u31 u32 u33 u34 u35 u36 u37 u38 u39 u40 u41 u42 u43 u44 u45 u46 u47 u48 u49 u50 u51 u52 u53 u54 u55 u56 u57 u58 u59 u60 u61 u62 u63 u64 u65 u66 u67 u68 u69 u70 u71 u72 u73 u74 u75 u76 u77 u78 u79 u80 u81 u82 u83 u84 u85 u86 u87 u88 u89 u90 u91 u92 u93 u94 u95 u96 u97 u98 u99 u100 u101 u102 u103 u104 u105 u106 u107 u108 u109 u110 u111 u112 u113 u114 u115 u116 u117 u118 u119 u120 u121 u122 u123 u124 u125 u126 u127 u128 u129 u130 u131 u132 u133 u134 u135 u136 u137 u138 u139 u140 u141 u142 u143 u144 u145 u146 u147 u148 u149 u150 u151 u152 u153 u154 u155 u156 u157 u158 u159 u160 u161 u162 u163 u164 u165 u166 u167 : Value} {va vb vc : Int}
    (la : Lt 1280 va) (lb : Lt 1280 vb) (lc : Lt 1280 vc)
    (hb : Below w.heap.size w wr) (h0 : w.heap.size ≤ g3)
    (o4 : g3 < g4) (o5 : g4 < g5) (o8 : g5 < g8) (o10 : g8 < g10) (o14 : g10 < g14) (o16 : g14 < g16) (o18 : g16 < g18)
    (b3 : Bx wr g3 (va)) (b4 : Bx wr g4 (vb)) (b5 : Bx wr g5 (vc)) (b8 : Bx wr g8 (va * (vb + vc))) (b10 : Bx wr g10 (va * vb + va * vc)) (b14 : Bx wr g14 (vb + vc)) (b16 : Bx wr g16 (va * vb)) (b18 : Bx wr g18 (va * vc)) :
    Code.wp Tryd.prog (tail10 16) (Q10 w) ⟨#[u0, u1, u2, .pointer (some ⟨g3, 0, none⟩), .pointer (some ⟨g4, 0, none⟩), .pointer (some ⟨g5, 0, none⟩), u6, .bool true, .pointer (some ⟨g8, 0, none⟩), .int .i64 0, .pointer (some ⟨g10, 0, none⟩), .int .i64 0, .bool true, .bool true, .pointer (some ⟨g14, 0, none⟩), u15, .pointer (some ⟨g16, 0, none⟩), u17, .pointer (some ⟨g18, 0, none⟩), u19, u20, u21, u22, u23, u24, u25, u26, u27, u28, u29, u30, u31, u32, u33, u34, u35, u36, u37, u38, u39, u40, u41, u42, u43, u44, u45, u46, u47, u48, u49, u50, u51, u52, u53, u54, u55, u56, u57, u58, u59, u60, u61, u62, u63, u64, u65, u66, u67, u68, u69, u70, u71, u72, u73, u74, u75, u76, u77, u78, u79, u80, u81, u82, u83, u84, u85, u86, u87, u88, u89, u90, u91, u92, u93, u94, u95, u96, u97, u98, u99, u100, u101, u102, u103, u104, u105, u106, u107, u108, u109, u110, u111, u112, u113, u114, u115, u116, u117, u118, u119, u120, u121, u122, u123, u124, u125, u126, u127, u128, u129, u130, u131, u132, u133, u134, u135, u136, u137, u138, u139, u140, u141, u142, u143, u144, u145, u146, u147, u148, u149, u150, u151, u152, u153, u154, u155, u156, u157, u158, u159, u160, u161, u162, u163, u164, u165, u166, u167], []⟩ wr := by
  have b8' := b8
  obtain ⟨nA, aA, lA, cA, A, hHA, hRA, hEA⟩ := b8'
  obtain ⟨kA0, kA1, _, _⟩ := two_cells hHA
  have HEA := hid hEA
  clear hEA hHA
  have b10' := b10
  obtain ⟨nB, aB, lB, cB, B, hHB, hRB, hEB⟩ := b10'
  obtain ⟨kB0, kB1, _, _⟩ := two_cells hHB
  have HEB := hid hEB
  clear hEB hHB
  show Code.wp Tryd.prog (Code.seq (head10 16) (tail10 17)) _ _ _
  conv => arg 2; arg 1; whnf
  go_wp2_with fail
  refine (same_yes _ 0 hRA hRB (by rw [HEA.out, HEB.out]; exact Int.mul_add _ _ _)).mono ?_
  rintro e w2 ⟨rfl, hb2⟩
  go_wp2
  exact T_17 la lb lc (hb.trans (hb2.mono hb.size)) h0 o4 o5 o8 o10 o14 o16 o18 (b3.keep hb2) (b4.keep hb2) (b5.keep hb2) (b8.keep hb2) (b10.keep hb2) (b14.keep hb2) (b16.keep hb2) (b18.keep hb2)

set_option maxRecDepth 100000 in
set_option maxHeartbeats 2000000 in
theorem T_15 {w wr : World} {g3 g4 g5 g8 g10 g14 g16 g18 : Nat} {u0 u1 u2 u6 u15 u17 u19 u20 u21 u22 u23 u24 u25 u26 u27 u28 u29 u30 u31 u32 u33 u34 u35 u36 u37 u38 u39 u40 u41 u42 u43 u44 u45 u46 u47 u48 u49 u50 u51 u52 u53 u54 u55 u56 u57 u58 u59 u60 u61 u62 u63 u64 u65 u66 u67 u68 u69 u70 u71 u72 u73 u74 u75 u76 u77 u78 u79 u80 u81 u82 u83 u84 u85 u86 u87 u88 u89 u90 u91 u92 u93 u94 u95 u96 u97 u98 u99 u100 u101 u102 u103 u104 u105 u106 u107 u108 u109 u110 u111 u112 u113 u114 u115 u116 u117 u118 u119 u120 u121 u122 u123 u124 u125 u126 u127 u128 u129 u130 u131 u132 u133 u134 u135 u136 u137 u138 u139 u140 u141 u142 u143 u144 u145 u146 u147 u148 u149 u150 u151 u152 u153 u154 u155 u156 u157 u158 u159 u160 u161 u162 u163 u164 u165 u166 u167 : Value} {va vb vc : Int}
    (la : Lt 1280 va) (lb : Lt 1280 vb) (lc : Lt 1280 vc)
    (hb : Below w.heap.size w wr) (h0 : w.heap.size ≤ g3)
    (o4 : g3 < g4) (o5 : g4 < g5) (o8 : g5 < g8) (o10 : g8 < g10) (o14 : g10 < g14) (o16 : g14 < g16) (o18 : g16 < g18)
    (b3 : Bx wr g3 (va)) (b4 : Bx wr g4 (vb)) (b5 : Bx wr g5 (vc)) (b8 : Bx wr g8 (va * (vb + vc))) (b10 : Bx wr g10 (vb * va)) (b14 : Bx wr g14 (vb + vc)) (b16 : Bx wr g16 (va * vb)) (b18 : Bx wr g18 (va * vc)) :
    Code.wp Tryd.prog (tail10 15) (Q10 w) ⟨#[u0, u1, u2, .pointer (some ⟨g3, 0, none⟩), .pointer (some ⟨g4, 0, none⟩), .pointer (some ⟨g5, 0, none⟩), u6, .bool true, .pointer (some ⟨g8, 0, none⟩), .int .i64 0, .pointer (some ⟨g10, 0, none⟩), .int .i64 0, .bool true, .bool true, .pointer (some ⟨g14, 0, none⟩), u15, .pointer (some ⟨g16, 0, none⟩), u17, .pointer (some ⟨g18, 0, none⟩), u19, u20, u21, u22, u23, u24, u25, u26, u27, u28, u29, u30, u31, u32, u33, u34, u35, u36, u37, u38, u39, u40, u41, u42, u43, u44, u45, u46, u47, u48, u49, u50, u51, u52, u53, u54, u55, u56, u57, u58, u59, u60, u61, u62, u63, u64, u65, u66, u67, u68, u69, u70, u71, u72, u73, u74, u75, u76, u77, u78, u79, u80, u81, u82, u83, u84, u85, u86, u87, u88, u89, u90, u91, u92, u93, u94, u95, u96, u97, u98, u99, u100, u101, u102, u103, u104, u105, u106, u107, u108, u109, u110, u111, u112, u113, u114, u115, u116, u117, u118, u119, u120, u121, u122, u123, u124, u125, u126, u127, u128, u129, u130, u131, u132, u133, u134, u135, u136, u137, u138, u139, u140, u141, u142, u143, u144, u145, u146, u147, u148, u149, u150, u151, u152, u153, u154, u155, u156, u157, u158, u159, u160, u161, u162, u163, u164, u165, u166, u167], []⟩ wr := by
  have b16' := b16
  obtain ⟨nA, aA, lA, cA, A, hHA, hRA, hEA⟩ := b16'
  obtain ⟨kA0, kA1, _, _⟩ := two_cells hHA
  have HEA := hid hEA
  clear hEA hHA
  have b18' := b18
  obtain ⟨nB, aB, lB, cB, B, hHB, hRB, hEB⟩ := b18'
  obtain ⟨kB0, kB1, _, _⟩ := two_cells hHB
  have HEB := hid hEB
  clear hEB hHB
  show Code.wp Tryd.prog (Code.seq (head10 15) (tail10 16)) _ _ _
  conv => arg 2; arg 1; whnf
  go_wp2_with fail
  refine (add_ok _ hRA hRB HEA.out HEB.out ((Lt.mul la lb).sm (by decide)) ((Lt.mul la lc).sm (by decide)) ((Lt.add (Lt.mul la lb) (Lt.mul la lc)).sm (by decide))).mono ?_
  rintro e w2 ⟨n2, ao2, len2, C2, rfl, hR2, hE2, hb2⟩
  have HE2 := hid hE2
  clear hE2
  obtain ⟨nP, aP, lP, cP, P, hHP, _, _⟩ := b10.keep hb2
  obtain ⟨kP0, kP1, kP2, kP3⟩ := two_cells hHP
  clear hHP
  go_wp2
  have hb3 := hb.trans (hb2.mono hb.size)
  exact T_16 la lb lc (below_put hb3 (by omega) _ _) h0 o4 o5 o8 o10 o14 o16 o18 ((b3.keep hb2).put_other (b10.keep hb2) (by omega) _ _) ((b4.keep hb2).put_other (b10.keep hb2) (by omega) _ _) ((b5.keep hb2).put_other (b10.keep hb2) (by omega) _ _) ((b8.keep hb2).put_other (b10.keep hb2) (by omega) _ _) ((b10.keep hb2).put hR2 HE2.out) ((b14.keep hb2).put_other (b10.keep hb2) (by omega) _ _) ((b16.keep hb2).put_other (b10.keep hb2) (by omega) _ _) ((b18.keep hb2).put_other (b10.keep hb2) (by omega) _ _)

set_option maxRecDepth 100000 in
set_option maxHeartbeats 2000000 in
theorem T_14 {w wr : World} {g3 g4 g5 g8 g10 g14 g16 : Nat} {u0 u1 u2 u6 u15 u17 u18 u19 u20 u21 u22 u23 u24 u25 u26 u27 u28 u29 u30 u31 u32 u33 u34 u35 u36 u37 u38 u39 u40 u41 u42 u43 u44 u45 u46 u47 u48 u49 u50 u51 u52 u53 u54 u55 u56 u57 u58 u59 u60 u61 u62 u63 u64 u65 u66 u67 u68 u69 u70 u71 u72 u73 u74 u75 u76 u77 u78 u79 u80 u81 u82 u83 u84 u85 u86 u87 u88 u89 u90 u91 u92 u93 u94 u95 u96 u97 u98 u99 u100 u101 u102 u103 u104 u105 u106 u107 u108 u109 u110 u111 u112 u113 u114 u115 u116 u117 u118 u119 u120 u121 u122 u123 u124 u125 u126 u127 u128 u129 u130 u131 u132 u133 u134 u135 u136 u137 u138 u139 u140 u141 u142 u143 u144 u145 u146 u147 u148 u149 u150 u151 u152 u153 u154 u155 u156 u157 u158 u159 u160 u161 u162 u163 u164 u165 u166 u167 : Value} {va vb vc : Int}
    (la : Lt 1280 va) (lb : Lt 1280 vb) (lc : Lt 1280 vc)
    (hb : Below w.heap.size w wr) (h0 : w.heap.size ≤ g3)
    (o4 : g3 < g4) (o5 : g4 < g5) (o8 : g5 < g8) (o10 : g8 < g10) (o14 : g10 < g14) (o16 : g14 < g16)
    (b3 : Bx wr g3 (va)) (b4 : Bx wr g4 (vb)) (b5 : Bx wr g5 (vc)) (b8 : Bx wr g8 (va * (vb + vc))) (b10 : Bx wr g10 (vb * va)) (b14 : Bx wr g14 (vb + vc)) (b16 : Bx wr g16 (va * vb)) :
    Code.wp Tryd.prog (tail10 14) (Q10 w) ⟨#[u0, u1, u2, .pointer (some ⟨g3, 0, none⟩), .pointer (some ⟨g4, 0, none⟩), .pointer (some ⟨g5, 0, none⟩), u6, .bool true, .pointer (some ⟨g8, 0, none⟩), .int .i64 0, .pointer (some ⟨g10, 0, none⟩), .int .i64 0, .bool true, .bool true, .pointer (some ⟨g14, 0, none⟩), u15, .pointer (some ⟨g16, 0, none⟩), u17, u18, u19, u20, u21, u22, u23, u24, u25, u26, u27, u28, u29, u30, u31, u32, u33, u34, u35, u36, u37, u38, u39, u40, u41, u42, u43, u44, u45, u46, u47, u48, u49, u50, u51, u52, u53, u54, u55, u56, u57, u58, u59, u60, u61, u62, u63, u64, u65, u66, u67, u68, u69, u70, u71, u72, u73, u74, u75, u76, u77, u78, u79, u80, u81, u82, u83, u84, u85, u86, u87, u88, u89, u90, u91, u92, u93, u94, u95, u96, u97, u98, u99, u100, u101, u102, u103, u104, u105, u106, u107, u108, u109, u110, u111, u112, u113, u114, u115, u116, u117, u118, u119, u120, u121, u122, u123, u124, u125, u126, u127, u128, u129, u130, u131, u132, u133, u134, u135, u136, u137, u138, u139, u140, u141, u142, u143, u144, u145, u146, u147, u148, u149, u150, u151, u152, u153, u154, u155, u156, u157, u158, u159, u160, u161, u162, u163, u164, u165, u166, u167], []⟩ wr := by
  have b3' := b3
  obtain ⟨nA, aA, lA, cA, A, hHA, hRA, hEA⟩ := b3'
  obtain ⟨kA0, kA1, _, _⟩ := two_cells hHA
  have HEA := hid hEA
  clear hEA hHA
  have b5' := b5
  obtain ⟨nB, aB, lB, cB, B, hHB, hRB, hEB⟩ := b5'
  obtain ⟨kB0, kB1, _, _⟩ := two_cells hHB
  have HEB := hid hEB
  clear hEB hHB
  show Code.wp Tryd.prog (Code.seq (head10 14) (tail10 15)) _ _ _
  conv => arg 2; arg 1; whnf
  go_wp2_with fail
  refine (mul_ok _ hRA hRB HEA.out HEB.out (la.sm (by decide)) (lc.sm (by decide)) ((Lt.mul la lc).sm (by decide))).mono ?_
  rintro e w2 ⟨n2, ao2, len2, C2, rfl, hR2, hE2, hb2⟩
  have HE2 := hid hE2
  clear hE2
  go_wp2
  have hlast : g16 < w2.heap.size := (b16.keep hb2).lt
  have hb3 := hb.trans (hb2.mono hb.size)
  exact T_15 la lb lc (hb3.alloc hb3.size _) h0 o4 o5 o8 o10 o14 o16 hlast ((b3.keep hb2).alloc _) ((b4.keep hb2).alloc _) ((b5.keep hb2).alloc _) ((b8.keep hb2).alloc _) ((b10.keep hb2).alloc _) ((b14.keep hb2).alloc _) ((b16.keep hb2).alloc _) (Bx.new hR2 HE2.out)

set_option maxRecDepth 100000 in
set_option maxHeartbeats 2000000 in
theorem T_13 {w wr : World} {g3 g4 g5 g8 g10 g14 : Nat} {u0 u1 u2 u6 u15 u16 u17 u18 u19 u20 u21 u22 u23 u24 u25 u26 u27 u28 u29 u30 u31 u32 u33 u34 u35 u36 u37 u38 u39 u40 u41 u42 u43 u44 u45 u46 u47 u48 u49 u50 u51 u52 u53 u54 u55 u56 u57 u58 u59 u60 u61 u62 u63 u64 u65 u66 u67 u68 u69 u70 u71 u72 u73 u74 u75 u76 u77 u78 u79 u80 u81 u82 u83 u84 u85 u86 u87 u88 u89 u90 u91 u92 u93 u94 u95 u96 u97 u98 u99 u100 u101 u102 u103 u104 u105 u106 u107 u108 u109 u110 u111 u112 u113 u114 u115 u116 u117 u118 u119 u120 u121 u122 u123 u124 u125 u126 u127 u128 u129 u130 u131 u132 u133 u134 u135 u136 u137 u138 u139 u140 u141 u142 u143 u144 u145 u146 u147 u148 u149 u150 u151 u152 u153 u154 u155 u156 u157 u158 u159 u160 u161 u162 u163 u164 u165 u166 u167 : Value} {va vb vc : Int}
    (la : Lt 1280 va) (lb : Lt 1280 vb) (lc : Lt 1280 vc)
    (hb : Below w.heap.size w wr) (h0 : w.heap.size ≤ g3)
    (o4 : g3 < g4) (o5 : g4 < g5) (o8 : g5 < g8) (o10 : g8 < g10) (o14 : g10 < g14)
    (b3 : Bx wr g3 (va)) (b4 : Bx wr g4 (vb)) (b5 : Bx wr g5 (vc)) (b8 : Bx wr g8 (va * (vb + vc))) (b10 : Bx wr g10 (vb * va)) (b14 : Bx wr g14 (vb + vc)) :
    Code.wp Tryd.prog (tail10 13) (Q10 w) ⟨#[u0, u1, u2, .pointer (some ⟨g3, 0, none⟩), .pointer (some ⟨g4, 0, none⟩), .pointer (some ⟨g5, 0, none⟩), u6, .bool true, .pointer (some ⟨g8, 0, none⟩), .int .i64 0, .pointer (some ⟨g10, 0, none⟩), .int .i64 0, .bool true, .bool true, .pointer (some ⟨g14, 0, none⟩), u15, u16, u17, u18, u19, u20, u21, u22, u23, u24, u25, u26, u27, u28, u29, u30, u31, u32, u33, u34, u35, u36, u37, u38, u39, u40, u41, u42, u43, u44, u45, u46, u47, u48, u49, u50, u51, u52, u53, u54, u55, u56, u57, u58, u59, u60, u61, u62, u63, u64, u65, u66, u67, u68, u69, u70, u71, u72, u73, u74, u75, u76, u77, u78, u79, u80, u81, u82, u83, u84, u85, u86, u87, u88, u89, u90, u91, u92, u93, u94, u95, u96, u97, u98, u99, u100, u101, u102, u103, u104, u105, u106, u107, u108, u109, u110, u111, u112, u113, u114, u115, u116, u117, u118, u119, u120, u121, u122, u123, u124, u125, u126, u127, u128, u129, u130, u131, u132, u133, u134, u135, u136, u137, u138, u139, u140, u141, u142, u143, u144, u145, u146, u147, u148, u149, u150, u151, u152, u153, u154, u155, u156, u157, u158, u159, u160, u161, u162, u163, u164, u165, u166, u167], []⟩ wr := by
  have b3' := b3
  obtain ⟨nA, aA, lA, cA, A, hHA, hRA, hEA⟩ := b3'
  obtain ⟨kA0, kA1, _, _⟩ := two_cells hHA
  have HEA := hid hEA
  clear hEA hHA
  have b4' := b4
  obtain ⟨nB, aB, lB, cB, B, hHB, hRB, hEB⟩ := b4'
  obtain ⟨kB0, kB1, _, _⟩ := two_cells hHB
  have HEB := hid hEB
  clear hEB hHB
  show Code.wp Tryd.prog (Code.seq (head10 13) (tail10 14)) _ _ _
  conv => arg 2; arg 1; whnf
  go_wp2_with fail
  refine (mul_ok _ hRA hRB HEA.out HEB.out (la.sm (by decide)) (lb.sm (by decide)) ((Lt.mul la lb).sm (by decide))).mono ?_
  rintro e w2 ⟨n2, ao2, len2, C2, rfl, hR2, hE2, hb2⟩
  have HE2 := hid hE2
  clear hE2
  go_wp2
  have hlast : g14 < w2.heap.size := (b14.keep hb2).lt
  have hb3 := hb.trans (hb2.mono hb.size)
  exact T_14 la lb lc (hb3.alloc hb3.size _) h0 o4 o5 o8 o10 o14 hlast ((b3.keep hb2).alloc _) ((b4.keep hb2).alloc _) ((b5.keep hb2).alloc _) ((b8.keep hb2).alloc _) ((b10.keep hb2).alloc _) ((b14.keep hb2).alloc _) (Bx.new hR2 HE2.out)

set_option maxRecDepth 100000 in
set_option maxHeartbeats 2000000 in
theorem T_12 {w wr : World} {g3 g4 g5 g8 g10 g14 : Nat} {u0 u1 u2 u6 u15 u16 u17 u18 u19 u20 u21 u22 u23 u24 u25 u26 u27 u28 u29 u30 u31 u32 u33 u34 u35 u36 u37 u38 u39 u40 u41 u42 u43 u44 u45 u46 u47 u48 u49 u50 u51 u52 u53 u54 u55 u56 u57 u58 u59 u60 u61 u62 u63 u64 u65 u66 u67 u68 u69 u70 u71 u72 u73 u74 u75 u76 u77 u78 u79 u80 u81 u82 u83 u84 u85 u86 u87 u88 u89 u90 u91 u92 u93 u94 u95 u96 u97 u98 u99 u100 u101 u102 u103 u104 u105 u106 u107 u108 u109 u110 u111 u112 u113 u114 u115 u116 u117 u118 u119 u120 u121 u122 u123 u124 u125 u126 u127 u128 u129 u130 u131 u132 u133 u134 u135 u136 u137 u138 u139 u140 u141 u142 u143 u144 u145 u146 u147 u148 u149 u150 u151 u152 u153 u154 u155 u156 u157 u158 u159 u160 u161 u162 u163 u164 u165 u166 u167 : Value} {va vb vc : Int}
    (la : Lt 1280 va) (lb : Lt 1280 vb) (lc : Lt 1280 vc)
    (hb : Below w.heap.size w wr) (h0 : w.heap.size ≤ g3)
    (o4 : g3 < g4) (o5 : g4 < g5) (o8 : g5 < g8) (o10 : g8 < g10) (o14 : g10 < g14)
    (b3 : Bx wr g3 (va)) (b4 : Bx wr g4 (vb)) (b5 : Bx wr g5 (vc)) (b8 : Bx wr g8 (va * vb)) (b10 : Bx wr g10 (vb * va)) (b14 : Bx wr g14 (vb + vc)) :
    Code.wp Tryd.prog (tail10 12) (Q10 w) ⟨#[u0, u1, u2, .pointer (some ⟨g3, 0, none⟩), .pointer (some ⟨g4, 0, none⟩), .pointer (some ⟨g5, 0, none⟩), u6, .bool true, .pointer (some ⟨g8, 0, none⟩), .int .i64 0, .pointer (some ⟨g10, 0, none⟩), .int .i64 0, .bool true, .bool true, .pointer (some ⟨g14, 0, none⟩), u15, u16, u17, u18, u19, u20, u21, u22, u23, u24, u25, u26, u27, u28, u29, u30, u31, u32, u33, u34, u35, u36, u37, u38, u39, u40, u41, u42, u43, u44, u45, u46, u47, u48, u49, u50, u51, u52, u53, u54, u55, u56, u57, u58, u59, u60, u61, u62, u63, u64, u65, u66, u67, u68, u69, u70, u71, u72, u73, u74, u75, u76, u77, u78, u79, u80, u81, u82, u83, u84, u85, u86, u87, u88, u89, u90, u91, u92, u93, u94, u95, u96, u97, u98, u99, u100, u101, u102, u103, u104, u105, u106, u107, u108, u109, u110, u111, u112, u113, u114, u115, u116, u117, u118, u119, u120, u121, u122, u123, u124, u125, u126, u127, u128, u129, u130, u131, u132, u133, u134, u135, u136, u137, u138, u139, u140, u141, u142, u143, u144, u145, u146, u147, u148, u149, u150, u151, u152, u153, u154, u155, u156, u157, u158, u159, u160, u161, u162, u163, u164, u165, u166, u167], []⟩ wr := by
  have b3' := b3
  obtain ⟨nA, aA, lA, cA, A, hHA, hRA, hEA⟩ := b3'
  obtain ⟨kA0, kA1, _, _⟩ := two_cells hHA
  have HEA := hid hEA
  clear hEA hHA
  have b14' := b14
  obtain ⟨nB, aB, lB, cB, B, hHB, hRB, hEB⟩ := b14'
  obtain ⟨kB0, kB1, _, _⟩ := two_cells hHB
  have HEB := hid hEB
  clear hEB hHB
  show Code.wp Tryd.prog (Code.seq (head10 12) (tail10 13)) _ _ _
  conv => arg 2; arg 1; whnf
  go_wp2_with fail
  refine (mul_ok _ hRA hRB HEA.out HEB.out (la.sm (by decide)) ((Lt.add lb lc).sm (by decide)) ((Lt.mul la (Lt.add lb lc)).sm (by decide))).mono ?_
  rintro e w2 ⟨n2, ao2, len2, C2, rfl, hR2, hE2, hb2⟩
  have HE2 := hid hE2
  clear hE2
  obtain ⟨nP, aP, lP, cP, P, hHP, _, _⟩ := b8.keep hb2
  obtain ⟨kP0, kP1, kP2, kP3⟩ := two_cells hHP
  clear hHP
  go_wp2
  have hb3 := hb.trans (hb2.mono hb.size)
  exact T_13 la lb lc (below_put hb3 (by omega) _ _) h0 o4 o5 o8 o10 o14 ((b3.keep hb2).put_other (b8.keep hb2) (by omega) _ _) ((b4.keep hb2).put_other (b8.keep hb2) (by omega) _ _) ((b5.keep hb2).put_other (b8.keep hb2) (by omega) _ _) ((b8.keep hb2).put hR2 HE2.out) ((b10.keep hb2).put_other (b8.keep hb2) (by omega) _ _) ((b14.keep hb2).put_other (b8.keep hb2) (by omega) _ _)

set_option maxRecDepth 100000 in
set_option maxHeartbeats 2000000 in
theorem T_11 {w wr : World} {g3 g4 g5 g8 g10 : Nat} {u0 u1 u2 u6 u14 u15 u16 u17 u18 u19 u20 u21 u22 u23 u24 u25 u26 u27 u28 u29 u30 u31 u32 u33 u34 u35 u36 u37 u38 u39 u40 u41 u42 u43 u44 u45 u46 u47 u48 u49 u50 u51 u52 u53 u54 u55 u56 u57 u58 u59 u60 u61 u62 u63 u64 u65 u66 u67 u68 u69 u70 u71 u72 u73 u74 u75 u76 u77 u78 u79 u80 u81 u82 u83 u84 u85 u86 u87 u88 u89 u90 u91 u92 u93 u94 u95 u96 u97 u98 u99 u100 u101 u102 u103 u104 u105 u106 u107 u108 u109 u110 u111 u112 u113 u114 u115 u116 u117 u118 u119 u120 u121 u122 u123 u124 u125 u126 u127 u128 u129 u130 u131 u132 u133 u134 u135 u136 u137 u138 u139 u140 u141 u142 u143 u144 u145 u146 u147 u148 u149 u150 u151 u152 u153 u154 u155 u156 u157 u158 u159 u160 u161 u162 u163 u164 u165 u166 u167 : Value} {va vb vc : Int}
    (la : Lt 1280 va) (lb : Lt 1280 vb) (lc : Lt 1280 vc)
    (hb : Below w.heap.size w wr) (h0 : w.heap.size ≤ g3)
    (o4 : g3 < g4) (o5 : g4 < g5) (o8 : g5 < g8) (o10 : g8 < g10)
    (b3 : Bx wr g3 (va)) (b4 : Bx wr g4 (vb)) (b5 : Bx wr g5 (vc)) (b8 : Bx wr g8 (va * vb)) (b10 : Bx wr g10 (vb * va)) :
    Code.wp Tryd.prog (tail10 11) (Q10 w) ⟨#[u0, u1, u2, .pointer (some ⟨g3, 0, none⟩), .pointer (some ⟨g4, 0, none⟩), .pointer (some ⟨g5, 0, none⟩), u6, .bool true, .pointer (some ⟨g8, 0, none⟩), .int .i64 0, .pointer (some ⟨g10, 0, none⟩), .int .i64 0, .bool true, .bool true, u14, u15, u16, u17, u18, u19, u20, u21, u22, u23, u24, u25, u26, u27, u28, u29, u30, u31, u32, u33, u34, u35, u36, u37, u38, u39, u40, u41, u42, u43, u44, u45, u46, u47, u48, u49, u50, u51, u52, u53, u54, u55, u56, u57, u58, u59, u60, u61, u62, u63, u64, u65, u66, u67, u68, u69, u70, u71, u72, u73, u74, u75, u76, u77, u78, u79, u80, u81, u82, u83, u84, u85, u86, u87, u88, u89, u90, u91, u92, u93, u94, u95, u96, u97, u98, u99, u100, u101, u102, u103, u104, u105, u106, u107, u108, u109, u110, u111, u112, u113, u114, u115, u116, u117, u118, u119, u120, u121, u122, u123, u124, u125, u126, u127, u128, u129, u130, u131, u132, u133, u134, u135, u136, u137, u138, u139, u140, u141, u142, u143, u144, u145, u146, u147, u148, u149, u150, u151, u152, u153, u154, u155, u156, u157, u158, u159, u160, u161, u162, u163, u164, u165, u166, u167], []⟩ wr := by
  have b4' := b4
  obtain ⟨nA, aA, lA, cA, A, hHA, hRA, hEA⟩ := b4'
  obtain ⟨kA0, kA1, _, _⟩ := two_cells hHA
  have HEA := hid hEA
  clear hEA hHA
  have b5' := b5
  obtain ⟨nB, aB, lB, cB, B, hHB, hRB, hEB⟩ := b5'
  obtain ⟨kB0, kB1, _, _⟩ := two_cells hHB
  have HEB := hid hEB
  clear hEB hHB
  show Code.wp Tryd.prog (Code.seq (head10 11) (tail10 12)) _ _ _
  conv => arg 2; arg 1; whnf
  go_wp2_with fail
  refine (add_ok _ hRA hRB HEA.out HEB.out (lb.sm (by decide)) (lc.sm (by decide)) ((Lt.add lb lc).sm (by decide))).mono ?_
  rintro e w2 ⟨n2, ao2, len2, C2, rfl, hR2, hE2, hb2⟩
  have HE2 := hid hE2
  clear hE2
  go_wp2
  have hlast : g10 < w2.heap.size := (b10.keep hb2).lt
  have hb3 := hb.trans (hb2.mono hb.size)
  exact T_12 la lb lc (hb3.alloc hb3.size _) h0 o4 o5 o8 o10 hlast ((b3.keep hb2).alloc _) ((b4.keep hb2).alloc _) ((b5.keep hb2).alloc _) ((b8.keep hb2).alloc _) ((b10.keep hb2).alloc _) (Bx.new hR2 HE2.out)

set_option maxRecDepth 100000 in
set_option maxHeartbeats 2000000 in
theorem T_10 {w wr : World} {g3 g4 g5 g8 g10 : Nat} {u0 u1 u2 u6 u13 u14 u15 u16 u17 u18 u19 u20 u21 u22 u23 u24 u25 u26 u27 u28 u29 u30 u31 u32 u33 u34 u35 u36 u37 u38 u39 u40 u41 u42 u43 u44 u45 u46 u47 u48 u49 u50 u51 u52 u53 u54 u55 u56 u57 u58 u59 u60 u61 u62 u63 u64 u65 u66 u67 u68 u69 u70 u71 u72 u73 u74 u75 u76 u77 u78 u79 u80 u81 u82 u83 u84 u85 u86 u87 u88 u89 u90 u91 u92 u93 u94 u95 u96 u97 u98 u99 u100 u101 u102 u103 u104 u105 u106 u107 u108 u109 u110 u111 u112 u113 u114 u115 u116 u117 u118 u119 u120 u121 u122 u123 u124 u125 u126 u127 u128 u129 u130 u131 u132 u133 u134 u135 u136 u137 u138 u139 u140 u141 u142 u143 u144 u145 u146 u147 u148 u149 u150 u151 u152 u153 u154 u155 u156 u157 u158 u159 u160 u161 u162 u163 u164 u165 u166 u167 : Value} {va vb vc : Int}
    (la : Lt 1280 va) (lb : Lt 1280 vb) (lc : Lt 1280 vc)
    (hb : Below w.heap.size w wr) (h0 : w.heap.size ≤ g3)
    (o4 : g3 < g4) (o5 : g4 < g5) (o8 : g5 < g8) (o10 : g8 < g10)
    (b3 : Bx wr g3 (va)) (b4 : Bx wr g4 (vb)) (b5 : Bx wr g5 (vc)) (b8 : Bx wr g8 (va * vb)) (b10 : Bx wr g10 (vb * va)) :
    Code.wp Tryd.prog (tail10 10) (Q10 w) ⟨#[u0, u1, u2, .pointer (some ⟨g3, 0, none⟩), .pointer (some ⟨g4, 0, none⟩), .pointer (some ⟨g5, 0, none⟩), u6, .bool true, .pointer (some ⟨g8, 0, none⟩), .int .i64 0, .pointer (some ⟨g10, 0, none⟩), .int .i64 0, .bool true, u13, u14, u15, u16, u17, u18, u19, u20, u21, u22, u23, u24, u25, u26, u27, u28, u29, u30, u31, u32, u33, u34, u35, u36, u37, u38, u39, u40, u41, u42, u43, u44, u45, u46, u47, u48, u49, u50, u51, u52, u53, u54, u55, u56, u57, u58, u59, u60, u61, u62, u63, u64, u65, u66, u67, u68, u69, u70, u71, u72, u73, u74, u75, u76, u77, u78, u79, u80, u81, u82, u83, u84, u85, u86, u87, u88, u89, u90, u91, u92, u93, u94, u95, u96, u97, u98, u99, u100, u101, u102, u103, u104, u105, u106, u107, u108, u109, u110, u111, u112, u113, u114, u115, u116, u117, u118, u119, u120, u121, u122, u123, u124, u125, u126, u127, u128, u129, u130, u131, u132, u133, u134, u135, u136, u137, u138, u139, u140, u141, u142, u143, u144, u145, u146, u147, u148, u149, u150, u151, u152, u153, u154, u155, u156, u157, u158, u159, u160, u161, u162, u163, u164, u165, u166, u167], []⟩ wr := by
  have b8' := b8
  obtain ⟨nA, aA, lA, cA, A, hHA, hRA, hEA⟩ := b8'
  obtain ⟨kA0, kA1, _, _⟩ := two_cells hHA
  have HEA := hid hEA
  clear hEA hHA
  have b10' := b10
  obtain ⟨nB, aB, lB, cB, B, hHB, hRB, hEB⟩ := b10'
  obtain ⟨kB0, kB1, _, _⟩ := two_cells hHB
  have HEB := hid hEB
  clear hEB hHB
  show Code.wp Tryd.prog (Code.seq (head10 10) (tail10 11)) _ _ _
  conv => arg 2; arg 1; whnf
  go_wp2_with fail
  refine (same_yes _ 0 hRA hRB (by rw [HEA.out, HEB.out]; exact Int.mul_comm _ _)).mono ?_
  rintro e w2 ⟨rfl, hb2⟩
  go_wp2
  exact T_11 la lb lc (hb.trans (hb2.mono hb.size)) h0 o4 o5 o8 o10 (b3.keep hb2) (b4.keep hb2) (b5.keep hb2) (b8.keep hb2) (b10.keep hb2)

set_option maxRecDepth 100000 in
set_option maxHeartbeats 2000000 in
theorem T_9 {w wr : World} {g3 g4 g5 g8 g10 : Nat} {u0 u1 u2 u6 u13 u14 u15 u16 u17 u18 u19 u20 u21 u22 u23 u24 u25 u26 u27 u28 u29 u30 u31 u32 u33 u34 u35 u36 u37 u38 u39 u40 u41 u42 u43 u44 u45 u46 u47 u48 u49 u50 u51 u52 u53 u54 u55 u56 u57 u58 u59 u60 u61 u62 u63 u64 u65 u66 u67 u68 u69 u70 u71 u72 u73 u74 u75 u76 u77 u78 u79 u80 u81 u82 u83 u84 u85 u86 u87 u88 u89 u90 u91 u92 u93 u94 u95 u96 u97 u98 u99 u100 u101 u102 u103 u104 u105 u106 u107 u108 u109 u110 u111 u112 u113 u114 u115 u116 u117 u118 u119 u120 u121 u122 u123 u124 u125 u126 u127 u128 u129 u130 u131 u132 u133 u134 u135 u136 u137 u138 u139 u140 u141 u142 u143 u144 u145 u146 u147 u148 u149 u150 u151 u152 u153 u154 u155 u156 u157 u158 u159 u160 u161 u162 u163 u164 u165 u166 u167 : Value} {va vb vc : Int}
    (la : Lt 1280 va) (lb : Lt 1280 vb) (lc : Lt 1280 vc)
    (hb : Below w.heap.size w wr) (h0 : w.heap.size ≤ g3)
    (o4 : g3 < g4) (o5 : g4 < g5) (o8 : g5 < g8) (o10 : g8 < g10)
    (b3 : Bx wr g3 (va)) (b4 : Bx wr g4 (vb)) (b5 : Bx wr g5 (vc)) (b8 : Bx wr g8 (va * vb)) (b10 : Bx wr g10 (vb + va)) :
    Code.wp Tryd.prog (tail10 9) (Q10 w) ⟨#[u0, u1, u2, .pointer (some ⟨g3, 0, none⟩), .pointer (some ⟨g4, 0, none⟩), .pointer (some ⟨g5, 0, none⟩), u6, .bool true, .pointer (some ⟨g8, 0, none⟩), .int .i64 0, .pointer (some ⟨g10, 0, none⟩), .int .i64 0, .bool true, u13, u14, u15, u16, u17, u18, u19, u20, u21, u22, u23, u24, u25, u26, u27, u28, u29, u30, u31, u32, u33, u34, u35, u36, u37, u38, u39, u40, u41, u42, u43, u44, u45, u46, u47, u48, u49, u50, u51, u52, u53, u54, u55, u56, u57, u58, u59, u60, u61, u62, u63, u64, u65, u66, u67, u68, u69, u70, u71, u72, u73, u74, u75, u76, u77, u78, u79, u80, u81, u82, u83, u84, u85, u86, u87, u88, u89, u90, u91, u92, u93, u94, u95, u96, u97, u98, u99, u100, u101, u102, u103, u104, u105, u106, u107, u108, u109, u110, u111, u112, u113, u114, u115, u116, u117, u118, u119, u120, u121, u122, u123, u124, u125, u126, u127, u128, u129, u130, u131, u132, u133, u134, u135, u136, u137, u138, u139, u140, u141, u142, u143, u144, u145, u146, u147, u148, u149, u150, u151, u152, u153, u154, u155, u156, u157, u158, u159, u160, u161, u162, u163, u164, u165, u166, u167], []⟩ wr := by
  have b4' := b4
  obtain ⟨nA, aA, lA, cA, A, hHA, hRA, hEA⟩ := b4'
  obtain ⟨kA0, kA1, _, _⟩ := two_cells hHA
  have HEA := hid hEA
  clear hEA hHA
  have b3' := b3
  obtain ⟨nB, aB, lB, cB, B, hHB, hRB, hEB⟩ := b3'
  obtain ⟨kB0, kB1, _, _⟩ := two_cells hHB
  have HEB := hid hEB
  clear hEB hHB
  show Code.wp Tryd.prog (Code.seq (head10 9) (tail10 10)) _ _ _
  conv => arg 2; arg 1; whnf
  go_wp2_with fail
  refine (mul_ok _ hRA hRB HEA.out HEB.out (lb.sm (by decide)) (la.sm (by decide)) ((Lt.mul lb la).sm (by decide))).mono ?_
  rintro e w2 ⟨n2, ao2, len2, C2, rfl, hR2, hE2, hb2⟩
  have HE2 := hid hE2
  clear hE2
  obtain ⟨nP, aP, lP, cP, P, hHP, _, _⟩ := b10.keep hb2
  obtain ⟨kP0, kP1, kP2, kP3⟩ := two_cells hHP
  clear hHP
  go_wp2
  have hb3 := hb.trans (hb2.mono hb.size)
  exact T_10 la lb lc (below_put hb3 (by omega) _ _) h0 o4 o5 o8 o10 ((b3.keep hb2).put_other (b10.keep hb2) (by omega) _ _) ((b4.keep hb2).put_other (b10.keep hb2) (by omega) _ _) ((b5.keep hb2).put_other (b10.keep hb2) (by omega) _ _) ((b8.keep hb2).put_other (b10.keep hb2) (by omega) _ _) ((b10.keep hb2).put hR2 HE2.out)

set_option maxRecDepth 100000 in
set_option maxHeartbeats 2000000 in
theorem T_8 {w wr : World} {g3 g4 g5 g8 g10 : Nat} {u0 u1 u2 u6 u13 u14 u15 u16 u17 u18 u19 u20 u21 u22 u23 u24 u25 u26 u27 u28 u29 u30 u31 u32 u33 u34 u35 u36 u37 u38 u39 u40 u41 u42 u43 u44 u45 u46 u47 u48 u49 u50 u51 u52 u53 u54 u55 u56 u57 u58 u59 u60 u61 u62 u63 u64 u65 u66 u67 u68 u69 u70 u71 u72 u73 u74 u75 u76 u77 u78 u79 u80 u81 u82 u83 u84 u85 u86 u87 u88 u89 u90 u91 u92 u93 u94 u95 u96 u97 u98 u99 u100 u101 u102 u103 u104 u105 u106 u107 u108 u109 u110 u111 u112 u113 u114 u115 u116 u117 u118 u119 u120 u121 u122 u123 u124 u125 u126 u127 u128 u129 u130 u131 u132 u133 u134 u135 u136 u137 u138 u139 u140 u141 u142 u143 u144 u145 u146 u147 u148 u149 u150 u151 u152 u153 u154 u155 u156 u157 u158 u159 u160 u161 u162 u163 u164 u165 u166 u167 : Value} {va vb vc : Int}
    (la : Lt 1280 va) (lb : Lt 1280 vb) (lc : Lt 1280 vc)
    (hb : Below w.heap.size w wr) (h0 : w.heap.size ≤ g3)
    (o4 : g3 < g4) (o5 : g4 < g5) (o8 : g5 < g8) (o10 : g8 < g10)
    (b3 : Bx wr g3 (va)) (b4 : Bx wr g4 (vb)) (b5 : Bx wr g5 (vc)) (b8 : Bx wr g8 (va + vb)) (b10 : Bx wr g10 (vb + va)) :
    Code.wp Tryd.prog (tail10 8) (Q10 w) ⟨#[u0, u1, u2, .pointer (some ⟨g3, 0, none⟩), .pointer (some ⟨g4, 0, none⟩), .pointer (some ⟨g5, 0, none⟩), u6, .bool true, .pointer (some ⟨g8, 0, none⟩), .int .i64 0, .pointer (some ⟨g10, 0, none⟩), .int .i64 0, .bool true, u13, u14, u15, u16, u17, u18, u19, u20, u21, u22, u23, u24, u25, u26, u27, u28, u29, u30, u31, u32, u33, u34, u35, u36, u37, u38, u39, u40, u41, u42, u43, u44, u45, u46, u47, u48, u49, u50, u51, u52, u53, u54, u55, u56, u57, u58, u59, u60, u61, u62, u63, u64, u65, u66, u67, u68, u69, u70, u71, u72, u73, u74, u75, u76, u77, u78, u79, u80, u81, u82, u83, u84, u85, u86, u87, u88, u89, u90, u91, u92, u93, u94, u95, u96, u97, u98, u99, u100, u101, u102, u103, u104, u105, u106, u107, u108, u109, u110, u111, u112, u113, u114, u115, u116, u117, u118, u119, u120, u121, u122, u123, u124, u125, u126, u127, u128, u129, u130, u131, u132, u133, u134, u135, u136, u137, u138, u139, u140, u141, u142, u143, u144, u145, u146, u147, u148, u149, u150, u151, u152, u153, u154, u155, u156, u157, u158, u159, u160, u161, u162, u163, u164, u165, u166, u167], []⟩ wr := by
  have b3' := b3
  obtain ⟨nA, aA, lA, cA, A, hHA, hRA, hEA⟩ := b3'
  obtain ⟨kA0, kA1, _, _⟩ := two_cells hHA
  have HEA := hid hEA
  clear hEA hHA
  have b4' := b4
  obtain ⟨nB, aB, lB, cB, B, hHB, hRB, hEB⟩ := b4'
  obtain ⟨kB0, kB1, _, _⟩ := two_cells hHB
  have HEB := hid hEB
  clear hEB hHB
  show Code.wp Tryd.prog (Code.seq (head10 8) (tail10 9)) _ _ _
  conv => arg 2; arg 1; whnf
  go_wp2_with fail
  refine (mul_ok _ hRA hRB HEA.out HEB.out (la.sm (by decide)) (lb.sm (by decide)) ((Lt.mul la lb).sm (by decide))).mono ?_
  rintro e w2 ⟨n2, ao2, len2, C2, rfl, hR2, hE2, hb2⟩
  have HE2 := hid hE2
  clear hE2
  obtain ⟨nP, aP, lP, cP, P, hHP, _, _⟩ := b8.keep hb2
  obtain ⟨kP0, kP1, kP2, kP3⟩ := two_cells hHP
  clear hHP
  go_wp2
  have hb3 := hb.trans (hb2.mono hb.size)
  exact T_9 la lb lc (below_put hb3 (by omega) _ _) h0 o4 o5 o8 o10 ((b3.keep hb2).put_other (b8.keep hb2) (by omega) _ _) ((b4.keep hb2).put_other (b8.keep hb2) (by omega) _ _) ((b5.keep hb2).put_other (b8.keep hb2) (by omega) _ _) ((b8.keep hb2).put hR2 HE2.out) ((b10.keep hb2).put_other (b8.keep hb2) (by omega) _ _)

set_option maxRecDepth 100000 in
set_option maxHeartbeats 2000000 in
theorem T_7 {w wr : World} {g3 g4 g5 g8 g10 : Nat} {u0 u1 u2 u6 u12 u13 u14 u15 u16 u17 u18 u19 u20 u21 u22 u23 u24 u25 u26 u27 u28 u29 u30 u31 u32 u33 u34 u35 u36 u37 u38 u39 u40 u41 u42 u43 u44 u45 u46 u47 u48 u49 u50 u51 u52 u53 u54 u55 u56 u57 u58 u59 u60 u61 u62 u63 u64 u65 u66 u67 u68 u69 u70 u71 u72 u73 u74 u75 u76 u77 u78 u79 u80 u81 u82 u83 u84 u85 u86 u87 u88 u89 u90 u91 u92 u93 u94 u95 u96 u97 u98 u99 u100 u101 u102 u103 u104 u105 u106 u107 u108 u109 u110 u111 u112 u113 u114 u115 u116 u117 u118 u119 u120 u121 u122 u123 u124 u125 u126 u127 u128 u129 u130 u131 u132 u133 u134 u135 u136 u137 u138 u139 u140 u141 u142 u143 u144 u145 u146 u147 u148 u149 u150 u151 u152 u153 u154 u155 u156 u157 u158 u159 u160 u161 u162 u163 u164 u165 u166 u167 : Value} {va vb vc : Int}
    (la : Lt 1280 va) (lb : Lt 1280 vb) (lc : Lt 1280 vc)
    (hb : Below w.heap.size w wr) (h0 : w.heap.size ≤ g3)
    (o4 : g3 < g4) (o5 : g4 < g5) (o8 : g5 < g8) (o10 : g8 < g10)
    (b3 : Bx wr g3 (va)) (b4 : Bx wr g4 (vb)) (b5 : Bx wr g5 (vc)) (b8 : Bx wr g8 (va + vb)) (b10 : Bx wr g10 (vb + va)) :
    Code.wp Tryd.prog (tail10 7) (Q10 w) ⟨#[u0, u1, u2, .pointer (some ⟨g3, 0, none⟩), .pointer (some ⟨g4, 0, none⟩), .pointer (some ⟨g5, 0, none⟩), u6, .bool true, .pointer (some ⟨g8, 0, none⟩), .int .i64 0, .pointer (some ⟨g10, 0, none⟩), .int .i64 0, u12, u13, u14, u15, u16, u17, u18, u19, u20, u21, u22, u23, u24, u25, u26, u27, u28, u29, u30, u31, u32, u33, u34, u35, u36, u37, u38, u39, u40, u41, u42, u43, u44, u45, u46, u47, u48, u49, u50, u51, u52, u53, u54, u55, u56, u57, u58, u59, u60, u61, u62, u63, u64, u65, u66, u67, u68, u69, u70, u71, u72, u73, u74, u75, u76, u77, u78, u79, u80, u81, u82, u83, u84, u85, u86, u87, u88, u89, u90, u91, u92, u93, u94, u95, u96, u97, u98, u99, u100, u101, u102, u103, u104, u105, u106, u107, u108, u109, u110, u111, u112, u113, u114, u115, u116, u117, u118, u119, u120, u121, u122, u123, u124, u125, u126, u127, u128, u129, u130, u131, u132, u133, u134, u135, u136, u137, u138, u139, u140, u141, u142, u143, u144, u145, u146, u147, u148, u149, u150, u151, u152, u153, u154, u155, u156, u157, u158, u159, u160, u161, u162, u163, u164, u165, u166, u167], []⟩ wr := by
  have b8' := b8
  obtain ⟨nA, aA, lA, cA, A, hHA, hRA, hEA⟩ := b8'
  obtain ⟨kA0, kA1, _, _⟩ := two_cells hHA
  have HEA := hid hEA
  clear hEA hHA
  have b10' := b10
  obtain ⟨nB, aB, lB, cB, B, hHB, hRB, hEB⟩ := b10'
  obtain ⟨kB0, kB1, _, _⟩ := two_cells hHB
  have HEB := hid hEB
  clear hEB hHB
  show Code.wp Tryd.prog (Code.seq (head10 7) (tail10 8)) _ _ _
  conv => arg 2; arg 1; whnf
  go_wp2_with fail
  refine (same_yes _ 0 hRA hRB (by rw [HEA.out, HEB.out]; exact Int.add_comm _ _)).mono ?_
  rintro e w2 ⟨rfl, hb2⟩
  go_wp2
  exact T_8 la lb lc (hb.trans (hb2.mono hb.size)) h0 o4 o5 o8 o10 (b3.keep hb2) (b4.keep hb2) (b5.keep hb2) (b8.keep hb2) (b10.keep hb2)

set_option maxRecDepth 100000 in
set_option maxHeartbeats 2000000 in
theorem T_6 {w wr : World} {g3 g4 g5 g8 : Nat} {u0 u1 u2 u6 u10 u11 u12 u13 u14 u15 u16 u17 u18 u19 u20 u21 u22 u23 u24 u25 u26 u27 u28 u29 u30 u31 u32 u33 u34 u35 u36 u37 u38 u39 u40 u41 u42 u43 u44 u45 u46 u47 u48 u49 u50 u51 u52 u53 u54 u55 u56 u57 u58 u59 u60 u61 u62 u63 u64 u65 u66 u67 u68 u69 u70 u71 u72 u73 u74 u75 u76 u77 u78 u79 u80 u81 u82 u83 u84 u85 u86 u87 u88 u89 u90 u91 u92 u93 u94 u95 u96 u97 u98 u99 u100 u101 u102 u103 u104 u105 u106 u107 u108 u109 u110 u111 u112 u113 u114 u115 u116 u117 u118 u119 u120 u121 u122 u123 u124 u125 u126 u127 u128 u129 u130 u131 u132 u133 u134 u135 u136 u137 u138 u139 u140 u141 u142 u143 u144 u145 u146 u147 u148 u149 u150 u151 u152 u153 u154 u155 u156 u157 u158 u159 u160 u161 u162 u163 u164 u165 u166 u167 : Value} {va vb vc : Int}
    (la : Lt 1280 va) (lb : Lt 1280 vb) (lc : Lt 1280 vc)
    (hb : Below w.heap.size w wr) (h0 : w.heap.size ≤ g3)
    (o4 : g3 < g4) (o5 : g4 < g5) (o8 : g5 < g8)
    (b3 : Bx wr g3 (va)) (b4 : Bx wr g4 (vb)) (b5 : Bx wr g5 (vc)) (b8 : Bx wr g8 (va + vb)) :
    Code.wp Tryd.prog (tail10 6) (Q10 w) ⟨#[u0, u1, u2, .pointer (some ⟨g3, 0, none⟩), .pointer (some ⟨g4, 0, none⟩), .pointer (some ⟨g5, 0, none⟩), u6, .bool true, .pointer (some ⟨g8, 0, none⟩), .int .i64 0, u10, u11, u12, u13, u14, u15, u16, u17, u18, u19, u20, u21, u22, u23, u24, u25, u26, u27, u28, u29, u30, u31, u32, u33, u34, u35, u36, u37, u38, u39, u40, u41, u42, u43, u44, u45, u46, u47, u48, u49, u50, u51, u52, u53, u54, u55, u56, u57, u58, u59, u60, u61, u62, u63, u64, u65, u66, u67, u68, u69, u70, u71, u72, u73, u74, u75, u76, u77, u78, u79, u80, u81, u82, u83, u84, u85, u86, u87, u88, u89, u90, u91, u92, u93, u94, u95, u96, u97, u98, u99, u100, u101, u102, u103, u104, u105, u106, u107, u108, u109, u110, u111, u112, u113, u114, u115, u116, u117, u118, u119, u120, u121, u122, u123, u124, u125, u126, u127, u128, u129, u130, u131, u132, u133, u134, u135, u136, u137, u138, u139, u140, u141, u142, u143, u144, u145, u146, u147, u148, u149, u150, u151, u152, u153, u154, u155, u156, u157, u158, u159, u160, u161, u162, u163, u164, u165, u166, u167], []⟩ wr := by
  have b4' := b4
  obtain ⟨nA, aA, lA, cA, A, hHA, hRA, hEA⟩ := b4'
  obtain ⟨kA0, kA1, _, _⟩ := two_cells hHA
  have HEA := hid hEA
  clear hEA hHA
  have b3' := b3
  obtain ⟨nB, aB, lB, cB, B, hHB, hRB, hEB⟩ := b3'
  obtain ⟨kB0, kB1, _, _⟩ := two_cells hHB
  have HEB := hid hEB
  clear hEB hHB
  show Code.wp Tryd.prog (Code.seq (head10 6) (tail10 7)) _ _ _
  conv => arg 2; arg 1; whnf
  go_wp2_with fail
  refine (add_ok _ hRA hRB HEA.out HEB.out (lb.sm (by decide)) (la.sm (by decide)) ((Lt.add lb la).sm (by decide))).mono ?_
  rintro e w2 ⟨n2, ao2, len2, C2, rfl, hR2, hE2, hb2⟩
  have HE2 := hid hE2
  clear hE2
  go_wp2
  have hlast : g8 < w2.heap.size := (b8.keep hb2).lt
  have hb3 := hb.trans (hb2.mono hb.size)
  exact T_7 la lb lc (hb3.alloc hb3.size _) h0 o4 o5 o8 hlast ((b3.keep hb2).alloc _) ((b4.keep hb2).alloc _) ((b5.keep hb2).alloc _) ((b8.keep hb2).alloc _) (Bx.new hR2 HE2.out)

set_option maxRecDepth 100000 in
set_option maxHeartbeats 2000000 in
theorem T_5 {w wr : World} {g3 g4 g5 : Nat} {u0 u1 u2 u6 u8 u9 u10 u11 u12 u13 u14 u15 u16 u17 u18 u19 u20 u21 u22 u23 u24 u25 u26 u27 u28 u29 u30 u31 u32 u33 u34 u35 u36 u37 u38 u39 u40 u41 u42 u43 u44 u45 u46 u47 u48 u49 u50 u51 u52 u53 u54 u55 u56 u57 u58 u59 u60 u61 u62 u63 u64 u65 u66 u67 u68 u69 u70 u71 u72 u73 u74 u75 u76 u77 u78 u79 u80 u81 u82 u83 u84 u85 u86 u87 u88 u89 u90 u91 u92 u93 u94 u95 u96 u97 u98 u99 u100 u101 u102 u103 u104 u105 u106 u107 u108 u109 u110 u111 u112 u113 u114 u115 u116 u117 u118 u119 u120 u121 u122 u123 u124 u125 u126 u127 u128 u129 u130 u131 u132 u133 u134 u135 u136 u137 u138 u139 u140 u141 u142 u143 u144 u145 u146 u147 u148 u149 u150 u151 u152 u153 u154 u155 u156 u157 u158 u159 u160 u161 u162 u163 u164 u165 u166 u167 : Value} {va vb vc : Int}
    (la : Lt 1280 va) (lb : Lt 1280 vb) (lc : Lt 1280 vc)
    (hb : Below w.heap.size w wr) (h0 : w.heap.size ≤ g3)
    (o4 : g3 < g4) (o5 : g4 < g5)
    (b3 : Bx wr g3 (va)) (b4 : Bx wr g4 (vb)) (b5 : Bx wr g5 (vc)) :
    Code.wp Tryd.prog (tail10 5) (Q10 w) ⟨#[u0, u1, u2, .pointer (some ⟨g3, 0, none⟩), .pointer (some ⟨g4, 0, none⟩), .pointer (some ⟨g5, 0, none⟩), u6, .bool true, u8, u9, u10, u11, u12, u13, u14, u15, u16, u17, u18, u19, u20, u21, u22, u23, u24, u25, u26, u27, u28, u29, u30, u31, u32, u33, u34, u35, u36, u37, u38, u39, u40, u41, u42, u43, u44, u45, u46, u47, u48, u49, u50, u51, u52, u53, u54, u55, u56, u57, u58, u59, u60, u61, u62, u63, u64, u65, u66, u67, u68, u69, u70, u71, u72, u73, u74, u75, u76, u77, u78, u79, u80, u81, u82, u83, u84, u85, u86, u87, u88, u89, u90, u91, u92, u93, u94, u95, u96, u97, u98, u99, u100, u101, u102, u103, u104, u105, u106, u107, u108, u109, u110, u111, u112, u113, u114, u115, u116, u117, u118, u119, u120, u121, u122, u123, u124, u125, u126, u127, u128, u129, u130, u131, u132, u133, u134, u135, u136, u137, u138, u139, u140, u141, u142, u143, u144, u145, u146, u147, u148, u149, u150, u151, u152, u153, u154, u155, u156, u157, u158, u159, u160, u161, u162, u163, u164, u165, u166, u167], []⟩ wr := by
  have b3' := b3
  obtain ⟨nA, aA, lA, cA, A, hHA, hRA, hEA⟩ := b3'
  obtain ⟨kA0, kA1, _, _⟩ := two_cells hHA
  have HEA := hid hEA
  clear hEA hHA
  have b4' := b4
  obtain ⟨nB, aB, lB, cB, B, hHB, hRB, hEB⟩ := b4'
  obtain ⟨kB0, kB1, _, _⟩ := two_cells hHB
  have HEB := hid hEB
  clear hEB hHB
  show Code.wp Tryd.prog (Code.seq (head10 5) (tail10 6)) _ _ _
  conv => arg 2; arg 1; whnf
  go_wp2_with fail
  refine (add_ok _ hRA hRB HEA.out HEB.out (la.sm (by decide)) (lb.sm (by decide)) ((Lt.add la lb).sm (by decide))).mono ?_
  rintro e w2 ⟨n2, ao2, len2, C2, rfl, hR2, hE2, hb2⟩
  have HE2 := hid hE2
  clear hE2
  go_wp2
  have hlast : g5 < w2.heap.size := (b5.keep hb2).lt
  have hb3 := hb.trans (hb2.mono hb.size)
  exact T_6 la lb lc (hb3.alloc hb3.size _) h0 o4 o5 hlast ((b3.keep hb2).alloc _) ((b4.keep hb2).alloc _) ((b5.keep hb2).alloc _) (Bx.new hR2 HE2.out)

set_option maxRecDepth 100000 in
set_option maxHeartbeats 2000000 in
theorem T_4 {w wr : World} {g3 g4 g5 : Nat} {u0 u1 u2 u6 u8 u9 u10 u11 u12 u13 u14 u15 u16 u17 u18 u19 u20 u21 u22 u23 u24 u25 u26 u27 u28 u29 u30 u31 u32 u33 u34 u35 u36 u37 u38 u39 u40 u41 u42 u43 u44 u45 u46 u47 u48 u49 u50 u51 u52 u53 u54 u55 u56 u57 u58 u59 u60 u61 u62 u63 u64 u65 u66 u67 u68 u69 u70 u71 u72 u73 u74 u75 u76 u77 u78 u79 u80 u81 u82 u83 u84 u85 u86 u87 u88 u89 u90 u91 u92 u93 u94 u95 u96 u97 u98 u99 u100 u101 u102 u103 u104 u105 u106 u107 u108 u109 u110 u111 u112 u113 u114 u115 u116 u117 u118 u119 u120 u121 u122 u123 u124 u125 u126 u127 u128 u129 u130 u131 u132 u133 u134 u135 u136 u137 u138 u139 u140 u141 u142 u143 u144 u145 u146 u147 u148 u149 u150 u151 u152 u153 u154 u155 u156 u157 u158 u159 u160 u161 u162 u163 u164 u165 u166 u167 : Value} {va vb vc : Int}
    (la : Lt 1280 va) (lb : Lt 1280 vb)
    (hb : Below w.heap.size w wr) (h0 : w.heap.size ≤ g3)
    (o4 : g3 < g4) (o5 : g4 < g5)
    (b3 : Bx wr g3 (va)) (b4 : Bx wr g4 (vb)) (b5 : Bx wr g5 (vc)) :
    Code.wp Tryd.prog (tail10 4) (Q10 w) ⟨#[u0, u1, u2, .pointer (some ⟨g3, 0, none⟩), .pointer (some ⟨g4, 0, none⟩), .pointer (some ⟨g5, 0, none⟩), u6, .bool true, u8, u9, u10, u11, u12, u13, u14, u15, u16, u17, u18, u19, u20, u21, u22, u23, u24, u25, u26, u27, u28, u29, u30, u31, u32, u33, u34, u35, u36, u37, u38, u39, u40, u41, u42, u43, u44, u45, u46, u47, u48, u49, u50, u51, u52, u53, u54, u55, u56, u57, u58, u59, u60, u61, u62, u63, u64, u65, u66, u67, u68, u69, u70, u71, u72, u73, u74, u75, u76, u77, u78, u79, u80, u81, u82, u83, u84, u85, u86, u87, u88, u89, u90, u91, u92, u93, u94, u95, u96, u97, u98, u99, u100, u101, u102, u103, u104, u105, u106, u107, u108, u109, u110, u111, u112, u113, u114, u115, u116, u117, u118, u119, u120, u121, u122, u123, u124, u125, u126, u127, u128, u129, u130, u131, u132, u133, u134, u135, u136, u137, u138, u139, u140, u141, u142, u143, u144, u145, u146, u147, u148, u149, u150, u151, u152, u153, u154, u155, u156, u157, u158, u159, u160, u161, u162, u163, u164, u165, u166, u167], []⟩ wr := by
  have b5' := b5
  obtain ⟨nA, aA, lA, cA, A, hHA, hRA, hEA⟩ := b5'
  obtain ⟨kA0, kA1, _, _⟩ := two_cells hHA
  have HEA := hid hEA
  clear hEA hHA
  show Code.wp Tryd.prog (Code.seq (head10 4) (tail10 5)) _ _ _
  conv => arg 2; arg 1; whnf
  go_wp2_with fail
  refine (few_any nA aA lA cA A 40 _ hRA (by decide) (by decide)).mono ?_
  rintro e w2 ⟨ao2, len2, cap2, rfl, hR2, hb2⟩
  have hlt : Lt 1280 (num nA (A.take 40)) := lt_take hRA.ok _ rfl
  obtain ⟨nP, aP, lP, cP, P, hHP, _, _⟩ := b5.keep hb2
  obtain ⟨kP0, kP1, kP2, kP3⟩ := two_cells hHP
  clear hHP
  go_wp2
  have hb3 := hb.trans (hb2.mono hb.size)
  exact T_5 la lb hlt (below_put hb3 (by omega) _ _) h0 o4 o5 ((b3.keep hb2).put_other (b5.keep hb2) (by omega) _ _) ((b4.keep hb2).put_other (b5.keep hb2) (by omega) _ _) ((b5.keep hb2).put hR2 rfl)

set_option maxRecDepth 100000 in
set_option maxHeartbeats 2000000 in
theorem T_3 {w wr : World} {g3 g4 g5 : Nat} {u0 u1 u2 u6 u8 u9 u10 u11 u12 u13 u14 u15 u16 u17 u18 u19 u20 u21 u22 u23 u24 u25 u26 u27 u28 u29 u30 u31 u32 u33 u34 u35 u36 u37 u38 u39 u40 u41 u42 u43 u44 u45 u46 u47 u48 u49 u50 u51 u52 u53 u54 u55 u56 u57 u58 u59 u60 u61 u62 u63 u64 u65 u66 u67 u68 u69 u70 u71 u72 u73 u74 u75 u76 u77 u78 u79 u80 u81 u82 u83 u84 u85 u86 u87 u88 u89 u90 u91 u92 u93 u94 u95 u96 u97 u98 u99 u100 u101 u102 u103 u104 u105 u106 u107 u108 u109 u110 u111 u112 u113 u114 u115 u116 u117 u118 u119 u120 u121 u122 u123 u124 u125 u126 u127 u128 u129 u130 u131 u132 u133 u134 u135 u136 u137 u138 u139 u140 u141 u142 u143 u144 u145 u146 u147 u148 u149 u150 u151 u152 u153 u154 u155 u156 u157 u158 u159 u160 u161 u162 u163 u164 u165 u166 u167 : Value} {va vb vc : Int}
    (la : Lt 1280 va)
    (hb : Below w.heap.size w wr) (h0 : w.heap.size ≤ g3)
    (o4 : g3 < g4) (o5 : g4 < g5)
    (b3 : Bx wr g3 (va)) (b4 : Bx wr g4 (vb)) (b5 : Bx wr g5 (vc)) :
    Code.wp Tryd.prog (tail10 3) (Q10 w) ⟨#[u0, u1, u2, .pointer (some ⟨g3, 0, none⟩), .pointer (some ⟨g4, 0, none⟩), .pointer (some ⟨g5, 0, none⟩), u6, .bool true, u8, u9, u10, u11, u12, u13, u14, u15, u16, u17, u18, u19, u20, u21, u22, u23, u24, u25, u26, u27, u28, u29, u30, u31, u32, u33, u34, u35, u36, u37, u38, u39, u40, u41, u42, u43, u44, u45, u46, u47, u48, u49, u50, u51, u52, u53, u54, u55, u56, u57, u58, u59, u60, u61, u62, u63, u64, u65, u66, u67, u68, u69, u70, u71, u72, u73, u74, u75, u76, u77, u78, u79, u80, u81, u82, u83, u84, u85, u86, u87, u88, u89, u90, u91, u92, u93, u94, u95, u96, u97, u98, u99, u100, u101, u102, u103, u104, u105, u106, u107, u108, u109, u110, u111, u112, u113, u114, u115, u116, u117, u118, u119, u120, u121, u122, u123, u124, u125, u126, u127, u128, u129, u130, u131, u132, u133, u134, u135, u136, u137, u138, u139, u140, u141, u142, u143, u144, u145, u146, u147, u148, u149, u150, u151, u152, u153, u154, u155, u156, u157, u158, u159, u160, u161, u162, u163, u164, u165, u166, u167], []⟩ wr := by
  have b4' := b4
  obtain ⟨nA, aA, lA, cA, A, hHA, hRA, hEA⟩ := b4'
  obtain ⟨kA0, kA1, _, _⟩ := two_cells hHA
  have HEA := hid hEA
  clear hEA hHA
  show Code.wp Tryd.prog (Code.seq (head10 3) (tail10 4)) _ _ _
  conv => arg 2; arg 1; whnf
  go_wp2_with fail
  refine (few_any nA aA lA cA A 40 _ hRA (by decide) (by decide)).mono ?_
  rintro e w2 ⟨ao2, len2, cap2, rfl, hR2, hb2⟩
  have hlt : Lt 1280 (num nA (A.take 40)) := lt_take hRA.ok _ rfl
  obtain ⟨nP, aP, lP, cP, P, hHP, _, _⟩ := b4.keep hb2
  obtain ⟨kP0, kP1, kP2, kP3⟩ := two_cells hHP
  clear hHP
  go_wp2
  have hb3 := hb.trans (hb2.mono hb.size)
  exact T_4 la hlt (below_put hb3 (by omega) _ _) h0 o4 o5 ((b3.keep hb2).put_other (b4.keep hb2) (by omega) _ _) ((b4.keep hb2).put hR2 rfl) ((b5.keep hb2).put_other (b4.keep hb2) (by omega) _ _)

set_option maxRecDepth 100000 in
set_option maxHeartbeats 2000000 in
theorem T_2 {w wr : World} {g3 g4 g5 : Nat} {u0 u1 u2 u6 u8 u9 u10 u11 u12 u13 u14 u15 u16 u17 u18 u19 u20 u21 u22 u23 u24 u25 u26 u27 u28 u29 u30 u31 u32 u33 u34 u35 u36 u37 u38 u39 u40 u41 u42 u43 u44 u45 u46 u47 u48 u49 u50 u51 u52 u53 u54 u55 u56 u57 u58 u59 u60 u61 u62 u63 u64 u65 u66 u67 u68 u69 u70 u71 u72 u73 u74 u75 u76 u77 u78 u79 u80 u81 u82 u83 u84 u85 u86 u87 u88 u89 u90 u91 u92 u93 u94 u95 u96 u97 u98 u99 u100 u101 u102 u103 u104 u105 u106 u107 u108 u109 u110 u111 u112 u113 u114 u115 u116 u117 u118 u119 u120 u121 u122 u123 u124 u125 u126 u127 u128 u129 u130 u131 u132 u133 u134 u135 u136 u137 u138 u139 u140 u141 u142 u143 u144 u145 u146 u147 u148 u149 u150 u151 u152 u153 u154 u155 u156 u157 u158 u159 u160 u161 u162 u163 u164 u165 u166 u167 : Value} {va vb vc : Int}
    
    (hb : Below w.heap.size w wr) (h0 : w.heap.size ≤ g3)
    (o4 : g3 < g4) (o5 : g4 < g5)
    (b3 : Bx wr g3 (va)) (b4 : Bx wr g4 (vb)) (b5 : Bx wr g5 (vc)) :
    Code.wp Tryd.prog (tail10 2) (Q10 w) ⟨#[u0, u1, u2, .pointer (some ⟨g3, 0, none⟩), .pointer (some ⟨g4, 0, none⟩), .pointer (some ⟨g5, 0, none⟩), u6, .bool true, u8, u9, u10, u11, u12, u13, u14, u15, u16, u17, u18, u19, u20, u21, u22, u23, u24, u25, u26, u27, u28, u29, u30, u31, u32, u33, u34, u35, u36, u37, u38, u39, u40, u41, u42, u43, u44, u45, u46, u47, u48, u49, u50, u51, u52, u53, u54, u55, u56, u57, u58, u59, u60, u61, u62, u63, u64, u65, u66, u67, u68, u69, u70, u71, u72, u73, u74, u75, u76, u77, u78, u79, u80, u81, u82, u83, u84, u85, u86, u87, u88, u89, u90, u91, u92, u93, u94, u95, u96, u97, u98, u99, u100, u101, u102, u103, u104, u105, u106, u107, u108, u109, u110, u111, u112, u113, u114, u115, u116, u117, u118, u119, u120, u121, u122, u123, u124, u125, u126, u127, u128, u129, u130, u131, u132, u133, u134, u135, u136, u137, u138, u139, u140, u141, u142, u143, u144, u145, u146, u147, u148, u149, u150, u151, u152, u153, u154, u155, u156, u157, u158, u159, u160, u161, u162, u163, u164, u165, u166, u167], []⟩ wr := by
  have b3' := b3
  obtain ⟨nA, aA, lA, cA, A, hHA, hRA, hEA⟩ := b3'
  obtain ⟨kA0, kA1, _, _⟩ := two_cells hHA
  have HEA := hid hEA
  clear hEA hHA
  show Code.wp Tryd.prog (Code.seq (head10 2) (tail10 3)) _ _ _
  conv => arg 2; arg 1; whnf
  go_wp2_with fail
  refine (few_any nA aA lA cA A 40 _ hRA (by decide) (by decide)).mono ?_
  rintro e w2 ⟨ao2, len2, cap2, rfl, hR2, hb2⟩
  have hlt : Lt 1280 (num nA (A.take 40)) := lt_take hRA.ok _ rfl
  obtain ⟨nP, aP, lP, cP, P, hHP, _, _⟩ := b3.keep hb2
  obtain ⟨kP0, kP1, kP2, kP3⟩ := two_cells hHP
  clear hHP
  go_wp2
  have hb3 := hb.trans (hb2.mono hb.size)
  exact T_3 hlt (below_put hb3 (by omega) _ _) h0 o4 o5 ((b3.keep hb2).put hR2 rfl) ((b4.keep hb2).put_other (b3.keep hb2) (by omega) _ _) ((b5.keep hb2).put_other (b3.keep hb2) (by omega) _ _)

set_option maxRecDepth 100000 in
set_option maxHeartbeats 2000000 in
theorem rings_yes {na : Bool} {aa : Option Addr} {la ca : Nat} {A : List Nat} {nb : Bool} {ab : Option Addr} {lb cb : Nat} {B : List Nat} {nc : Bool} {ac : Option Addr} {lc cc : Nat} {C : List Nat} (w : World) (hA : Rd w aa la ca A) (hB : Rd w ab lb cb B) (hC : Rd w ac lc cc C) :
    Calls Tryd.prog 10 #[.agg #[.bool na, .slice aa la ca], .agg #[.bool nb, .slice ab lb cb], .agg #[.bool nc, .slice ac lc cc]] w fun e w' => e = .returned (.bool true) ∧ Below w.heap.size w w' := by
  have X0 := ((Bx.new (n := na) hA rfl).alloc (.cells #[.bool nb, .slice ab lb cb] 24)).alloc (.cells #[.bool nc, .slice ac lc cc] 24)
  have X1 := (Bx.new (n := nb) (hB.alloc (.cells #[.bool na, .slice aa la ca] 24)) rfl).alloc (.cells #[.bool nc, .slice ac lc cc] 24)
  have X2 := Bx.new (n := nc) ((hC.alloc (.cells #[.bool na, .slice aa la ca] 24)).alloc (.cells #[.bool nb, .slice ab lb cb] 24)) rfl
  rw [show (w.alloc (.cells #[.bool na, .slice aa la ca] 24)).heap.size = w.heap.size + 1 by simp] at X1
  rw [show ((w.alloc (.cells #[.bool na, .slice aa la ca] 24)).alloc (.cells #[.bool nb, .slice ab lb cb] 24)).heap.size = w.heap.size + 1 + 1 by simp] at X2
  have hb := (((Below.refl w.heap.size w).alloc (Nat.le_refl _) (.cells #[.bool na, .slice aa la ca] 24)).alloc (by simp) (.cells #[.bool nb, .slice ab lb cb] 24)).alloc (by simp; omega) (.cells #[.bool nc, .slice ac lc cc] 24)
  go_enter Tryd.func10, Tryd.ntmps10
  change Code.wp Tryd.prog (Code.seq (head10 0) (tail10 1)) (Q10 w) _ _
  conv => arg 2; arg 1; whnf
  go_wp2
  show Code.wp Tryd.prog (Code.seq (head10 1) (tail10 2)) _ _ _
  conv => arg 2; arg 1; whnf
  go_wp2_with fail
  refine (awake_yes _).mono ?_
  rintro e w2 ⟨rfl, hb2⟩
  go_wp2
  exact T_2 (hb.trans (hb2.mono hb.size)) (Nat.le_refl _) (by simp) (by simp) (X0.keep hb2) (X1.keep hb2) (X2.keep hb2)
end Go.Proofs.YtldafoojkimdeaaDoor
