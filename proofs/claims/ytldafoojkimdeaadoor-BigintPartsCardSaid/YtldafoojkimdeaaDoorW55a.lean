/- The law BigintParts: its last regions, and cases of the region of signs. -/
import Derived.Test.YtldafoojkimdeaaDoorW53a
import Derived.Test.YtldafoojkimdeaaDoorW53b
namespace Go.Proofs.YtldafoojkimdeaaDoor
open Go.RowKit Lm

set_option maxRecDepth 100000 in
set_option maxHeartbeats 2000000 in
theorem PN_16 {ap : Bool} {w wr : World} {g2 g3 g6 g7 g9 g10 g12 g14 g18 : Nat} {u0 u1 u4 u24 u25 u26 u27 u28 u29 u30 u31 u32 u33 u34 u35 u36 u37 u38 u39 u40 u41 u42 u43 u44 u45 u46 u47 u48 u49 u50 u51 u52 u53 u54 u55 u56 u57 u58 u59 u60 u61 u62 u63 u64 u65 u66 u67 u68 u69 u70 u71 u72 u73 u74 u75 u76 u77 u78 u79 u80 u81 u82 u83 u84 u85 u86 u87 u88 u89 u90 u91 u92 u93 u94 u95 u96 u97 u98 u99 u100 u101 u102 u103 u104 u105 u106 u107 u108 u109 u110 u111 u112 u113 u114 u115 u116 u117 u118 u119 u120 u121 u122 u123 u124 u125 u126 u127 u128 u129 u130 u131 u132 u133 u134 u135 u136 u137 u138 u139 u140 u141 u142 u143 u144 u145 u146 u147 u148 u149 u150 u151 u152 u153 u154 u155 u156 u157 u158 u159 u160 u161 u162 u163 u164 u165 u166 u167 u168 u169 : Value} {va vb vq vr vd vm : Int}
    (la : Lt 3840 va) (lb : Lt 3840 vb) (hz : Hid (vb ≠ 0)) (hq : Hid (TruncDiv va vb vq vr)) (lqb : Lt 3841 (vq * vb)) (lq : Lt 3841 vq) (lr : Lt 3840 vr) (hd : Hid (Floors va vb vd vm)) (ldb : Lt 3841 (vd * vb)) (ld : Lt 3841 vd) (lm : Lt 3840 vm) (hap : ApIs ap vq vd)
    (hb : Below w.heap.size w wr) (h0 : w.heap.size ≤ g2)
    (o3 : g2 < g3) (o6 : g3 < g6) (o7 : g6 < g7) (o9 : g7 < g9) (o10 : g9 < g10) (o12 : g10 < g12) (o14 : g12 < g14) (o18 : g14 < g18)
    (b2 : Bx wr g2 (va)) (b3 : Bx wr g3 (vb)) (b6 : Bx wr g6 (vq)) (b7 : Bx wr g7 (vr)) (b9 : Bx wr g9 (vd)) (b10 : Bx wr g10 (vm)) (b12 : Bx wr g12 (vd * vb)) (b14 : Bx wr g14 (vq * vb + vr)) (b18 : Bx wr g18 (vd * vb + vm)) :
    Code.wp Tryd.prog (tail11 16) (Q11 w) ⟨#[u0, u1, .pointer (some ⟨g2, 0, none⟩), .pointer (some ⟨g3, 0, none⟩), u4, .bool true, .pointer (some ⟨g6, 0, none⟩), .pointer (some ⟨g7, 0, none⟩), .int .i64 0, .pointer (some ⟨g9, 0, none⟩), .pointer (some ⟨g10, 0, none⟩), .int .i64 0, .pointer (some ⟨g12, 0, none⟩), .int .i64 0, .pointer (some ⟨g14, 0, none⟩), .int .i64 0, .bool true, .int .i64 0, .pointer (some ⟨g18, 0, none⟩), .int .i64 0, .bool true, .bool true, .bool true, .bool ap, u24, u25, u26, u27, u28, u29, u30, u31, u32, u33, u34, u35, u36, u37, u38, u39, u40, u41, u42, u43, u44, u45, u46, u47, u48, u49, u50, u51, u52, u53, u54, u55, u56, u57, u58, u59, u60, u61, u62, u63, u64, u65, u66, u67, u68, u69, u70, u71, u72, u73, u74, u75, u76, u77, u78, u79, u80, u81, u82, u83, u84, u85, u86, u87, u88, u89, u90, u91, u92, u93, u94, u95, u96, u97, u98, u99, u100, u101, u102, u103, u104, u105, u106, u107, u108, u109, u110, u111, u112, u113, u114, u115, u116, u117, u118, u119, u120, u121, u122, u123, u124, u125, u126, u127, u128, u129, u130, u131, u132, u133, u134, u135, u136, u137, u138, u139, u140, u141, u142, u143, u144, u145, u146, u147, u148, u149, u150, u151, u152, u153, u154, u155, u156, u157, u158, u159, u160, u161, u162, u163, u164, u165, u166, u167, u168, u169], []⟩ wr := by
  rcases ap_cases hz.out hq.out hd.out hap with ⟨hx, hsr⟩ | ⟨hx, hsr, hsa, hsb⟩ | ⟨hx, hsr, hsa, hsb⟩ | ⟨hx, hsr, hsa, hsb⟩ | ⟨hx, hsr, hsa, hsb⟩
  · exact PN_16_c0 la lb hz hq lqb lq lr hd ldb ld lm hap hx hsr hb h0 o3 o6 o7 o9 o10 o12 o14 o18 b2 b3 b6 b7 b9 b10 b12 b14 b18
  · exact PN_16_c1 la lb hz hq lqb lq lr hd ldb ld lm hap hx hsr hsa hsb hb h0 o3 o6 o7 o9 o10 o12 o14 o18 b2 b3 b6 b7 b9 b10 b12 b14 b18
  · exact PN_16_c2 la lb hz hq lqb lq lr hd ldb ld lm hap hx hsr hsa hsb hb h0 o3 o6 o7 o9 o10 o12 o14 o18 b2 b3 b6 b7 b9 b10 b12 b14 b18
  · exact PN_16_c3 la lb hz hq lqb lq lr hd ldb ld lm hap hx hsr hsa hsb hb h0 o3 o6 o7 o9 o10 o12 o14 o18 b2 b3 b6 b7 b9 b10 b12 b14 b18
  · exact PN_16_c4 la lb hz hq lqb lq lr hd ldb ld lm hap hx hsr hsa hsb hb h0 o3 o6 o7 o9 o10 o12 o14 o18 b2 b3 b6 b7 b9 b10 b12 b14 b18

set_option maxRecDepth 100000 in
set_option maxHeartbeats 2000000 in
theorem PN_15 {w wr : World} {g2 g3 g6 g7 g9 g10 g12 g14 g18 : Nat} {u0 u1 u4 u23 u24 u25 u26 u27 u28 u29 u30 u31 u32 u33 u34 u35 u36 u37 u38 u39 u40 u41 u42 u43 u44 u45 u46 u47 u48 u49 u50 u51 u52 u53 u54 u55 u56 u57 u58 u59 u60 u61 u62 u63 u64 u65 u66 u67 u68 u69 u70 u71 u72 u73 u74 u75 u76 u77 u78 u79 u80 u81 u82 u83 u84 u85 u86 u87 u88 u89 u90 u91 u92 u93 u94 u95 u96 u97 u98 u99 u100 u101 u102 u103 u104 u105 u106 u107 u108 u109 u110 u111 u112 u113 u114 u115 u116 u117 u118 u119 u120 u121 u122 u123 u124 u125 u126 u127 u128 u129 u130 u131 u132 u133 u134 u135 u136 u137 u138 u139 u140 u141 u142 u143 u144 u145 u146 u147 u148 u149 u150 u151 u152 u153 u154 u155 u156 u157 u158 u159 u160 u161 u162 u163 u164 u165 u166 u167 u168 u169 : Value} {va vb vq vr vd vm : Int}
    (la : Lt 3840 va) (lb : Lt 3840 vb) (hz : Hid (vb ≠ 0)) (hq : Hid (TruncDiv va vb vq vr)) (lqb : Lt 3841 (vq * vb)) (lq : Lt 3841 vq) (lr : Lt 3840 vr) (hd : Hid (Floors va vb vd vm)) (ldb : Lt 3841 (vd * vb)) (ld : Lt 3841 vd) (lm : Lt 3840 vm)
    (hb : Below w.heap.size w wr) (h0 : w.heap.size ≤ g2)
    (o3 : g2 < g3) (o6 : g3 < g6) (o7 : g6 < g7) (o9 : g7 < g9) (o10 : g9 < g10) (o12 : g10 < g12) (o14 : g12 < g14) (o18 : g14 < g18)
    (b2 : Bx wr g2 (va)) (b3 : Bx wr g3 (vb)) (b6 : Bx wr g6 (vq)) (b7 : Bx wr g7 (vr)) (b9 : Bx wr g9 (vd)) (b10 : Bx wr g10 (vm)) (b12 : Bx wr g12 (vd * vb)) (b14 : Bx wr g14 (vq * vb + vr)) (b18 : Bx wr g18 (vd * vb + vm)) :
    Code.wp Tryd.prog (tail11 15) (Q11 w) ⟨#[u0, u1, .pointer (some ⟨g2, 0, none⟩), .pointer (some ⟨g3, 0, none⟩), u4, .bool true, .pointer (some ⟨g6, 0, none⟩), .pointer (some ⟨g7, 0, none⟩), .int .i64 0, .pointer (some ⟨g9, 0, none⟩), .pointer (some ⟨g10, 0, none⟩), .int .i64 0, .pointer (some ⟨g12, 0, none⟩), .int .i64 0, .pointer (some ⟨g14, 0, none⟩), .int .i64 0, .bool true, .int .i64 0, .pointer (some ⟨g18, 0, none⟩), .int .i64 0, .bool true, .bool true, .bool true, u23, u24, u25, u26, u27, u28, u29, u30, u31, u32, u33, u34, u35, u36, u37, u38, u39, u40, u41, u42, u43, u44, u45, u46, u47, u48, u49, u50, u51, u52, u53, u54, u55, u56, u57, u58, u59, u60, u61, u62, u63, u64, u65, u66, u67, u68, u69, u70, u71, u72, u73, u74, u75, u76, u77, u78, u79, u80, u81, u82, u83, u84, u85, u86, u87, u88, u89, u90, u91, u92, u93, u94, u95, u96, u97, u98, u99, u100, u101, u102, u103, u104, u105, u106, u107, u108, u109, u110, u111, u112, u113, u114, u115, u116, u117, u118, u119, u120, u121, u122, u123, u124, u125, u126, u127, u128, u129, u130, u131, u132, u133, u134, u135, u136, u137, u138, u139, u140, u141, u142, u143, u144, u145, u146, u147, u148, u149, u150, u151, u152, u153, u154, u155, u156, u157, u158, u159, u160, u161, u162, u163, u164, u165, u166, u167, u168, u169], []⟩ wr := by
  have b6' := b6
  obtain ⟨nQ, aQ, lQ, cQ, Q, hHQ, hRQ, hEQ⟩ := b6'
  obtain ⟨kQ0, kQ1, _, _⟩ := two_cells hHQ
  have HEQ := hid hEQ
  clear hEQ hHQ
  have b9' := b9
  obtain ⟨nD, aD, lD, cD, D, hHD, hRD, hED⟩ := b9'
  obtain ⟨kD0, kD1, _, _⟩ := two_cells hHD
  have HED := hid hED
  clear hED hHD
  show Code.wp Tryd.prog (Code.seq (head11 15) (tail11 16)) _ _ _
  conv => arg 2; arg 1; whnf
  go_wp2_with fail
  refine (cmp_any nQ aQ lQ cQ Q nD aD lD cD D _ hRQ hRD).mono ?_
  rintro e w2 ⟨rfl, hb2⟩
  rw [HEQ.out, HED.out]
  rcases sign_apart vq vd with ⟨hs, hap⟩ | ⟨hs, hap⟩ | ⟨hs, hap⟩
  all_goals
    rw [hs]
    go_wp2
    exact PN_16 la lb hz hq lqb lq lr hd ldb ld lm hap (hb.trans (hb2.mono hb.size)) h0 o3 o6 o7 o9 o10 o12 o14 o18 (b2.keep hb2) (b3.keep hb2) (b6.keep hb2) (b7.keep hb2) (b9.keep hb2) (b10.keep hb2) (b12.keep hb2) (b14.keep hb2) (b18.keep hb2)


set_option maxRecDepth 100000 in
set_option maxHeartbeats 20000000 in
theorem PN_14_c00 {w wr : World} {g2 g3 g6 g7 g9 g10 g12 g14 g18 : Nat} {u0 u1 u4 u22 u23 u24 u25 u26 u27 u28 u29 u30 u31 u32 u33 u34 u35 u36 u37 u38 u39 u40 u41 u42 u43 u44 u45 u46 u47 u48 u49 u50 u51 u52 u53 u54 u55 u56 u57 u58 u59 u60 u61 u62 u63 u64 u65 u66 u67 u68 u69 u70 u71 u72 u73 u74 u75 u76 u77 u78 u79 u80 u81 u82 u83 u84 u85 u86 u87 u88 u89 u90 u91 u92 u93 u94 u95 u96 u97 u98 u99 u100 u101 u102 u103 u104 u105 u106 u107 u108 u109 u110 u111 u112 u113 u114 u115 u116 u117 u118 u119 u120 u121 u122 u123 u124 u125 u126 u127 u128 u129 u130 u131 u132 u133 u134 u135 u136 u137 u138 u139 u140 u141 u142 u143 u144 u145 u146 u147 u148 u149 u150 u151 u152 u153 u154 u155 u156 u157 u158 u159 u160 u161 u162 u163 u164 u165 u166 u167 u168 u169 : Value} {va vb vq vr vd vm : Int}
    (la : Lt 3840 va) (lb : Lt 3840 vb) (hz : Hid (vb ≠ 0)) (hq : Hid (TruncDiv va vb vq vr)) (lqb : Lt 3841 (vq * vb)) (lq : Lt 3841 vq) (lr : Lt 3840 vr) (hd : Hid (Floors va vb vd vm)) (ldb : Lt 3841 (vd * vb)) (ld : Lt 3841 vd) (lm : Lt 3840 vm) (hsr : vr.sign = 0) (hsm : vm.sign = 0)
    (hb : Below w.heap.size w wr) (h0 : w.heap.size ≤ g2)
    (o3 : g2 < g3) (o6 : g3 < g6) (o7 : g6 < g7) (o9 : g7 < g9) (o10 : g9 < g10) (o12 : g10 < g12) (o14 : g12 < g14) (o18 : g14 < g18)
    (b2 : Bx wr g2 (va)) (b3 : Bx wr g3 (vb)) (b6 : Bx wr g6 (vq)) (b7 : Bx wr g7 (vr)) (b9 : Bx wr g9 (vd)) (b10 : Bx wr g10 (vm)) (b12 : Bx wr g12 (vd * vb)) (b14 : Bx wr g14 (vq * vb + vr)) (b18 : Bx wr g18 (vd * vb + vm)) :
    Code.wp Tryd.prog (tail11 14) (Q11 w) ⟨#[u0, u1, .pointer (some ⟨g2, 0, none⟩), .pointer (some ⟨g3, 0, none⟩), u4, .bool true, .pointer (some ⟨g6, 0, none⟩), .pointer (some ⟨g7, 0, none⟩), .int .i64 0, .pointer (some ⟨g9, 0, none⟩), .pointer (some ⟨g10, 0, none⟩), .int .i64 0, .pointer (some ⟨g12, 0, none⟩), .int .i64 0, .pointer (some ⟨g14, 0, none⟩), .int .i64 0, .bool true, .int .i64 0, .pointer (some ⟨g18, 0, none⟩), .int .i64 0, .bool true, .bool true, u22, u23, u24, u25, u26, u27, u28, u29, u30, u31, u32, u33, u34, u35, u36, u37, u38, u39, u40, u41, u42, u43, u44, u45, u46, u47, u48, u49, u50, u51, u52, u53, u54, u55, u56, u57, u58, u59, u60, u61, u62, u63, u64, u65, u66, u67, u68, u69, u70, u71, u72, u73, u74, u75, u76, u77, u78, u79, u80, u81, u82, u83, u84, u85, u86, u87, u88, u89, u90, u91, u92, u93, u94, u95, u96, u97, u98, u99, u100, u101, u102, u103, u104, u105, u106, u107, u108, u109, u110, u111, u112, u113, u114, u115, u116, u117, u118, u119, u120, u121, u122, u123, u124, u125, u126, u127, u128, u129, u130, u131, u132, u133, u134, u135, u136, u137, u138, u139, u140, u141, u142, u143, u144, u145, u146, u147, u148, u149, u150, u151, u152, u153, u154, u155, u156, u157, u158, u159, u160, u161, u162, u163, u164, u165, u166, u167, u168, u169], []⟩ wr := by
  have b7' := b7.drew
  obtain ⟨nR, aR, lR, cR, R, hHR, hRR, hER⟩ := b7'
  have HER := hid hER
  have HHR := hid hHR
  clear hER hHR
  have b2' := b2.drew
  obtain ⟨nA, aA, lA, cA, A, hHA, hRA, hEA⟩ := b2'
  have HEA := hid hEA
  have HHA := hid hHA
  clear hEA hHA
  have b10' := b10.drew
  obtain ⟨nM, aM, lM, cM, M, hHM, hRM, hEM⟩ := b10'
  have HEM := hid hEM
  have HHM := hid hHM
  clear hEM hHM
  have b3' := b3.drew
  obtain ⟨nB, aB, lB, cB, B, hHB, hRB, hEB⟩ := b3'
  have HEB := hid hEB
  have HHB := hid hHB
  clear hEB hHB
  have hacc : Below wr.heap.size wr wr.drew := (Below.refl _ _).drew
  show Code.wp Tryd.prog (Code.seq (head11 14) (tail11 15)) _ _ _
  conv => arg 2; arg 1; whnf
  go_wp2_with fail
  refine wp_region_noPanic ?_
  refine wp_region_held_drew (S := (fun w' => w'.cell? ⟨g7, 0, none⟩ = some (.bool nR) ∧ w'.cell? ⟨g7, 1, none⟩ = some (.slice aR lR cR) ∧ w'.cell? ⟨g2, 0, none⟩ = some (.bool nA) ∧ w'.cell? ⟨g2, 1, none⟩ = some (.slice aA lA cA) ∧ w'.cell? ⟨g10, 0, none⟩ = some (.bool nM) ∧ w'.cell? ⟨g10, 1, none⟩ = some (.slice aM lM cM) ∧ w'.cell? ⟨g3, 0, none⟩ = some (.bool nB) ∧ w'.cell? ⟨g3, 1, none⟩ = some (.slice aB lB cB))) (by kernel_rfl) (by first | (with_reducible exact ⟨(two_cells HHR.out).1, (two_cells HHR.out).2.1, (two_cells HHA.out).1, (two_cells HHA.out).2.1, (two_cells HHM.out).1, (two_cells HHM.out).2.1, (two_cells HHB.out).1, (two_cells HHB.out).2.1⟩) | (dsimp only; with_reducible exact ⟨(two_cells HHR.out).1, (two_cells HHR.out).2.1, (two_cells HHA.out).1, (two_cells HHA.out).2.1, (two_cells HHM.out).1, (two_cells HHM.out).2.1, (two_cells HHB.out).1, (two_cells HHB.out).2.1⟩)) (fun hHeld => ?_)
  refine wpAnyH_take (i := 0) (oi := { dst := some 101, op := Op.load 24 (Operand.tmp 7), type := 24, pos := "keeps.go:64", after := #[], guard := none }) (v := ?_) rfl (by kernel_rfl) (by kernel_rfl) (by kernel_rfl) (fun _ _ _ h => h) (Or.inl ⟨by rfl, ?_⟩) (by assumption) ?_
  rotate_left
  · first
      | (intro w5 hSw; (try dsimp only at hSw); go_simp; done)
      | (intro w5 hSw; (try dsimp only at hSw); go_simp; with_reducible rfl)
  try simp only [Act.put, List.setIfInBounds_toArray, List.set_cons_zero, List.set_cons_succ]
  refine wpAnyH_ready (rs := [1]) (by kernel_rfl) (by simp) ?_
  refine AllReadyH.cons (o := { dst := some 102, op := Op.call { callee := Callee.value (Operand.func 28), args := #[Operand.tmp 101], argTypes := #[24] }, type := 3, pos := "keeps.go:64", after := #[{ on := 0, ground := Ground.data }], guard := none }) rfl (fun K hK => ?_) AllReadyH.nil
  go_simp
  ((with_reducible refine (sign_any nR aR lR cR R _ hRR).mono ?_); rintro e w5 ⟨rfl, hw5⟩; rw [HER.out, hsr]; have hbk := below_new hw5; clear hw5; have hRR := hRR.keep hbk; have HHR := hid (heap_keep HHR.out hbk); have hRA := hRA.keep hbk; have HHA := hid (heap_keep HHA.out hbk); have hRM := hRM.keep hbk; have HHM := hid (heap_keep HHM.out hbk); have hRB := hRB.keep hbk; have HHB := hid (heap_keep HHB.out hbk); have hacc := hacc.trans (hbk.mono hacc.size))
  go_wp2_with fail
  refine hK.out _ _ ?_ (fun hHeld => ?_)
  · first
      | (with_reducible exact ⟨(two_cells HHR.out).1, (two_cells HHR.out).2.1, (two_cells HHA.out).1, (two_cells HHA.out).2.1, (two_cells HHM.out).1, (two_cells HHM.out).2.1, (two_cells HHB.out).1, (two_cells HHB.out).2.1⟩)
      | (dsimp only; with_reducible exact ⟨(two_cells HHR.out).1, (two_cells HHR.out).2.1, (two_cells HHA.out).1, (two_cells HHA.out).2.1, (two_cells HHM.out).1, (two_cells HHM.out).2.1, (two_cells HHB.out).1, (two_cells HHB.out).2.1⟩)
  clear hK K
  refine wpAnyH_take (i := 2) (oi := { dst := some 103, op := Op.binOp BinOp.eql 3 (Operand.tmp 102) (Operand.const (Value.int IntKind.i64 0)) 3, type := 4, pos := "keeps.go:64", after := #[{ on := 1, ground := Ground.data }], guard := none }) (v := ?_) rfl (by kernel_rfl) (by kernel_rfl) (by kernel_rfl) (fun _ _ _ h => h) (Or.inl ⟨by rfl, ?_⟩) (by assumption) ?_
  rotate_left
  · first
      | (intro w5 hSw; (try dsimp only at hSw); go_simp; done)
      | (intro w5 hSw; (try dsimp only at hSw); go_simp; with_reducible rfl)
  try simp only [Act.put, List.setIfInBounds_toArray, List.set_cons_zero, List.set_cons_succ]
  refine wpAnyH_take (i := 3) (oi := { dst := some 104, op := Op.move (Operand.tmp 103), type := 4, pos := "keeps.go:64", after := #[{ on := 2, ground := Ground.data }, { on := 1, ground := Ground.chain }], guard := none }) (v := ?_) rfl (by kernel_rfl) (by kernel_rfl) (by kernel_rfl) (fun _ _ _ h => h) (Or.inl ⟨by rfl, ?_⟩) (by assumption) ?_
  rotate_left
  · first
      | (intro w5 hSw; (try dsimp only at hSw); go_simp; done)
      | (intro w5 hSw; (try dsimp only at hSw); go_simp; with_reducible rfl)
  try simp only [Act.put, List.setIfInBounds_toArray, List.set_cons_zero, List.set_cons_succ]
  refine wpAnyH_take (i := 4) (oi := { dst := some 105, op := Op.load 24 (Operand.tmp 7), type := 24, pos := "keeps.go:64", after := #[{ on := 3, ground := Ground.guard }], guard := some (3, false) }) (v := undef) rfl (by kernel_rfl) (by kernel_rfl) (by kernel_rfl) (fun _ _ _ h => h) (Or.inr ⟨by rfl, rfl⟩) (by assumption) ?_
  try simp only [Act.put, List.setIfInBounds_toArray, List.set_cons_zero, List.set_cons_succ]
  refine wpAnyH_take (i := 5) (oi := { dst := some 106, op := Op.call { callee := Callee.value (Operand.func 28), args := #[Operand.tmp 105], argTypes := #[24] }, type := 3, pos := "keeps.go:64", after := #[{ on := 4, ground := Ground.data }, { on := 3, ground := Ground.chain }, { on := 3, ground := Ground.guard }], guard := some (3, false) }) (v := undef) rfl (by kernel_rfl) (by kernel_rfl) (by kernel_rfl) (fun _ _ _ h => h) (Or.inr ⟨by rfl, rfl⟩) (by assumption) ?_
  try simp only [Act.put, List.setIfInBounds_toArray, List.set_cons_zero, List.set_cons_succ]
  refine wpAnyH_take (i := 6) (oi := { dst := some 107, op := Op.load 24 (Operand.tmp 2), type := 24, pos := "keeps.go:64", after := #[{ on := 3, ground := Ground.guard }], guard := some (3, false) }) (v := undef) rfl (by kernel_rfl) (by kernel_rfl) (by kernel_rfl) (fun _ _ _ h => h) (Or.inr ⟨by rfl, rfl⟩) (by assumption) ?_
  try simp only [Act.put, List.setIfInBounds_toArray, List.set_cons_zero, List.set_cons_succ]
  refine wpAnyH_take (i := 7) (oi := { dst := some 108, op := Op.call { callee := Callee.value (Operand.func 28), args := #[Operand.tmp 107], argTypes := #[24] }, type := 3, pos := "keeps.go:64", after := #[{ on := 6, ground := Ground.data }, { on := 5, ground := Ground.chain }, { on := 3, ground := Ground.guard }], guard := some (3, false) }) (v := undef) rfl (by kernel_rfl) (by kernel_rfl) (by kernel_rfl) (fun _ _ _ h => h) (Or.inr ⟨by rfl, rfl⟩) (by assumption) ?_
  try simp only [Act.put, List.setIfInBounds_toArray, List.set_cons_zero, List.set_cons_succ]
  refine wpAnyH_take (i := 8) (oi := { dst := some 109, op := Op.binOp BinOp.eql 3 (Operand.tmp 106) (Operand.tmp 108) 3, type := 4, pos := "keeps.go:64", after := #[{ on := 5, ground := Ground.data }, { on := 7, ground := Ground.data }, { on := 3, ground := Ground.guard }], guard := some (3, false) }) (v := undef) rfl (by kernel_rfl) (by kernel_rfl) (by kernel_rfl) (fun _ _ _ h => h) (Or.inr ⟨by rfl, rfl⟩) (by assumption) ?_
  try simp only [Act.put, List.setIfInBounds_toArray, List.set_cons_zero, List.set_cons_succ]
  refine wpAnyH_take (i := 9) (oi := { dst := some 110, op := Op.pick (Operand.tmp 104) (Operand.const (Value.bool true)) (Operand.tmp 109), type := 4, pos := "keeps.go:64", after := #[{ on := 3, ground := Ground.data }, { on := 8, ground := Ground.data }], guard := none }) (v := ?_) rfl (by kernel_rfl) (by kernel_rfl) (by kernel_rfl) (fun _ _ _ h => h) (Or.inl ⟨by rfl, ?_⟩) (by assumption) ?_
  rotate_left
  · first
      | (intro w5 hSw; (try dsimp only at hSw); go_simp; done)
      | (intro w5 hSw; (try dsimp only at hSw); go_simp; with_reducible rfl)
  try simp only [Act.put, List.setIfInBounds_toArray, List.set_cons_zero, List.set_cons_succ]
  refine wpAnyH_take (i := 10) (oi := { dst := some 111, op := Op.move (Operand.tmp 110), type := 4, pos := "keeps.go:64", after := #[{ on := 9, ground := Ground.data }, { on := 7, ground := Ground.chain }], guard := none }) (v := ?_) rfl (by kernel_rfl) (by kernel_rfl) (by kernel_rfl) (fun _ _ _ h => h) (Or.inl ⟨by rfl, ?_⟩) (by assumption) ?_
  rotate_left
  · first
      | (intro w5 hSw; (try dsimp only at hSw); go_simp; done)
      | (intro w5 hSw; (try dsimp only at hSw); go_simp; with_reducible rfl)
  try simp only [Act.put, List.setIfInBounds_toArray, List.set_cons_zero, List.set_cons_succ]
  refine wpAnyH_take (i := 11) (oi := { dst := some 112, op := Op.load 24 (Operand.tmp 10), type := 24, pos := "keeps.go:64", after := #[{ on := 10, ground := Ground.guard }], guard := some (10, true) }) (v := ?_) rfl (by kernel_rfl) (by kernel_rfl) (by kernel_rfl) (fun _ _ _ h => h) (Or.inl ⟨by rfl, ?_⟩) (by assumption) ?_
  rotate_left
  · first
      | (intro w5 hSw; (try dsimp only at hSw); go_simp; done)
      | (intro w5 hSw; (try dsimp only at hSw); go_simp; with_reducible rfl)
  try simp only [Act.put, List.setIfInBounds_toArray, List.set_cons_zero, List.set_cons_succ]
  refine wpAnyH_ready (rs := [12]) (by kernel_rfl) (by simp) ?_
  refine AllReadyH.cons (o := { dst := some 113, op := Op.call { callee := Callee.value (Operand.func 28), args := #[Operand.tmp 112], argTypes := #[24] }, type := 3, pos := "keeps.go:64", after := #[{ on := 11, ground := Ground.data }, { on := 10, ground := Ground.chain }, { on := 10, ground := Ground.guard }], guard := some (10, true) }) rfl (fun K hK => ?_) AllReadyH.nil
  go_simp
  ((with_reducible refine (sign_any nM aM lM cM M _ hRM).mono ?_); rintro e w5 ⟨rfl, hw5⟩; rw [HEM.out, hsm]; have hbk := below_new hw5; clear hw5; have hRR := hRR.keep hbk; have HHR := hid (heap_keep HHR.out hbk); have hRA := hRA.keep hbk; have HHA := hid (heap_keep HHA.out hbk); have hRM := hRM.keep hbk; have HHM := hid (heap_keep HHM.out hbk); have hRB := hRB.keep hbk; have HHB := hid (heap_keep HHB.out hbk); have hacc := hacc.trans (hbk.mono hacc.size))
  go_wp2_with fail
  refine hK.out _ _ ?_ (fun hHeld => ?_)
  · first
      | (with_reducible exact ⟨(two_cells HHR.out).1, (two_cells HHR.out).2.1, (two_cells HHA.out).1, (two_cells HHA.out).2.1, (two_cells HHM.out).1, (two_cells HHM.out).2.1, (two_cells HHB.out).1, (two_cells HHB.out).2.1⟩)
      | (dsimp only; with_reducible exact ⟨(two_cells HHR.out).1, (two_cells HHR.out).2.1, (two_cells HHA.out).1, (two_cells HHA.out).2.1, (two_cells HHM.out).1, (two_cells HHM.out).2.1, (two_cells HHB.out).1, (two_cells HHB.out).2.1⟩)
  clear hK K
  refine wpAnyH_take (i := 13) (oi := { dst := some 114, op := Op.binOp BinOp.eql 3 (Operand.tmp 113) (Operand.const (Value.int IntKind.i64 0)) 3, type := 4, pos := "keeps.go:64", after := #[{ on := 12, ground := Ground.data }, { on := 10, ground := Ground.guard }], guard := some (10, true) }) (v := ?_) rfl (by kernel_rfl) (by kernel_rfl) (by kernel_rfl) (fun _ _ _ h => h) (Or.inl ⟨by rfl, ?_⟩) (by assumption) ?_
  rotate_left
  · first
      | (intro w5 hSw; (try dsimp only at hSw); go_simp; done)
      | (intro w5 hSw; (try dsimp only at hSw); go_simp; with_reducible rfl)
  try simp only [Act.put, List.setIfInBounds_toArray, List.set_cons_zero, List.set_cons_succ]
  refine wpAnyH_take (i := 14) (oi := { dst := some 115, op := Op.move (Operand.tmp 114), type := 4, pos := "keeps.go:64", after := #[{ on := 13, ground := Ground.data }, { on := 12, ground := Ground.chain }, { on := 10, ground := Ground.guard }], guard := some (10, true) }) (v := ?_) rfl (by kernel_rfl) (by kernel_rfl) (by kernel_rfl) (fun _ _ _ h => h) (Or.inl ⟨by rfl, ?_⟩) (by assumption) ?_
  rotate_left
  · first
      | (intro w5 hSw; (try dsimp only at hSw); go_simp; done)
      | (intro w5 hSw; (try dsimp only at hSw); go_simp; with_reducible rfl)
  try simp only [Act.put, List.setIfInBounds_toArray, List.set_cons_zero, List.set_cons_succ]
  refine wpAnyH_take (i := 15) (oi := { dst := some 116, op := Op.load 24 (Operand.tmp 10), type := 24, pos := "keeps.go:64", after := #[{ on := 14, ground := Ground.guard }], guard := some (14, false) }) (v := undef) rfl (by kernel_rfl) (by kernel_rfl) (by kernel_rfl) (fun _ _ _ h => h) (Or.inr ⟨by rfl, rfl⟩) (by assumption) ?_
  try simp only [Act.put, List.setIfInBounds_toArray, List.set_cons_zero, List.set_cons_succ]
  refine wpAnyH_take (i := 16) (oi := { dst := some 117, op := Op.call { callee := Callee.value (Operand.func 28), args := #[Operand.tmp 116], argTypes := #[24] }, type := 3, pos := "keeps.go:64", after := #[{ on := 15, ground := Ground.data }, { on := 14, ground := Ground.chain }, { on := 14, ground := Ground.guard }], guard := some (14, false) }) (v := undef) rfl (by kernel_rfl) (by kernel_rfl) (by kernel_rfl) (fun _ _ _ h => h) (Or.inr ⟨by rfl, rfl⟩) (by assumption) ?_
  try simp only [Act.put, List.setIfInBounds_toArray, List.set_cons_zero, List.set_cons_succ]
  refine wpAnyH_take (i := 17) (oi := { dst := some 118, op := Op.load 24 (Operand.tmp 3), type := 24, pos := "keeps.go:64", after := #[{ on := 14, ground := Ground.guard }], guard := some (14, false) }) (v := undef) rfl (by kernel_rfl) (by kernel_rfl) (by kernel_rfl) (fun _ _ _ h => h) (Or.inr ⟨by rfl, rfl⟩) (by assumption) ?_
  try simp only [Act.put, List.setIfInBounds_toArray, List.set_cons_zero, List.set_cons_succ]
  refine wpAnyH_take (i := 18) (oi := { dst := some 119, op := Op.call { callee := Callee.value (Operand.func 28), args := #[Operand.tmp 118], argTypes := #[24] }, type := 3, pos := "keeps.go:64", after := #[{ on := 17, ground := Ground.data }, { on := 16, ground := Ground.chain }, { on := 14, ground := Ground.guard }], guard := some (14, false) }) (v := undef) rfl (by kernel_rfl) (by kernel_rfl) (by kernel_rfl) (fun _ _ _ h => h) (Or.inr ⟨by rfl, rfl⟩) (by assumption) ?_
  try simp only [Act.put, List.setIfInBounds_toArray, List.set_cons_zero, List.set_cons_succ]
  refine wpAnyH_take (i := 19) (oi := { dst := some 120, op := Op.binOp BinOp.eql 3 (Operand.tmp 117) (Operand.tmp 119) 3, type := 4, pos := "keeps.go:64", after := #[{ on := 16, ground := Ground.data }, { on := 18, ground := Ground.data }, { on := 14, ground := Ground.guard }], guard := some (14, false) }) (v := undef) rfl (by kernel_rfl) (by kernel_rfl) (by kernel_rfl) (fun _ _ _ h => h) (Or.inr ⟨by rfl, rfl⟩) (by assumption) ?_
  try simp only [Act.put, List.setIfInBounds_toArray, List.set_cons_zero, List.set_cons_succ]
  refine wpAnyH_take (i := 20) (oi := { dst := some 121, op := Op.pick (Operand.tmp 115) (Operand.const (Value.bool true)) (Operand.tmp 120), type := 4, pos := "keeps.go:64", after := #[{ on := 14, ground := Ground.data }, { on := 19, ground := Ground.data }, { on := 10, ground := Ground.guard }], guard := some (10, true) }) (v := ?_) rfl (by kernel_rfl) (by kernel_rfl) (by kernel_rfl) (fun _ _ _ h => h) (Or.inl ⟨by rfl, ?_⟩) (by assumption) ?_
  rotate_left
  · first
      | (intro w5 hSw; (try dsimp only at hSw); go_simp; done)
      | (intro w5 hSw; (try dsimp only at hSw); go_simp; with_reducible rfl)
  try simp only [Act.put, List.setIfInBounds_toArray, List.set_cons_zero, List.set_cons_succ]
  refine wpAnyH_take (i := 21) (oi := { dst := some 122, op := Op.pick (Operand.tmp 111) (Operand.tmp 121) (Operand.const (Value.bool false)), type := 4, pos := "keeps.go:64", after := #[{ on := 10, ground := Ground.data }, { on := 20, ground := Ground.data }], guard := none }) (v := ?_) rfl (by kernel_rfl) (by kernel_rfl) (by kernel_rfl) (fun _ _ _ h => h) (Or.inl ⟨by rfl, ?_⟩) (by assumption) ?_
  rotate_left
  · first
      | (intro w5 hSw; (try dsimp only at hSw); go_simp; done)
      | (intro w5 hSw; (try dsimp only at hSw); go_simp; with_reducible rfl)
  try simp only [Act.put, List.setIfInBounds_toArray, List.set_cons_zero, List.set_cons_succ]
  refine wpAnyH_take (i := 22) (oi := { dst := some 22, op := Op.assign (Operand.tmp 122), type := 4, pos := "keeps.go:64", after := #[{ on := 21, ground := Ground.data }, { on := 18, ground := Ground.chain }, { on := 0, ground := Ground.phase }, { on := 1, ground := Ground.phase }, { on := 2, ground := Ground.phase }, { on := 3, ground := Ground.phase }, { on := 4, ground := Ground.phase }, { on := 5, ground := Ground.phase }, { on := 6, ground := Ground.phase }, { on := 7, ground := Ground.phase }, { on := 8, ground := Ground.phase }, { on := 9, ground := Ground.phase }, { on := 10, ground := Ground.phase }, { on := 11, ground := Ground.phase }, { on := 12, ground := Ground.phase }, { on := 13, ground := Ground.phase }, { on := 14, ground := Ground.phase }, { on := 15, ground := Ground.phase }, { on := 16, ground := Ground.phase }, { on := 17, ground := Ground.phase }, { on := 18, ground := Ground.phase }, { on := 19, ground := Ground.phase }, { on := 20, ground := Ground.phase }, { on := 21, ground := Ground.phase }], guard := none }) (v := ?_) rfl (by kernel_rfl) (by kernel_rfl) (by kernel_rfl) (fun _ _ _ h => h) (Or.inl ⟨by rfl, ?_⟩) (by assumption) ?_
  rotate_left
  · first
      | (intro w5 hSw; (try dsimp only at hSw); go_simp; done)
      | (intro w5 hSw; (try dsimp only at hSw); go_simp; with_reducible rfl)
  try simp only [Act.put, List.setIfInBounds_toArray, List.set_cons_zero, List.set_cons_succ]
  refine wpAnyH_done (by kernel_rfl) ?_ _
  refine NoPanic.normal ?_
  go_wp2
  have hfin := hb.trans (hacc.mono hb.size)
  exact PN_15 la lb hz hq lqb lq lr hd ldb ld lm (hfin) h0 o3 o6 o7 o9 o10 o12 o14 o18 (b2.keep hacc) (b3.keep hacc) (b6.keep hacc) (b7.keep hacc) (b9.keep hacc) (b10.keep hacc) (b12.keep hacc) (b14.keep hacc) (b18.keep hacc)

set_option maxRecDepth 100000 in
set_option maxHeartbeats 20000000 in
theorem PN_14_c01 {w wr : World} {g2 g3 g6 g7 g9 g10 g12 g14 g18 : Nat} {u0 u1 u4 u22 u23 u24 u25 u26 u27 u28 u29 u30 u31 u32 u33 u34 u35 u36 u37 u38 u39 u40 u41 u42 u43 u44 u45 u46 u47 u48 u49 u50 u51 u52 u53 u54 u55 u56 u57 u58 u59 u60 u61 u62 u63 u64 u65 u66 u67 u68 u69 u70 u71 u72 u73 u74 u75 u76 u77 u78 u79 u80 u81 u82 u83 u84 u85 u86 u87 u88 u89 u90 u91 u92 u93 u94 u95 u96 u97 u98 u99 u100 u101 u102 u103 u104 u105 u106 u107 u108 u109 u110 u111 u112 u113 u114 u115 u116 u117 u118 u119 u120 u121 u122 u123 u124 u125 u126 u127 u128 u129 u130 u131 u132 u133 u134 u135 u136 u137 u138 u139 u140 u141 u142 u143 u144 u145 u146 u147 u148 u149 u150 u151 u152 u153 u154 u155 u156 u157 u158 u159 u160 u161 u162 u163 u164 u165 u166 u167 u168 u169 : Value} {va vb vq vr vd vm : Int}
    (la : Lt 3840 va) (lb : Lt 3840 vb) (hz : Hid (vb ≠ 0)) (hq : Hid (TruncDiv va vb vq vr)) (lqb : Lt 3841 (vq * vb)) (lq : Lt 3841 vq) (lr : Lt 3840 vr) (hd : Hid (Floors va vb vd vm)) (ldb : Lt 3841 (vd * vb)) (ld : Lt 3841 vd) (lm : Lt 3840 vm) (hsr : vr.sign = 0) (hsm : vm.sign = 1) (hsb : vb.sign = 1)
    (hb : Below w.heap.size w wr) (h0 : w.heap.size ≤ g2)
    (o3 : g2 < g3) (o6 : g3 < g6) (o7 : g6 < g7) (o9 : g7 < g9) (o10 : g9 < g10) (o12 : g10 < g12) (o14 : g12 < g14) (o18 : g14 < g18)
    (b2 : Bx wr g2 (va)) (b3 : Bx wr g3 (vb)) (b6 : Bx wr g6 (vq)) (b7 : Bx wr g7 (vr)) (b9 : Bx wr g9 (vd)) (b10 : Bx wr g10 (vm)) (b12 : Bx wr g12 (vd * vb)) (b14 : Bx wr g14 (vq * vb + vr)) (b18 : Bx wr g18 (vd * vb + vm)) :
    Code.wp Tryd.prog (tail11 14) (Q11 w) ⟨#[u0, u1, .pointer (some ⟨g2, 0, none⟩), .pointer (some ⟨g3, 0, none⟩), u4, .bool true, .pointer (some ⟨g6, 0, none⟩), .pointer (some ⟨g7, 0, none⟩), .int .i64 0, .pointer (some ⟨g9, 0, none⟩), .pointer (some ⟨g10, 0, none⟩), .int .i64 0, .pointer (some ⟨g12, 0, none⟩), .int .i64 0, .pointer (some ⟨g14, 0, none⟩), .int .i64 0, .bool true, .int .i64 0, .pointer (some ⟨g18, 0, none⟩), .int .i64 0, .bool true, .bool true, u22, u23, u24, u25, u26, u27, u28, u29, u30, u31, u32, u33, u34, u35, u36, u37, u38, u39, u40, u41, u42, u43, u44, u45, u46, u47, u48, u49, u50, u51, u52, u53, u54, u55, u56, u57, u58, u59, u60, u61, u62, u63, u64, u65, u66, u67, u68, u69, u70, u71, u72, u73, u74, u75, u76, u77, u78, u79, u80, u81, u82, u83, u84, u85, u86, u87, u88, u89, u90, u91, u92, u93, u94, u95, u96, u97, u98, u99, u100, u101, u102, u103, u104, u105, u106, u107, u108, u109, u110, u111, u112, u113, u114, u115, u116, u117, u118, u119, u120, u121, u122, u123, u124, u125, u126, u127, u128, u129, u130, u131, u132, u133, u134, u135, u136, u137, u138, u139, u140, u141, u142, u143, u144, u145, u146, u147, u148, u149, u150, u151, u152, u153, u154, u155, u156, u157, u158, u159, u160, u161, u162, u163, u164, u165, u166, u167, u168, u169], []⟩ wr := by
  have b7' := b7.drew
  obtain ⟨nR, aR, lR, cR, R, hHR, hRR, hER⟩ := b7'
  have HER := hid hER
  have HHR := hid hHR
  clear hER hHR
  have b2' := b2.drew
  obtain ⟨nA, aA, lA, cA, A, hHA, hRA, hEA⟩ := b2'
  have HEA := hid hEA
  have HHA := hid hHA
  clear hEA hHA
  have b10' := b10.drew
  obtain ⟨nM, aM, lM, cM, M, hHM, hRM, hEM⟩ := b10'
  have HEM := hid hEM
  have HHM := hid hHM
  clear hEM hHM
  have b3' := b3.drew
  obtain ⟨nB, aB, lB, cB, B, hHB, hRB, hEB⟩ := b3'
  have HEB := hid hEB
  have HHB := hid hHB
  clear hEB hHB
  have hacc : Below wr.heap.size wr wr.drew := (Below.refl _ _).drew
  show Code.wp Tryd.prog (Code.seq (head11 14) (tail11 15)) _ _ _
  conv => arg 2; arg 1; whnf
  go_wp2_with fail
  refine wp_region_noPanic ?_
  refine wp_region_held_drew (S := (fun w' => w'.cell? ⟨g7, 0, none⟩ = some (.bool nR) ∧ w'.cell? ⟨g7, 1, none⟩ = some (.slice aR lR cR) ∧ w'.cell? ⟨g2, 0, none⟩ = some (.bool nA) ∧ w'.cell? ⟨g2, 1, none⟩ = some (.slice aA lA cA) ∧ w'.cell? ⟨g10, 0, none⟩ = some (.bool nM) ∧ w'.cell? ⟨g10, 1, none⟩ = some (.slice aM lM cM) ∧ w'.cell? ⟨g3, 0, none⟩ = some (.bool nB) ∧ w'.cell? ⟨g3, 1, none⟩ = some (.slice aB lB cB))) (by kernel_rfl) (by first | (with_reducible exact ⟨(two_cells HHR.out).1, (two_cells HHR.out).2.1, (two_cells HHA.out).1, (two_cells HHA.out).2.1, (two_cells HHM.out).1, (two_cells HHM.out).2.1, (two_cells HHB.out).1, (two_cells HHB.out).2.1⟩) | (dsimp only; with_reducible exact ⟨(two_cells HHR.out).1, (two_cells HHR.out).2.1, (two_cells HHA.out).1, (two_cells HHA.out).2.1, (two_cells HHM.out).1, (two_cells HHM.out).2.1, (two_cells HHB.out).1, (two_cells HHB.out).2.1⟩)) (fun hHeld => ?_)
  refine wpAnyH_take (i := 0) (oi := { dst := some 101, op := Op.load 24 (Operand.tmp 7), type := 24, pos := "keeps.go:64", after := #[], guard := none }) (v := ?_) rfl (by kernel_rfl) (by kernel_rfl) (by kernel_rfl) (fun _ _ _ h => h) (Or.inl ⟨by rfl, ?_⟩) (by assumption) ?_
  rotate_left
  · first
      | (intro w5 hSw; (try dsimp only at hSw); go_simp; done)
      | (intro w5 hSw; (try dsimp only at hSw); go_simp; with_reducible rfl)
  try simp only [Act.put, List.setIfInBounds_toArray, List.set_cons_zero, List.set_cons_succ]
  refine wpAnyH_ready (rs := [1]) (by kernel_rfl) (by simp) ?_
  refine AllReadyH.cons (o := { dst := some 102, op := Op.call { callee := Callee.value (Operand.func 28), args := #[Operand.tmp 101], argTypes := #[24] }, type := 3, pos := "keeps.go:64", after := #[{ on := 0, ground := Ground.data }], guard := none }) rfl (fun K hK => ?_) AllReadyH.nil
  go_simp
  ((with_reducible refine (sign_any nR aR lR cR R _ hRR).mono ?_); rintro e w5 ⟨rfl, hw5⟩; rw [HER.out, hsr]; have hbk := below_new hw5; clear hw5; have hRR := hRR.keep hbk; have HHR := hid (heap_keep HHR.out hbk); have hRA := hRA.keep hbk; have HHA := hid (heap_keep HHA.out hbk); have hRM := hRM.keep hbk; have HHM := hid (heap_keep HHM.out hbk); have hRB := hRB.keep hbk; have HHB := hid (heap_keep HHB.out hbk); have hacc := hacc.trans (hbk.mono hacc.size))
  go_wp2_with fail
  refine hK.out _ _ ?_ (fun hHeld => ?_)
  · first
      | (with_reducible exact ⟨(two_cells HHR.out).1, (two_cells HHR.out).2.1, (two_cells HHA.out).1, (two_cells HHA.out).2.1, (two_cells HHM.out).1, (two_cells HHM.out).2.1, (two_cells HHB.out).1, (two_cells HHB.out).2.1⟩)
      | (dsimp only; with_reducible exact ⟨(two_cells HHR.out).1, (two_cells HHR.out).2.1, (two_cells HHA.out).1, (two_cells HHA.out).2.1, (two_cells HHM.out).1, (two_cells HHM.out).2.1, (two_cells HHB.out).1, (two_cells HHB.out).2.1⟩)
  clear hK K
  refine wpAnyH_take (i := 2) (oi := { dst := some 103, op := Op.binOp BinOp.eql 3 (Operand.tmp 102) (Operand.const (Value.int IntKind.i64 0)) 3, type := 4, pos := "keeps.go:64", after := #[{ on := 1, ground := Ground.data }], guard := none }) (v := ?_) rfl (by kernel_rfl) (by kernel_rfl) (by kernel_rfl) (fun _ _ _ h => h) (Or.inl ⟨by rfl, ?_⟩) (by assumption) ?_
  rotate_left
  · first
      | (intro w5 hSw; (try dsimp only at hSw); go_simp; done)
      | (intro w5 hSw; (try dsimp only at hSw); go_simp; with_reducible rfl)
  try simp only [Act.put, List.setIfInBounds_toArray, List.set_cons_zero, List.set_cons_succ]
  refine wpAnyH_take (i := 3) (oi := { dst := some 104, op := Op.move (Operand.tmp 103), type := 4, pos := "keeps.go:64", after := #[{ on := 2, ground := Ground.data }, { on := 1, ground := Ground.chain }], guard := none }) (v := ?_) rfl (by kernel_rfl) (by kernel_rfl) (by kernel_rfl) (fun _ _ _ h => h) (Or.inl ⟨by rfl, ?_⟩) (by assumption) ?_
  rotate_left
  · first
      | (intro w5 hSw; (try dsimp only at hSw); go_simp; done)
      | (intro w5 hSw; (try dsimp only at hSw); go_simp; with_reducible rfl)
  try simp only [Act.put, List.setIfInBounds_toArray, List.set_cons_zero, List.set_cons_succ]
  refine wpAnyH_take (i := 4) (oi := { dst := some 105, op := Op.load 24 (Operand.tmp 7), type := 24, pos := "keeps.go:64", after := #[{ on := 3, ground := Ground.guard }], guard := some (3, false) }) (v := undef) rfl (by kernel_rfl) (by kernel_rfl) (by kernel_rfl) (fun _ _ _ h => h) (Or.inr ⟨by rfl, rfl⟩) (by assumption) ?_
  try simp only [Act.put, List.setIfInBounds_toArray, List.set_cons_zero, List.set_cons_succ]
  refine wpAnyH_take (i := 5) (oi := { dst := some 106, op := Op.call { callee := Callee.value (Operand.func 28), args := #[Operand.tmp 105], argTypes := #[24] }, type := 3, pos := "keeps.go:64", after := #[{ on := 4, ground := Ground.data }, { on := 3, ground := Ground.chain }, { on := 3, ground := Ground.guard }], guard := some (3, false) }) (v := undef) rfl (by kernel_rfl) (by kernel_rfl) (by kernel_rfl) (fun _ _ _ h => h) (Or.inr ⟨by rfl, rfl⟩) (by assumption) ?_
  try simp only [Act.put, List.setIfInBounds_toArray, List.set_cons_zero, List.set_cons_succ]
  refine wpAnyH_take (i := 6) (oi := { dst := some 107, op := Op.load 24 (Operand.tmp 2), type := 24, pos := "keeps.go:64", after := #[{ on := 3, ground := Ground.guard }], guard := some (3, false) }) (v := undef) rfl (by kernel_rfl) (by kernel_rfl) (by kernel_rfl) (fun _ _ _ h => h) (Or.inr ⟨by rfl, rfl⟩) (by assumption) ?_
  try simp only [Act.put, List.setIfInBounds_toArray, List.set_cons_zero, List.set_cons_succ]
  refine wpAnyH_take (i := 7) (oi := { dst := some 108, op := Op.call { callee := Callee.value (Operand.func 28), args := #[Operand.tmp 107], argTypes := #[24] }, type := 3, pos := "keeps.go:64", after := #[{ on := 6, ground := Ground.data }, { on := 5, ground := Ground.chain }, { on := 3, ground := Ground.guard }], guard := some (3, false) }) (v := undef) rfl (by kernel_rfl) (by kernel_rfl) (by kernel_rfl) (fun _ _ _ h => h) (Or.inr ⟨by rfl, rfl⟩) (by assumption) ?_
  try simp only [Act.put, List.setIfInBounds_toArray, List.set_cons_zero, List.set_cons_succ]
  refine wpAnyH_take (i := 8) (oi := { dst := some 109, op := Op.binOp BinOp.eql 3 (Operand.tmp 106) (Operand.tmp 108) 3, type := 4, pos := "keeps.go:64", after := #[{ on := 5, ground := Ground.data }, { on := 7, ground := Ground.data }, { on := 3, ground := Ground.guard }], guard := some (3, false) }) (v := undef) rfl (by kernel_rfl) (by kernel_rfl) (by kernel_rfl) (fun _ _ _ h => h) (Or.inr ⟨by rfl, rfl⟩) (by assumption) ?_
  try simp only [Act.put, List.setIfInBounds_toArray, List.set_cons_zero, List.set_cons_succ]
  refine wpAnyH_take (i := 9) (oi := { dst := some 110, op := Op.pick (Operand.tmp 104) (Operand.const (Value.bool true)) (Operand.tmp 109), type := 4, pos := "keeps.go:64", after := #[{ on := 3, ground := Ground.data }, { on := 8, ground := Ground.data }], guard := none }) (v := ?_) rfl (by kernel_rfl) (by kernel_rfl) (by kernel_rfl) (fun _ _ _ h => h) (Or.inl ⟨by rfl, ?_⟩) (by assumption) ?_
  rotate_left
  · first
      | (intro w5 hSw; (try dsimp only at hSw); go_simp; done)
      | (intro w5 hSw; (try dsimp only at hSw); go_simp; with_reducible rfl)
  try simp only [Act.put, List.setIfInBounds_toArray, List.set_cons_zero, List.set_cons_succ]
  refine wpAnyH_take (i := 10) (oi := { dst := some 111, op := Op.move (Operand.tmp 110), type := 4, pos := "keeps.go:64", after := #[{ on := 9, ground := Ground.data }, { on := 7, ground := Ground.chain }], guard := none }) (v := ?_) rfl (by kernel_rfl) (by kernel_rfl) (by kernel_rfl) (fun _ _ _ h => h) (Or.inl ⟨by rfl, ?_⟩) (by assumption) ?_
  rotate_left
  · first
      | (intro w5 hSw; (try dsimp only at hSw); go_simp; done)
      | (intro w5 hSw; (try dsimp only at hSw); go_simp; with_reducible rfl)
  try simp only [Act.put, List.setIfInBounds_toArray, List.set_cons_zero, List.set_cons_succ]
  refine wpAnyH_take (i := 11) (oi := { dst := some 112, op := Op.load 24 (Operand.tmp 10), type := 24, pos := "keeps.go:64", after := #[{ on := 10, ground := Ground.guard }], guard := some (10, true) }) (v := ?_) rfl (by kernel_rfl) (by kernel_rfl) (by kernel_rfl) (fun _ _ _ h => h) (Or.inl ⟨by rfl, ?_⟩) (by assumption) ?_
  rotate_left
  · first
      | (intro w5 hSw; (try dsimp only at hSw); go_simp; done)
      | (intro w5 hSw; (try dsimp only at hSw); go_simp; with_reducible rfl)
  try simp only [Act.put, List.setIfInBounds_toArray, List.set_cons_zero, List.set_cons_succ]
  refine wpAnyH_ready (rs := [12]) (by kernel_rfl) (by simp) ?_
  refine AllReadyH.cons (o := { dst := some 113, op := Op.call { callee := Callee.value (Operand.func 28), args := #[Operand.tmp 112], argTypes := #[24] }, type := 3, pos := "keeps.go:64", after := #[{ on := 11, ground := Ground.data }, { on := 10, ground := Ground.chain }, { on := 10, ground := Ground.guard }], guard := some (10, true) }) rfl (fun K hK => ?_) AllReadyH.nil
  go_simp
  ((with_reducible refine (sign_any nM aM lM cM M _ hRM).mono ?_); rintro e w5 ⟨rfl, hw5⟩; rw [HEM.out, hsm]; have hbk := below_new hw5; clear hw5; have hRR := hRR.keep hbk; have HHR := hid (heap_keep HHR.out hbk); have hRA := hRA.keep hbk; have HHA := hid (heap_keep HHA.out hbk); have hRM := hRM.keep hbk; have HHM := hid (heap_keep HHM.out hbk); have hRB := hRB.keep hbk; have HHB := hid (heap_keep HHB.out hbk); have hacc := hacc.trans (hbk.mono hacc.size))
  go_wp2_with fail
  refine hK.out _ _ ?_ (fun hHeld => ?_)
  · first
      | (with_reducible exact ⟨(two_cells HHR.out).1, (two_cells HHR.out).2.1, (two_cells HHA.out).1, (two_cells HHA.out).2.1, (two_cells HHM.out).1, (two_cells HHM.out).2.1, (two_cells HHB.out).1, (two_cells HHB.out).2.1⟩)
      | (dsimp only; with_reducible exact ⟨(two_cells HHR.out).1, (two_cells HHR.out).2.1, (two_cells HHA.out).1, (two_cells HHA.out).2.1, (two_cells HHM.out).1, (two_cells HHM.out).2.1, (two_cells HHB.out).1, (two_cells HHB.out).2.1⟩)
  clear hK K
  refine wpAnyH_take (i := 13) (oi := { dst := some 114, op := Op.binOp BinOp.eql 3 (Operand.tmp 113) (Operand.const (Value.int IntKind.i64 0)) 3, type := 4, pos := "keeps.go:64", after := #[{ on := 12, ground := Ground.data }, { on := 10, ground := Ground.guard }], guard := some (10, true) }) (v := ?_) rfl (by kernel_rfl) (by kernel_rfl) (by kernel_rfl) (fun _ _ _ h => h) (Or.inl ⟨by rfl, ?_⟩) (by assumption) ?_
  rotate_left
  · first
      | (intro w5 hSw; (try dsimp only at hSw); go_simp; done)
      | (intro w5 hSw; (try dsimp only at hSw); go_simp; with_reducible rfl)
  try simp only [Act.put, List.setIfInBounds_toArray, List.set_cons_zero, List.set_cons_succ]
  refine wpAnyH_take (i := 14) (oi := { dst := some 115, op := Op.move (Operand.tmp 114), type := 4, pos := "keeps.go:64", after := #[{ on := 13, ground := Ground.data }, { on := 12, ground := Ground.chain }, { on := 10, ground := Ground.guard }], guard := some (10, true) }) (v := ?_) rfl (by kernel_rfl) (by kernel_rfl) (by kernel_rfl) (fun _ _ _ h => h) (Or.inl ⟨by rfl, ?_⟩) (by assumption) ?_
  rotate_left
  · first
      | (intro w5 hSw; (try dsimp only at hSw); go_simp; done)
      | (intro w5 hSw; (try dsimp only at hSw); go_simp; with_reducible rfl)
  try simp only [Act.put, List.setIfInBounds_toArray, List.set_cons_zero, List.set_cons_succ]
  refine wpAnyH_take (i := 15) (oi := { dst := some 116, op := Op.load 24 (Operand.tmp 10), type := 24, pos := "keeps.go:64", after := #[{ on := 14, ground := Ground.guard }], guard := some (14, false) }) (v := ?_) rfl (by kernel_rfl) (by kernel_rfl) (by kernel_rfl) (fun _ _ _ h => h) (Or.inl ⟨by rfl, ?_⟩) (by assumption) ?_
  rotate_left
  · first
      | (intro w5 hSw; (try dsimp only at hSw); go_simp; done)
      | (intro w5 hSw; (try dsimp only at hSw); go_simp; with_reducible rfl)
  try simp only [Act.put, List.setIfInBounds_toArray, List.set_cons_zero, List.set_cons_succ]
  refine wpAnyH_take (i := 17) (oi := { dst := some 118, op := Op.load 24 (Operand.tmp 3), type := 24, pos := "keeps.go:64", after := #[{ on := 14, ground := Ground.guard }], guard := some (14, false) }) (v := ?_) rfl (by kernel_rfl) (by kernel_rfl) (by kernel_rfl) (fun _ _ _ h => h) (Or.inl ⟨by rfl, ?_⟩) (by assumption) ?_
  rotate_left
  · first
      | (intro w5 hSw; (try dsimp only at hSw); go_simp; done)
      | (intro w5 hSw; (try dsimp only at hSw); go_simp; with_reducible rfl)
  try simp only [Act.put, List.setIfInBounds_toArray, List.set_cons_zero, List.set_cons_succ]
  refine wpAnyH_ready (rs := [16]) (by kernel_rfl) (by simp) ?_
  refine AllReadyH.cons (o := { dst := some 117, op := Op.call { callee := Callee.value (Operand.func 28), args := #[Operand.tmp 116], argTypes := #[24] }, type := 3, pos := "keeps.go:64", after := #[{ on := 15, ground := Ground.data }, { on := 14, ground := Ground.chain }, { on := 14, ground := Ground.guard }], guard := some (14, false) }) rfl (fun K hK => ?_) AllReadyH.nil
  go_simp
  ((with_reducible refine (sign_any nM aM lM cM M _ hRM).mono ?_); rintro e w5 ⟨rfl, hw5⟩; rw [HEM.out, hsm]; have hbk := below_new hw5; clear hw5; have hRR := hRR.keep hbk; have HHR := hid (heap_keep HHR.out hbk); have hRA := hRA.keep hbk; have HHA := hid (heap_keep HHA.out hbk); have hRM := hRM.keep hbk; have HHM := hid (heap_keep HHM.out hbk); have hRB := hRB.keep hbk; have HHB := hid (heap_keep HHB.out hbk); have hacc := hacc.trans (hbk.mono hacc.size))
  go_wp2_with fail
  refine hK.out _ _ ?_ (fun hHeld => ?_)
  · first
      | (with_reducible exact ⟨(two_cells HHR.out).1, (two_cells HHR.out).2.1, (two_cells HHA.out).1, (two_cells HHA.out).2.1, (two_cells HHM.out).1, (two_cells HHM.out).2.1, (two_cells HHB.out).1, (two_cells HHB.out).2.1⟩)
      | (dsimp only; with_reducible exact ⟨(two_cells HHR.out).1, (two_cells HHR.out).2.1, (two_cells HHA.out).1, (two_cells HHA.out).2.1, (two_cells HHM.out).1, (two_cells HHM.out).2.1, (two_cells HHB.out).1, (two_cells HHB.out).2.1⟩)
  clear hK K
  refine wpAnyH_ready (rs := [18]) (by kernel_rfl) (by simp) ?_
  refine AllReadyH.cons (o := { dst := some 119, op := Op.call { callee := Callee.value (Operand.func 28), args := #[Operand.tmp 118], argTypes := #[24] }, type := 3, pos := "keeps.go:64", after := #[{ on := 17, ground := Ground.data }, { on := 16, ground := Ground.chain }, { on := 14, ground := Ground.guard }], guard := some (14, false) }) rfl (fun K hK => ?_) AllReadyH.nil
  go_simp
  ((with_reducible refine (sign_any nB aB lB cB B _ hRB).mono ?_); rintro e w5 ⟨rfl, hw5⟩; rw [HEB.out, hsb]; have hbk := below_new hw5; clear hw5; have hRR := hRR.keep hbk; have HHR := hid (heap_keep HHR.out hbk); have hRA := hRA.keep hbk; have HHA := hid (heap_keep HHA.out hbk); have hRM := hRM.keep hbk; have HHM := hid (heap_keep HHM.out hbk); have hRB := hRB.keep hbk; have HHB := hid (heap_keep HHB.out hbk); have hacc := hacc.trans (hbk.mono hacc.size))
  go_wp2_with fail
  refine hK.out _ _ ?_ (fun hHeld => ?_)
  · first
      | (with_reducible exact ⟨(two_cells HHR.out).1, (two_cells HHR.out).2.1, (two_cells HHA.out).1, (two_cells HHA.out).2.1, (two_cells HHM.out).1, (two_cells HHM.out).2.1, (two_cells HHB.out).1, (two_cells HHB.out).2.1⟩)
      | (dsimp only; with_reducible exact ⟨(two_cells HHR.out).1, (two_cells HHR.out).2.1, (two_cells HHA.out).1, (two_cells HHA.out).2.1, (two_cells HHM.out).1, (two_cells HHM.out).2.1, (two_cells HHB.out).1, (two_cells HHB.out).2.1⟩)
  clear hK K
  refine wpAnyH_take (i := 19) (oi := { dst := some 120, op := Op.binOp BinOp.eql 3 (Operand.tmp 117) (Operand.tmp 119) 3, type := 4, pos := "keeps.go:64", after := #[{ on := 16, ground := Ground.data }, { on := 18, ground := Ground.data }, { on := 14, ground := Ground.guard }], guard := some (14, false) }) (v := ?_) rfl (by kernel_rfl) (by kernel_rfl) (by kernel_rfl) (fun _ _ _ h => h) (Or.inl ⟨by rfl, ?_⟩) (by assumption) ?_
  rotate_left
  · first
      | (intro w5 hSw; (try dsimp only at hSw); go_simp; done)
      | (intro w5 hSw; (try dsimp only at hSw); go_simp; with_reducible rfl)
  try simp only [Act.put, List.setIfInBounds_toArray, List.set_cons_zero, List.set_cons_succ]
  refine wpAnyH_take (i := 20) (oi := { dst := some 121, op := Op.pick (Operand.tmp 115) (Operand.const (Value.bool true)) (Operand.tmp 120), type := 4, pos := "keeps.go:64", after := #[{ on := 14, ground := Ground.data }, { on := 19, ground := Ground.data }, { on := 10, ground := Ground.guard }], guard := some (10, true) }) (v := ?_) rfl (by kernel_rfl) (by kernel_rfl) (by kernel_rfl) (fun _ _ _ h => h) (Or.inl ⟨by rfl, ?_⟩) (by assumption) ?_
  rotate_left
  · first
      | (intro w5 hSw; (try dsimp only at hSw); go_simp; done)
      | (intro w5 hSw; (try dsimp only at hSw); go_simp; with_reducible rfl)
  try simp only [Act.put, List.setIfInBounds_toArray, List.set_cons_zero, List.set_cons_succ]
  refine wpAnyH_take (i := 21) (oi := { dst := some 122, op := Op.pick (Operand.tmp 111) (Operand.tmp 121) (Operand.const (Value.bool false)), type := 4, pos := "keeps.go:64", after := #[{ on := 10, ground := Ground.data }, { on := 20, ground := Ground.data }], guard := none }) (v := ?_) rfl (by kernel_rfl) (by kernel_rfl) (by kernel_rfl) (fun _ _ _ h => h) (Or.inl ⟨by rfl, ?_⟩) (by assumption) ?_
  rotate_left
  · first
      | (intro w5 hSw; (try dsimp only at hSw); go_simp; done)
      | (intro w5 hSw; (try dsimp only at hSw); go_simp; with_reducible rfl)
  try simp only [Act.put, List.setIfInBounds_toArray, List.set_cons_zero, List.set_cons_succ]
  refine wpAnyH_take (i := 22) (oi := { dst := some 22, op := Op.assign (Operand.tmp 122), type := 4, pos := "keeps.go:64", after := #[{ on := 21, ground := Ground.data }, { on := 18, ground := Ground.chain }, { on := 0, ground := Ground.phase }, { on := 1, ground := Ground.phase }, { on := 2, ground := Ground.phase }, { on := 3, ground := Ground.phase }, { on := 4, ground := Ground.phase }, { on := 5, ground := Ground.phase }, { on := 6, ground := Ground.phase }, { on := 7, ground := Ground.phase }, { on := 8, ground := Ground.phase }, { on := 9, ground := Ground.phase }, { on := 10, ground := Ground.phase }, { on := 11, ground := Ground.phase }, { on := 12, ground := Ground.phase }, { on := 13, ground := Ground.phase }, { on := 14, ground := Ground.phase }, { on := 15, ground := Ground.phase }, { on := 16, ground := Ground.phase }, { on := 17, ground := Ground.phase }, { on := 18, ground := Ground.phase }, { on := 19, ground := Ground.phase }, { on := 20, ground := Ground.phase }, { on := 21, ground := Ground.phase }], guard := none }) (v := ?_) rfl (by kernel_rfl) (by kernel_rfl) (by kernel_rfl) (fun _ _ _ h => h) (Or.inl ⟨by rfl, ?_⟩) (by assumption) ?_
  rotate_left
  · first
      | (intro w5 hSw; (try dsimp only at hSw); go_simp; done)
      | (intro w5 hSw; (try dsimp only at hSw); go_simp; with_reducible rfl)
  try simp only [Act.put, List.setIfInBounds_toArray, List.set_cons_zero, List.set_cons_succ]
  refine wpAnyH_done (by kernel_rfl) ?_ _
  refine NoPanic.normal ?_
  go_wp2
  have hfin := hb.trans (hacc.mono hb.size)
  exact PN_15 la lb hz hq lqb lq lr hd ldb ld lm (hfin) h0 o3 o6 o7 o9 o10 o12 o14 o18 (b2.keep hacc) (b3.keep hacc) (b6.keep hacc) (b7.keep hacc) (b9.keep hacc) (b10.keep hacc) (b12.keep hacc) (b14.keep hacc) (b18.keep hacc)

set_option maxRecDepth 100000 in
set_option maxHeartbeats 20000000 in
theorem PN_14_c02 {w wr : World} {g2 g3 g6 g7 g9 g10 g12 g14 g18 : Nat} {u0 u1 u4 u22 u23 u24 u25 u26 u27 u28 u29 u30 u31 u32 u33 u34 u35 u36 u37 u38 u39 u40 u41 u42 u43 u44 u45 u46 u47 u48 u49 u50 u51 u52 u53 u54 u55 u56 u57 u58 u59 u60 u61 u62 u63 u64 u65 u66 u67 u68 u69 u70 u71 u72 u73 u74 u75 u76 u77 u78 u79 u80 u81 u82 u83 u84 u85 u86 u87 u88 u89 u90 u91 u92 u93 u94 u95 u96 u97 u98 u99 u100 u101 u102 u103 u104 u105 u106 u107 u108 u109 u110 u111 u112 u113 u114 u115 u116 u117 u118 u119 u120 u121 u122 u123 u124 u125 u126 u127 u128 u129 u130 u131 u132 u133 u134 u135 u136 u137 u138 u139 u140 u141 u142 u143 u144 u145 u146 u147 u148 u149 u150 u151 u152 u153 u154 u155 u156 u157 u158 u159 u160 u161 u162 u163 u164 u165 u166 u167 u168 u169 : Value} {va vb vq vr vd vm : Int}
    (la : Lt 3840 va) (lb : Lt 3840 vb) (hz : Hid (vb ≠ 0)) (hq : Hid (TruncDiv va vb vq vr)) (lqb : Lt 3841 (vq * vb)) (lq : Lt 3841 vq) (lr : Lt 3840 vr) (hd : Hid (Floors va vb vd vm)) (ldb : Lt 3841 (vd * vb)) (ld : Lt 3841 vd) (lm : Lt 3840 vm) (hsr : vr.sign = 0) (hsm : vm.sign = -1) (hsb : vb.sign = -1)
    (hb : Below w.heap.size w wr) (h0 : w.heap.size ≤ g2)
    (o3 : g2 < g3) (o6 : g3 < g6) (o7 : g6 < g7) (o9 : g7 < g9) (o10 : g9 < g10) (o12 : g10 < g12) (o14 : g12 < g14) (o18 : g14 < g18)
    (b2 : Bx wr g2 (va)) (b3 : Bx wr g3 (vb)) (b6 : Bx wr g6 (vq)) (b7 : Bx wr g7 (vr)) (b9 : Bx wr g9 (vd)) (b10 : Bx wr g10 (vm)) (b12 : Bx wr g12 (vd * vb)) (b14 : Bx wr g14 (vq * vb + vr)) (b18 : Bx wr g18 (vd * vb + vm)) :
    Code.wp Tryd.prog (tail11 14) (Q11 w) ⟨#[u0, u1, .pointer (some ⟨g2, 0, none⟩), .pointer (some ⟨g3, 0, none⟩), u4, .bool true, .pointer (some ⟨g6, 0, none⟩), .pointer (some ⟨g7, 0, none⟩), .int .i64 0, .pointer (some ⟨g9, 0, none⟩), .pointer (some ⟨g10, 0, none⟩), .int .i64 0, .pointer (some ⟨g12, 0, none⟩), .int .i64 0, .pointer (some ⟨g14, 0, none⟩), .int .i64 0, .bool true, .int .i64 0, .pointer (some ⟨g18, 0, none⟩), .int .i64 0, .bool true, .bool true, u22, u23, u24, u25, u26, u27, u28, u29, u30, u31, u32, u33, u34, u35, u36, u37, u38, u39, u40, u41, u42, u43, u44, u45, u46, u47, u48, u49, u50, u51, u52, u53, u54, u55, u56, u57, u58, u59, u60, u61, u62, u63, u64, u65, u66, u67, u68, u69, u70, u71, u72, u73, u74, u75, u76, u77, u78, u79, u80, u81, u82, u83, u84, u85, u86, u87, u88, u89, u90, u91, u92, u93, u94, u95, u96, u97, u98, u99, u100, u101, u102, u103, u104, u105, u106, u107, u108, u109, u110, u111, u112, u113, u114, u115, u116, u117, u118, u119, u120, u121, u122, u123, u124, u125, u126, u127, u128, u129, u130, u131, u132, u133, u134, u135, u136, u137, u138, u139, u140, u141, u142, u143, u144, u145, u146, u147, u148, u149, u150, u151, u152, u153, u154, u155, u156, u157, u158, u159, u160, u161, u162, u163, u164, u165, u166, u167, u168, u169], []⟩ wr := by
  have b7' := b7.drew
  obtain ⟨nR, aR, lR, cR, R, hHR, hRR, hER⟩ := b7'
  have HER := hid hER
  have HHR := hid hHR
  clear hER hHR
  have b2' := b2.drew
  obtain ⟨nA, aA, lA, cA, A, hHA, hRA, hEA⟩ := b2'
  have HEA := hid hEA
  have HHA := hid hHA
  clear hEA hHA
  have b10' := b10.drew
  obtain ⟨nM, aM, lM, cM, M, hHM, hRM, hEM⟩ := b10'
  have HEM := hid hEM
  have HHM := hid hHM
  clear hEM hHM
  have b3' := b3.drew
  obtain ⟨nB, aB, lB, cB, B, hHB, hRB, hEB⟩ := b3'
  have HEB := hid hEB
  have HHB := hid hHB
  clear hEB hHB
  have hacc : Below wr.heap.size wr wr.drew := (Below.refl _ _).drew
  show Code.wp Tryd.prog (Code.seq (head11 14) (tail11 15)) _ _ _
  conv => arg 2; arg 1; whnf
  go_wp2_with fail
  refine wp_region_noPanic ?_
  refine wp_region_held_drew (S := (fun w' => w'.cell? ⟨g7, 0, none⟩ = some (.bool nR) ∧ w'.cell? ⟨g7, 1, none⟩ = some (.slice aR lR cR) ∧ w'.cell? ⟨g2, 0, none⟩ = some (.bool nA) ∧ w'.cell? ⟨g2, 1, none⟩ = some (.slice aA lA cA) ∧ w'.cell? ⟨g10, 0, none⟩ = some (.bool nM) ∧ w'.cell? ⟨g10, 1, none⟩ = some (.slice aM lM cM) ∧ w'.cell? ⟨g3, 0, none⟩ = some (.bool nB) ∧ w'.cell? ⟨g3, 1, none⟩ = some (.slice aB lB cB))) (by kernel_rfl) (by first | (with_reducible exact ⟨(two_cells HHR.out).1, (two_cells HHR.out).2.1, (two_cells HHA.out).1, (two_cells HHA.out).2.1, (two_cells HHM.out).1, (two_cells HHM.out).2.1, (two_cells HHB.out).1, (two_cells HHB.out).2.1⟩) | (dsimp only; with_reducible exact ⟨(two_cells HHR.out).1, (two_cells HHR.out).2.1, (two_cells HHA.out).1, (two_cells HHA.out).2.1, (two_cells HHM.out).1, (two_cells HHM.out).2.1, (two_cells HHB.out).1, (two_cells HHB.out).2.1⟩)) (fun hHeld => ?_)
  refine wpAnyH_take (i := 0) (oi := { dst := some 101, op := Op.load 24 (Operand.tmp 7), type := 24, pos := "keeps.go:64", after := #[], guard := none }) (v := ?_) rfl (by kernel_rfl) (by kernel_rfl) (by kernel_rfl) (fun _ _ _ h => h) (Or.inl ⟨by rfl, ?_⟩) (by assumption) ?_
  rotate_left
  · first
      | (intro w5 hSw; (try dsimp only at hSw); go_simp; done)
      | (intro w5 hSw; (try dsimp only at hSw); go_simp; with_reducible rfl)
  try simp only [Act.put, List.setIfInBounds_toArray, List.set_cons_zero, List.set_cons_succ]
  refine wpAnyH_ready (rs := [1]) (by kernel_rfl) (by simp) ?_
  refine AllReadyH.cons (o := { dst := some 102, op := Op.call { callee := Callee.value (Operand.func 28), args := #[Operand.tmp 101], argTypes := #[24] }, type := 3, pos := "keeps.go:64", after := #[{ on := 0, ground := Ground.data }], guard := none }) rfl (fun K hK => ?_) AllReadyH.nil
  go_simp
  ((with_reducible refine (sign_any nR aR lR cR R _ hRR).mono ?_); rintro e w5 ⟨rfl, hw5⟩; rw [HER.out, hsr]; have hbk := below_new hw5; clear hw5; have hRR := hRR.keep hbk; have HHR := hid (heap_keep HHR.out hbk); have hRA := hRA.keep hbk; have HHA := hid (heap_keep HHA.out hbk); have hRM := hRM.keep hbk; have HHM := hid (heap_keep HHM.out hbk); have hRB := hRB.keep hbk; have HHB := hid (heap_keep HHB.out hbk); have hacc := hacc.trans (hbk.mono hacc.size))
  go_wp2_with fail
  refine hK.out _ _ ?_ (fun hHeld => ?_)
  · first
      | (with_reducible exact ⟨(two_cells HHR.out).1, (two_cells HHR.out).2.1, (two_cells HHA.out).1, (two_cells HHA.out).2.1, (two_cells HHM.out).1, (two_cells HHM.out).2.1, (two_cells HHB.out).1, (two_cells HHB.out).2.1⟩)
      | (dsimp only; with_reducible exact ⟨(two_cells HHR.out).1, (two_cells HHR.out).2.1, (two_cells HHA.out).1, (two_cells HHA.out).2.1, (two_cells HHM.out).1, (two_cells HHM.out).2.1, (two_cells HHB.out).1, (two_cells HHB.out).2.1⟩)
  clear hK K
  refine wpAnyH_take (i := 2) (oi := { dst := some 103, op := Op.binOp BinOp.eql 3 (Operand.tmp 102) (Operand.const (Value.int IntKind.i64 0)) 3, type := 4, pos := "keeps.go:64", after := #[{ on := 1, ground := Ground.data }], guard := none }) (v := ?_) rfl (by kernel_rfl) (by kernel_rfl) (by kernel_rfl) (fun _ _ _ h => h) (Or.inl ⟨by rfl, ?_⟩) (by assumption) ?_
  rotate_left
  · first
      | (intro w5 hSw; (try dsimp only at hSw); go_simp; done)
      | (intro w5 hSw; (try dsimp only at hSw); go_simp; with_reducible rfl)
  try simp only [Act.put, List.setIfInBounds_toArray, List.set_cons_zero, List.set_cons_succ]
  refine wpAnyH_take (i := 3) (oi := { dst := some 104, op := Op.move (Operand.tmp 103), type := 4, pos := "keeps.go:64", after := #[{ on := 2, ground := Ground.data }, { on := 1, ground := Ground.chain }], guard := none }) (v := ?_) rfl (by kernel_rfl) (by kernel_rfl) (by kernel_rfl) (fun _ _ _ h => h) (Or.inl ⟨by rfl, ?_⟩) (by assumption) ?_
  rotate_left
  · first
      | (intro w5 hSw; (try dsimp only at hSw); go_simp; done)
      | (intro w5 hSw; (try dsimp only at hSw); go_simp; with_reducible rfl)
  try simp only [Act.put, List.setIfInBounds_toArray, List.set_cons_zero, List.set_cons_succ]
  refine wpAnyH_take (i := 4) (oi := { dst := some 105, op := Op.load 24 (Operand.tmp 7), type := 24, pos := "keeps.go:64", after := #[{ on := 3, ground := Ground.guard }], guard := some (3, false) }) (v := undef) rfl (by kernel_rfl) (by kernel_rfl) (by kernel_rfl) (fun _ _ _ h => h) (Or.inr ⟨by rfl, rfl⟩) (by assumption) ?_
  try simp only [Act.put, List.setIfInBounds_toArray, List.set_cons_zero, List.set_cons_succ]
  refine wpAnyH_take (i := 5) (oi := { dst := some 106, op := Op.call { callee := Callee.value (Operand.func 28), args := #[Operand.tmp 105], argTypes := #[24] }, type := 3, pos := "keeps.go:64", after := #[{ on := 4, ground := Ground.data }, { on := 3, ground := Ground.chain }, { on := 3, ground := Ground.guard }], guard := some (3, false) }) (v := undef) rfl (by kernel_rfl) (by kernel_rfl) (by kernel_rfl) (fun _ _ _ h => h) (Or.inr ⟨by rfl, rfl⟩) (by assumption) ?_
  try simp only [Act.put, List.setIfInBounds_toArray, List.set_cons_zero, List.set_cons_succ]
  refine wpAnyH_take (i := 6) (oi := { dst := some 107, op := Op.load 24 (Operand.tmp 2), type := 24, pos := "keeps.go:64", after := #[{ on := 3, ground := Ground.guard }], guard := some (3, false) }) (v := undef) rfl (by kernel_rfl) (by kernel_rfl) (by kernel_rfl) (fun _ _ _ h => h) (Or.inr ⟨by rfl, rfl⟩) (by assumption) ?_
  try simp only [Act.put, List.setIfInBounds_toArray, List.set_cons_zero, List.set_cons_succ]
  refine wpAnyH_take (i := 7) (oi := { dst := some 108, op := Op.call { callee := Callee.value (Operand.func 28), args := #[Operand.tmp 107], argTypes := #[24] }, type := 3, pos := "keeps.go:64", after := #[{ on := 6, ground := Ground.data }, { on := 5, ground := Ground.chain }, { on := 3, ground := Ground.guard }], guard := some (3, false) }) (v := undef) rfl (by kernel_rfl) (by kernel_rfl) (by kernel_rfl) (fun _ _ _ h => h) (Or.inr ⟨by rfl, rfl⟩) (by assumption) ?_
  try simp only [Act.put, List.setIfInBounds_toArray, List.set_cons_zero, List.set_cons_succ]
  refine wpAnyH_take (i := 8) (oi := { dst := some 109, op := Op.binOp BinOp.eql 3 (Operand.tmp 106) (Operand.tmp 108) 3, type := 4, pos := "keeps.go:64", after := #[{ on := 5, ground := Ground.data }, { on := 7, ground := Ground.data }, { on := 3, ground := Ground.guard }], guard := some (3, false) }) (v := undef) rfl (by kernel_rfl) (by kernel_rfl) (by kernel_rfl) (fun _ _ _ h => h) (Or.inr ⟨by rfl, rfl⟩) (by assumption) ?_
  try simp only [Act.put, List.setIfInBounds_toArray, List.set_cons_zero, List.set_cons_succ]
  refine wpAnyH_take (i := 9) (oi := { dst := some 110, op := Op.pick (Operand.tmp 104) (Operand.const (Value.bool true)) (Operand.tmp 109), type := 4, pos := "keeps.go:64", after := #[{ on := 3, ground := Ground.data }, { on := 8, ground := Ground.data }], guard := none }) (v := ?_) rfl (by kernel_rfl) (by kernel_rfl) (by kernel_rfl) (fun _ _ _ h => h) (Or.inl ⟨by rfl, ?_⟩) (by assumption) ?_
  rotate_left
  · first
      | (intro w5 hSw; (try dsimp only at hSw); go_simp; done)
      | (intro w5 hSw; (try dsimp only at hSw); go_simp; with_reducible rfl)
  try simp only [Act.put, List.setIfInBounds_toArray, List.set_cons_zero, List.set_cons_succ]
  refine wpAnyH_take (i := 10) (oi := { dst := some 111, op := Op.move (Operand.tmp 110), type := 4, pos := "keeps.go:64", after := #[{ on := 9, ground := Ground.data }, { on := 7, ground := Ground.chain }], guard := none }) (v := ?_) rfl (by kernel_rfl) (by kernel_rfl) (by kernel_rfl) (fun _ _ _ h => h) (Or.inl ⟨by rfl, ?_⟩) (by assumption) ?_
  rotate_left
  · first
      | (intro w5 hSw; (try dsimp only at hSw); go_simp; done)
      | (intro w5 hSw; (try dsimp only at hSw); go_simp; with_reducible rfl)
  try simp only [Act.put, List.setIfInBounds_toArray, List.set_cons_zero, List.set_cons_succ]
  refine wpAnyH_take (i := 11) (oi := { dst := some 112, op := Op.load 24 (Operand.tmp 10), type := 24, pos := "keeps.go:64", after := #[{ on := 10, ground := Ground.guard }], guard := some (10, true) }) (v := ?_) rfl (by kernel_rfl) (by kernel_rfl) (by kernel_rfl) (fun _ _ _ h => h) (Or.inl ⟨by rfl, ?_⟩) (by assumption) ?_
  rotate_left
  · first
      | (intro w5 hSw; (try dsimp only at hSw); go_simp; done)
      | (intro w5 hSw; (try dsimp only at hSw); go_simp; with_reducible rfl)
  try simp only [Act.put, List.setIfInBounds_toArray, List.set_cons_zero, List.set_cons_succ]
  refine wpAnyH_ready (rs := [12]) (by kernel_rfl) (by simp) ?_
  refine AllReadyH.cons (o := { dst := some 113, op := Op.call { callee := Callee.value (Operand.func 28), args := #[Operand.tmp 112], argTypes := #[24] }, type := 3, pos := "keeps.go:64", after := #[{ on := 11, ground := Ground.data }, { on := 10, ground := Ground.chain }, { on := 10, ground := Ground.guard }], guard := some (10, true) }) rfl (fun K hK => ?_) AllReadyH.nil
  go_simp
  ((with_reducible refine (sign_any nM aM lM cM M _ hRM).mono ?_); rintro e w5 ⟨rfl, hw5⟩; rw [HEM.out, hsm]; have hbk := below_new hw5; clear hw5; have hRR := hRR.keep hbk; have HHR := hid (heap_keep HHR.out hbk); have hRA := hRA.keep hbk; have HHA := hid (heap_keep HHA.out hbk); have hRM := hRM.keep hbk; have HHM := hid (heap_keep HHM.out hbk); have hRB := hRB.keep hbk; have HHB := hid (heap_keep HHB.out hbk); have hacc := hacc.trans (hbk.mono hacc.size))
  go_wp2_with fail
  refine hK.out _ _ ?_ (fun hHeld => ?_)
  · first
      | (with_reducible exact ⟨(two_cells HHR.out).1, (two_cells HHR.out).2.1, (two_cells HHA.out).1, (two_cells HHA.out).2.1, (two_cells HHM.out).1, (two_cells HHM.out).2.1, (two_cells HHB.out).1, (two_cells HHB.out).2.1⟩)
      | (dsimp only; with_reducible exact ⟨(two_cells HHR.out).1, (two_cells HHR.out).2.1, (two_cells HHA.out).1, (two_cells HHA.out).2.1, (two_cells HHM.out).1, (two_cells HHM.out).2.1, (two_cells HHB.out).1, (two_cells HHB.out).2.1⟩)
  clear hK K
  refine wpAnyH_take (i := 13) (oi := { dst := some 114, op := Op.binOp BinOp.eql 3 (Operand.tmp 113) (Operand.const (Value.int IntKind.i64 0)) 3, type := 4, pos := "keeps.go:64", after := #[{ on := 12, ground := Ground.data }, { on := 10, ground := Ground.guard }], guard := some (10, true) }) (v := ?_) rfl (by kernel_rfl) (by kernel_rfl) (by kernel_rfl) (fun _ _ _ h => h) (Or.inl ⟨by rfl, ?_⟩) (by assumption) ?_
  rotate_left
  · first
      | (intro w5 hSw; (try dsimp only at hSw); go_simp; done)
      | (intro w5 hSw; (try dsimp only at hSw); go_simp; with_reducible rfl)
  try simp only [Act.put, List.setIfInBounds_toArray, List.set_cons_zero, List.set_cons_succ]
  refine wpAnyH_take (i := 14) (oi := { dst := some 115, op := Op.move (Operand.tmp 114), type := 4, pos := "keeps.go:64", after := #[{ on := 13, ground := Ground.data }, { on := 12, ground := Ground.chain }, { on := 10, ground := Ground.guard }], guard := some (10, true) }) (v := ?_) rfl (by kernel_rfl) (by kernel_rfl) (by kernel_rfl) (fun _ _ _ h => h) (Or.inl ⟨by rfl, ?_⟩) (by assumption) ?_
  rotate_left
  · first
      | (intro w5 hSw; (try dsimp only at hSw); go_simp; done)
      | (intro w5 hSw; (try dsimp only at hSw); go_simp; with_reducible rfl)
  try simp only [Act.put, List.setIfInBounds_toArray, List.set_cons_zero, List.set_cons_succ]
  refine wpAnyH_take (i := 15) (oi := { dst := some 116, op := Op.load 24 (Operand.tmp 10), type := 24, pos := "keeps.go:64", after := #[{ on := 14, ground := Ground.guard }], guard := some (14, false) }) (v := ?_) rfl (by kernel_rfl) (by kernel_rfl) (by kernel_rfl) (fun _ _ _ h => h) (Or.inl ⟨by rfl, ?_⟩) (by assumption) ?_
  rotate_left
  · first
      | (intro w5 hSw; (try dsimp only at hSw); go_simp; done)
      | (intro w5 hSw; (try dsimp only at hSw); go_simp; with_reducible rfl)
  try simp only [Act.put, List.setIfInBounds_toArray, List.set_cons_zero, List.set_cons_succ]
  refine wpAnyH_take (i := 17) (oi := { dst := some 118, op := Op.load 24 (Operand.tmp 3), type := 24, pos := "keeps.go:64", after := #[{ on := 14, ground := Ground.guard }], guard := some (14, false) }) (v := ?_) rfl (by kernel_rfl) (by kernel_rfl) (by kernel_rfl) (fun _ _ _ h => h) (Or.inl ⟨by rfl, ?_⟩) (by assumption) ?_
  rotate_left
  · first
      | (intro w5 hSw; (try dsimp only at hSw); go_simp; done)
      | (intro w5 hSw; (try dsimp only at hSw); go_simp; with_reducible rfl)
  try simp only [Act.put, List.setIfInBounds_toArray, List.set_cons_zero, List.set_cons_succ]
  refine wpAnyH_ready (rs := [16]) (by kernel_rfl) (by simp) ?_
  refine AllReadyH.cons (o := { dst := some 117, op := Op.call { callee := Callee.value (Operand.func 28), args := #[Operand.tmp 116], argTypes := #[24] }, type := 3, pos := "keeps.go:64", after := #[{ on := 15, ground := Ground.data }, { on := 14, ground := Ground.chain }, { on := 14, ground := Ground.guard }], guard := some (14, false) }) rfl (fun K hK => ?_) AllReadyH.nil
  go_simp
  ((with_reducible refine (sign_any nM aM lM cM M _ hRM).mono ?_); rintro e w5 ⟨rfl, hw5⟩; rw [HEM.out, hsm]; have hbk := below_new hw5; clear hw5; have hRR := hRR.keep hbk; have HHR := hid (heap_keep HHR.out hbk); have hRA := hRA.keep hbk; have HHA := hid (heap_keep HHA.out hbk); have hRM := hRM.keep hbk; have HHM := hid (heap_keep HHM.out hbk); have hRB := hRB.keep hbk; have HHB := hid (heap_keep HHB.out hbk); have hacc := hacc.trans (hbk.mono hacc.size))
  go_wp2_with fail
  refine hK.out _ _ ?_ (fun hHeld => ?_)
  · first
      | (with_reducible exact ⟨(two_cells HHR.out).1, (two_cells HHR.out).2.1, (two_cells HHA.out).1, (two_cells HHA.out).2.1, (two_cells HHM.out).1, (two_cells HHM.out).2.1, (two_cells HHB.out).1, (two_cells HHB.out).2.1⟩)
      | (dsimp only; with_reducible exact ⟨(two_cells HHR.out).1, (two_cells HHR.out).2.1, (two_cells HHA.out).1, (two_cells HHA.out).2.1, (two_cells HHM.out).1, (two_cells HHM.out).2.1, (two_cells HHB.out).1, (two_cells HHB.out).2.1⟩)
  clear hK K
  refine wpAnyH_ready (rs := [18]) (by kernel_rfl) (by simp) ?_
  refine AllReadyH.cons (o := { dst := some 119, op := Op.call { callee := Callee.value (Operand.func 28), args := #[Operand.tmp 118], argTypes := #[24] }, type := 3, pos := "keeps.go:64", after := #[{ on := 17, ground := Ground.data }, { on := 16, ground := Ground.chain }, { on := 14, ground := Ground.guard }], guard := some (14, false) }) rfl (fun K hK => ?_) AllReadyH.nil
  go_simp
  ((with_reducible refine (sign_any nB aB lB cB B _ hRB).mono ?_); rintro e w5 ⟨rfl, hw5⟩; rw [HEB.out, hsb]; have hbk := below_new hw5; clear hw5; have hRR := hRR.keep hbk; have HHR := hid (heap_keep HHR.out hbk); have hRA := hRA.keep hbk; have HHA := hid (heap_keep HHA.out hbk); have hRM := hRM.keep hbk; have HHM := hid (heap_keep HHM.out hbk); have hRB := hRB.keep hbk; have HHB := hid (heap_keep HHB.out hbk); have hacc := hacc.trans (hbk.mono hacc.size))
  go_wp2_with fail
  refine hK.out _ _ ?_ (fun hHeld => ?_)
  · first
      | (with_reducible exact ⟨(two_cells HHR.out).1, (two_cells HHR.out).2.1, (two_cells HHA.out).1, (two_cells HHA.out).2.1, (two_cells HHM.out).1, (two_cells HHM.out).2.1, (two_cells HHB.out).1, (two_cells HHB.out).2.1⟩)
      | (dsimp only; with_reducible exact ⟨(two_cells HHR.out).1, (two_cells HHR.out).2.1, (two_cells HHA.out).1, (two_cells HHA.out).2.1, (two_cells HHM.out).1, (two_cells HHM.out).2.1, (two_cells HHB.out).1, (two_cells HHB.out).2.1⟩)
  clear hK K
  refine wpAnyH_take (i := 19) (oi := { dst := some 120, op := Op.binOp BinOp.eql 3 (Operand.tmp 117) (Operand.tmp 119) 3, type := 4, pos := "keeps.go:64", after := #[{ on := 16, ground := Ground.data }, { on := 18, ground := Ground.data }, { on := 14, ground := Ground.guard }], guard := some (14, false) }) (v := ?_) rfl (by kernel_rfl) (by kernel_rfl) (by kernel_rfl) (fun _ _ _ h => h) (Or.inl ⟨by rfl, ?_⟩) (by assumption) ?_
  rotate_left
  · first
      | (intro w5 hSw; (try dsimp only at hSw); go_simp; done)
      | (intro w5 hSw; (try dsimp only at hSw); go_simp; with_reducible rfl)
  try simp only [Act.put, List.setIfInBounds_toArray, List.set_cons_zero, List.set_cons_succ]
  refine wpAnyH_take (i := 20) (oi := { dst := some 121, op := Op.pick (Operand.tmp 115) (Operand.const (Value.bool true)) (Operand.tmp 120), type := 4, pos := "keeps.go:64", after := #[{ on := 14, ground := Ground.data }, { on := 19, ground := Ground.data }, { on := 10, ground := Ground.guard }], guard := some (10, true) }) (v := ?_) rfl (by kernel_rfl) (by kernel_rfl) (by kernel_rfl) (fun _ _ _ h => h) (Or.inl ⟨by rfl, ?_⟩) (by assumption) ?_
  rotate_left
  · first
      | (intro w5 hSw; (try dsimp only at hSw); go_simp; done)
      | (intro w5 hSw; (try dsimp only at hSw); go_simp; with_reducible rfl)
  try simp only [Act.put, List.setIfInBounds_toArray, List.set_cons_zero, List.set_cons_succ]
  refine wpAnyH_take (i := 21) (oi := { dst := some 122, op := Op.pick (Operand.tmp 111) (Operand.tmp 121) (Operand.const (Value.bool false)), type := 4, pos := "keeps.go:64", after := #[{ on := 10, ground := Ground.data }, { on := 20, ground := Ground.data }], guard := none }) (v := ?_) rfl (by kernel_rfl) (by kernel_rfl) (by kernel_rfl) (fun _ _ _ h => h) (Or.inl ⟨by rfl, ?_⟩) (by assumption) ?_
  rotate_left
  · first
      | (intro w5 hSw; (try dsimp only at hSw); go_simp; done)
      | (intro w5 hSw; (try dsimp only at hSw); go_simp; with_reducible rfl)
  try simp only [Act.put, List.setIfInBounds_toArray, List.set_cons_zero, List.set_cons_succ]
  refine wpAnyH_take (i := 22) (oi := { dst := some 22, op := Op.assign (Operand.tmp 122), type := 4, pos := "keeps.go:64", after := #[{ on := 21, ground := Ground.data }, { on := 18, ground := Ground.chain }, { on := 0, ground := Ground.phase }, { on := 1, ground := Ground.phase }, { on := 2, ground := Ground.phase }, { on := 3, ground := Ground.phase }, { on := 4, ground := Ground.phase }, { on := 5, ground := Ground.phase }, { on := 6, ground := Ground.phase }, { on := 7, ground := Ground.phase }, { on := 8, ground := Ground.phase }, { on := 9, ground := Ground.phase }, { on := 10, ground := Ground.phase }, { on := 11, ground := Ground.phase }, { on := 12, ground := Ground.phase }, { on := 13, ground := Ground.phase }, { on := 14, ground := Ground.phase }, { on := 15, ground := Ground.phase }, { on := 16, ground := Ground.phase }, { on := 17, ground := Ground.phase }, { on := 18, ground := Ground.phase }, { on := 19, ground := Ground.phase }, { on := 20, ground := Ground.phase }, { on := 21, ground := Ground.phase }], guard := none }) (v := ?_) rfl (by kernel_rfl) (by kernel_rfl) (by kernel_rfl) (fun _ _ _ h => h) (Or.inl ⟨by rfl, ?_⟩) (by assumption) ?_
  rotate_left
  · first
      | (intro w5 hSw; (try dsimp only at hSw); go_simp; done)
      | (intro w5 hSw; (try dsimp only at hSw); go_simp; with_reducible rfl)
  try simp only [Act.put, List.setIfInBounds_toArray, List.set_cons_zero, List.set_cons_succ]
  refine wpAnyH_done (by kernel_rfl) ?_ _
  refine NoPanic.normal ?_
  go_wp2
  have hfin := hb.trans (hacc.mono hb.size)
  exact PN_15 la lb hz hq lqb lq lr hd ldb ld lm (hfin) h0 o3 o6 o7 o9 o10 o12 o14 o18 (b2.keep hacc) (b3.keep hacc) (b6.keep hacc) (b7.keep hacc) (b9.keep hacc) (b10.keep hacc) (b12.keep hacc) (b14.keep hacc) (b18.keep hacc)
end Go.Proofs.YtldafoojkimdeaaDoor
