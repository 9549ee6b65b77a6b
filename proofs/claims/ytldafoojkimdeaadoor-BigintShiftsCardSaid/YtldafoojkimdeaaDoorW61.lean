/- The law BigintShifts, region by region. -/
import Derived.Test.YtldafoojkimdeaaDoorW60
namespace Go.Proofs.YtldafoojkimdeaaDoor
open Go.RowKit Lm

noncomputable def tail14 (n : Nat) : Code := seqDrop n (Tryd.f14.body.getD .skip)
noncomputable def head14 (n : Nat) : Code := seqHead (tail14 n)
noncomputable def Q14 (w : World) : Exit → Act → World → Prop := bodyPost Tryd.prog Tryd.f14 fun e w' => e = .returned (.bool true) ∧ Below w.heap.size w w'

set_option maxRecDepth 100000 in
set_option maxHeartbeats 2000000 in
theorem SF_24 {r : Nat} {w wr : World} {g3 g4 g8 g10 g13 g15 g18 g19 g21 g24 g26 g27 g29 g30 g32 g34 g36 g38 : Nat} {u0 u1 u5 u6 u28 u31 u33 u35 u41 u42 u43 u44 u45 u46 u47 u48 u49 u50 u51 u52 u53 u54 u55 u56 u57 u58 u59 u60 u61 u62 u63 u64 u65 u66 u67 u68 u69 u70 u71 u72 u73 u74 u75 u76 u77 u78 u79 u80 u81 u82 u83 u84 u85 u86 u87 u88 u89 u90 u91 u92 u93 u94 u95 u96 u97 u98 u99 u100 u101 u102 u103 u104 u105 u106 u107 u108 u109 u110 u111 u112 u113 u114 u115 u116 u117 u118 u119 u120 u121 u122 u123 u124 u125 u126 u127 u128 u129 u130 u131 u132 u133 u134 u135 u136 u137 u138 u139 u140 u141 u142 u143 u144 u145 u146 u147 u148 u149 u150 u151 u152 u153 u154 u155 u156 u157 u158 u159 u160 u161 u162 u163 u164 u165 u166 u167 u168 u169 u170 u171 u172 u173 u174 u175 u176 u177 u178 u179 u180 u181 u182 u183 u184 u185 u186 u187 u188 u189 u190 u191 u192 u193 u194 u195 u196 u197 u198 u199 u200 u201 u202 u203 u204 u205 u206 u207 u208 u209 u210 u211 u212 u213 u214 u215 u216 u217 u218 : Value} {va vb vd vm vq vp : Int}
    (hr : r < 900) (la : Lt 1920 va) (lb : Lt 1920 vb) (hd : Hid (Floors va ((2 : Int) ^ r) vd vm)) (hz : Hid (gcdi va vb ≠ 0))
    (hb : Below w.heap.size w wr) (h0 : w.heap.size ≤ g3)
    (o4 : g3 < g4) (o8 : g4 < g8) (o10 : g8 < g10) (o13 : g10 < g13) (o15 : g13 < g15) (o18 : g15 < g18) (o19 : g18 < g19) (o21 : g19 < g21) (o24 : g21 < g24) (o26 : g24 < g26) (o27 : g26 < g27) (o29 : g27 < g29) (o30 : g29 < g30) (o32 : g30 < g32) (o34 : g32 < g34) (o36 : g34 < g36) (o38 : g36 < g38)
    (b3 : Bx wr g3 (va)) (b4 : Bx wr g4 (vb)) (b8 : Bx wr g8 (va * (2 : Int) ^ r)) (b10 : Bx wr g10 (va)) (b13 : Bx wr g13 ((2 : Int) ^ r)) (b15 : Bx wr g15 (va * (2 : Int) ^ r)) (b18 : Bx wr g18 (vd)) (b19 : Bx wr g19 (vm)) (b21 : Bx wr g21 (va / (2 : Int) ^ r)) (b24 : Bx wr g24 (gcdi va vb)) (b26 : Bx wr g26 (vq)) (b27 : Bx wr g27 (0)) (b29 : Bx wr g29 (vp)) (b30 : Bx wr g30 (0)) (b32 : Bx wr g32 (va * 8)) (b34 : Bx wr g34 (vb * 8)) (b36 : Bx wr g36 (gcdi (va * 8) (vb * 8))) (b38 : Bx wr g38 (gcdi va vb * 8)) :
    Code.wp Tryd.prog (tail14 24) (Q14 w) ⟨#[u0, u1, .int .i64 (r : Int), .pointer (some ⟨g3, 0, none⟩), .pointer (some ⟨g4, 0, none⟩), u5, u6, .bool true, .pointer (some ⟨g8, 0, none⟩), .int .i64 0, .pointer (some ⟨g10, 0, none⟩), .int .i64 0, .bool true, .pointer (some ⟨g13, 0, none⟩), .int .i64 0, .pointer (some ⟨g15, 0, none⟩), .int .i64 0, .bool true, .pointer (some ⟨g18, 0, none⟩), .pointer (some ⟨g19, 0, none⟩), .int .i64 0, .pointer (some ⟨g21, 0, none⟩), .int .i64 0, .bool true, .pointer (some ⟨g24, 0, none⟩), .int .i64 0, .pointer (some ⟨g26, 0, none⟩), .pointer (some ⟨g27, 0, none⟩), u28, .pointer (some ⟨g29, 0, none⟩), .pointer (some ⟨g30, 0, none⟩), u31, .pointer (some ⟨g32, 0, none⟩), u33, .pointer (some ⟨g34, 0, none⟩), u35, .pointer (some ⟨g36, 0, none⟩), .int .i64 0, .pointer (some ⟨g38, 0, none⟩), .int .i64 0, .bool true, u41, u42, u43, u44, u45, u46, u47, u48, u49, u50, u51, u52, u53, u54, u55, u56, u57, u58, u59, u60, u61, u62, u63, u64, u65, u66, u67, u68, u69, u70, u71, u72, u73, u74, u75, u76, u77, u78, u79, u80, u81, u82, u83, u84, u85, u86, u87, u88, u89, u90, u91, u92, u93, u94, u95, u96, u97, u98, u99, u100, u101, u102, u103, u104, u105, u106, u107, u108, u109, u110, u111, u112, u113, u114, u115, u116, u117, u118, u119, u120, u121, u122, u123, u124, u125, u126, u127, u128, u129, u130, u131, u132, u133, u134, u135, u136, u137, u138, u139, u140, u141, u142, u143, u144, u145, u146, u147, u148, u149, u150, u151, u152, u153, u154, u155, u156, u157, u158, u159, u160, u161, u162, u163, u164, u165, u166, u167, u168, u169, u170, u171, u172, u173, u174, u175, u176, u177, u178, u179, u180, u181, u182, u183, u184, u185, u186, u187, u188, u189, u190, u191, u192, u193, u194, u195, u196, u197, u198, u199, u200, u201, u202, u203, u204, u205, u206, u207, u208, u209, u210, u211, u212, u213, u214, u215, u216, u217, u218], []⟩ wr := by
  have hsg := gcd_sign hz.out
  have hs0 : (0 : Int).sign = 0 := rfl
  have b27' := b27
  obtain ⟨nR, aR, lR, cR, R, hHR, hRR, hER⟩ := b27'
  have hSR : (num nR R).sign = 0 := by rw [hER]; exact hs0
  obtain ⟨kR0, kR1, _, _⟩ := two_cells hHR
  have HHR := hid hHR
  clear hER hHR
  have b30' := b30
  obtain ⟨nS, aS, lS, cS, S, hHS, hRS, hES⟩ := b30'
  have hSS : (num nS S).sign = 0 := by rw [hES]; exact hs0
  obtain ⟨kS0, kS1, _, _⟩ := two_cells hHS
  have HHS := hid hHS
  clear hES hHS
  have b24' := b24
  obtain ⟨nG, aG, lG, cG, G, hHG, hRG, hEG⟩ := b24'
  have hSG : (num nG G).sign = 1 := by rw [hEG]; exact hsg
  obtain ⟨kG0, kG1, _, _⟩ := two_cells hHG
  have HHG := hid hHG
  clear hEG hHG
  clear hsg hs0
  have hacc : Below wr.heap.size wr wr := Below.refl _ _
  conv => arg 2; whnf
  go_wp2_with (first
      | (go_at_call_of 28 cR; (with_reducible refine (sign_any nR aR lR cR R _ hRR).mono ?_); rintro e w5 ⟨rfl, hw5⟩; rw [hSR]; have hbk := below_new hw5; clear hw5; have hRR := hRR.keep hbk; have HHR := hid (heap_keep HHR.out hbk); obtain ⟨kR0, kR1, _, _⟩ := two_cells HHR.out; have hRS := hRS.keep hbk; have HHS := hid (heap_keep HHS.out hbk); obtain ⟨kS0, kS1, _, _⟩ := two_cells HHS.out; have hRG := hRG.keep hbk; have HHG := hid (heap_keep HHG.out hbk); obtain ⟨kG0, kG1, _, _⟩ := two_cells HHG.out; have hacc := hacc.trans (hbk.mono hacc.size))
      | (go_at_call_of 28 cS; (with_reducible refine (sign_any nS aS lS cS S _ hRS).mono ?_); rintro e w5 ⟨rfl, hw5⟩; rw [hSS]; have hbk := below_new hw5; clear hw5; have hRR := hRR.keep hbk; have HHR := hid (heap_keep HHR.out hbk); obtain ⟨kR0, kR1, _, _⟩ := two_cells HHR.out; have hRS := hRS.keep hbk; have HHS := hid (heap_keep HHS.out hbk); obtain ⟨kS0, kS1, _, _⟩ := two_cells HHS.out; have hRG := hRG.keep hbk; have HHG := hid (heap_keep HHG.out hbk); obtain ⟨kG0, kG1, _, _⟩ := two_cells HHG.out; have hacc := hacc.trans (hbk.mono hacc.size))
      | (go_at_call_of 28 cG; (with_reducible refine (sign_any nG aG lG cG G _ hRG).mono ?_); rintro e w5 ⟨rfl, hw5⟩; rw [hSG]; have hbk := below_new hw5; clear hw5; have hRR := hRR.keep hbk; have HHR := hid (heap_keep HHR.out hbk); obtain ⟨kR0, kR1, _, _⟩ := two_cells HHR.out; have hRS := hRS.keep hbk; have HHS := hid (heap_keep HHS.out hbk); obtain ⟨kS0, kS1, _, _⟩ := two_cells HHS.out; have hRG := hRG.keep hbk; have HHG := hid (heap_keep HHG.out hbk); obtain ⟨kG0, kG1, _, _⟩ := two_cells HHG.out; have hacc := hacc.trans (hbk.mono hacc.size)))
  unfold Q14
  go_ret
  exact ⟨rfl, hb.trans (hacc.mono hb.size)⟩

set_option maxRecDepth 100000 in
set_option maxHeartbeats 2000000 in
theorem SF_23 {r : Nat} {w wr : World} {g3 g4 g8 g10 g13 g15 g18 g19 g21 g24 g26 g27 g29 g30 g32 g34 g36 g38 : Nat} {u0 u1 u5 u6 u28 u31 u33 u35 u40 u41 u42 u43 u44 u45 u46 u47 u48 u49 u50 u51 u52 u53 u54 u55 u56 u57 u58 u59 u60 u61 u62 u63 u64 u65 u66 u67 u68 u69 u70 u71 u72 u73 u74 u75 u76 u77 u78 u79 u80 u81 u82 u83 u84 u85 u86 u87 u88 u89 u90 u91 u92 u93 u94 u95 u96 u97 u98 u99 u100 u101 u102 u103 u104 u105 u106 u107 u108 u109 u110 u111 u112 u113 u114 u115 u116 u117 u118 u119 u120 u121 u122 u123 u124 u125 u126 u127 u128 u129 u130 u131 u132 u133 u134 u135 u136 u137 u138 u139 u140 u141 u142 u143 u144 u145 u146 u147 u148 u149 u150 u151 u152 u153 u154 u155 u156 u157 u158 u159 u160 u161 u162 u163 u164 u165 u166 u167 u168 u169 u170 u171 u172 u173 u174 u175 u176 u177 u178 u179 u180 u181 u182 u183 u184 u185 u186 u187 u188 u189 u190 u191 u192 u193 u194 u195 u196 u197 u198 u199 u200 u201 u202 u203 u204 u205 u206 u207 u208 u209 u210 u211 u212 u213 u214 u215 u216 u217 u218 : Value} {va vb vd vm vq vp : Int}
    (hr : r < 900) (la : Lt 1920 va) (lb : Lt 1920 vb) (hd : Hid (Floors va ((2 : Int) ^ r) vd vm)) (hz : Hid (gcdi va vb ≠ 0))
    (hb : Below w.heap.size w wr) (h0 : w.heap.size ≤ g3)
    (o4 : g3 < g4) (o8 : g4 < g8) (o10 : g8 < g10) (o13 : g10 < g13) (o15 : g13 < g15) (o18 : g15 < g18) (o19 : g18 < g19) (o21 : g19 < g21) (o24 : g21 < g24) (o26 : g24 < g26) (o27 : g26 < g27) (o29 : g27 < g29) (o30 : g29 < g30) (o32 : g30 < g32) (o34 : g32 < g34) (o36 : g34 < g36) (o38 : g36 < g38)
    (b3 : Bx wr g3 (va)) (b4 : Bx wr g4 (vb)) (b8 : Bx wr g8 (va * (2 : Int) ^ r)) (b10 : Bx wr g10 (va)) (b13 : Bx wr g13 ((2 : Int) ^ r)) (b15 : Bx wr g15 (va * (2 : Int) ^ r)) (b18 : Bx wr g18 (vd)) (b19 : Bx wr g19 (vm)) (b21 : Bx wr g21 (va / (2 : Int) ^ r)) (b24 : Bx wr g24 (gcdi va vb)) (b26 : Bx wr g26 (vq)) (b27 : Bx wr g27 (0)) (b29 : Bx wr g29 (vp)) (b30 : Bx wr g30 (0)) (b32 : Bx wr g32 (va * 8)) (b34 : Bx wr g34 (vb * 8)) (b36 : Bx wr g36 (gcdi (va * 8) (vb * 8))) (b38 : Bx wr g38 (gcdi va vb * 8)) :
    Code.wp Tryd.prog (tail14 23) (Q14 w) ⟨#[u0, u1, .int .i64 (r : Int), .pointer (some ⟨g3, 0, none⟩), .pointer (some ⟨g4, 0, none⟩), u5, u6, .bool true, .pointer (some ⟨g8, 0, none⟩), .int .i64 0, .pointer (some ⟨g10, 0, none⟩), .int .i64 0, .bool true, .pointer (some ⟨g13, 0, none⟩), .int .i64 0, .pointer (some ⟨g15, 0, none⟩), .int .i64 0, .bool true, .pointer (some ⟨g18, 0, none⟩), .pointer (some ⟨g19, 0, none⟩), .int .i64 0, .pointer (some ⟨g21, 0, none⟩), .int .i64 0, .bool true, .pointer (some ⟨g24, 0, none⟩), .int .i64 0, .pointer (some ⟨g26, 0, none⟩), .pointer (some ⟨g27, 0, none⟩), u28, .pointer (some ⟨g29, 0, none⟩), .pointer (some ⟨g30, 0, none⟩), u31, .pointer (some ⟨g32, 0, none⟩), u33, .pointer (some ⟨g34, 0, none⟩), u35, .pointer (some ⟨g36, 0, none⟩), .int .i64 0, .pointer (some ⟨g38, 0, none⟩), .int .i64 0, u40, u41, u42, u43, u44, u45, u46, u47, u48, u49, u50, u51, u52, u53, u54, u55, u56, u57, u58, u59, u60, u61, u62, u63, u64, u65, u66, u67, u68, u69, u70, u71, u72, u73, u74, u75, u76, u77, u78, u79, u80, u81, u82, u83, u84, u85, u86, u87, u88, u89, u90, u91, u92, u93, u94, u95, u96, u97, u98, u99, u100, u101, u102, u103, u104, u105, u106, u107, u108, u109, u110, u111, u112, u113, u114, u115, u116, u117, u118, u119, u120, u121, u122, u123, u124, u125, u126, u127, u128, u129, u130, u131, u132, u133, u134, u135, u136, u137, u138, u139, u140, u141, u142, u143, u144, u145, u146, u147, u148, u149, u150, u151, u152, u153, u154, u155, u156, u157, u158, u159, u160, u161, u162, u163, u164, u165, u166, u167, u168, u169, u170, u171, u172, u173, u174, u175, u176, u177, u178, u179, u180, u181, u182, u183, u184, u185, u186, u187, u188, u189, u190, u191, u192, u193, u194, u195, u196, u197, u198, u199, u200, u201, u202, u203, u204, u205, u206, u207, u208, u209, u210, u211, u212, u213, u214, u215, u216, u217, u218], []⟩ wr := by
  have b36' := b36
  obtain ⟨nA, aA, lA, cA, A, hHA, hRA, hEA⟩ := b36'
  obtain ⟨kA0, kA1, _, _⟩ := two_cells hHA
  have HEA := hid hEA
  clear hEA hHA
  have b38' := b38
  obtain ⟨nB, aB, lB, cB, B, hHB, hRB, hEB⟩ := b38'
  obtain ⟨kB0, kB1, _, _⟩ := two_cells hHB
  have HEB := hid hEB
  clear hEB hHB
  show Code.wp Tryd.prog (Code.seq (head14 23) (tail14 24)) _ _ _
  conv => arg 2; arg 1; whnf
  go_wp2_with fail
  refine (same_yes _ 0 hRA hRB (by rw [HEA.out, HEB.out]; exact gcd_eight _ _)).mono ?_
  rintro e w2 ⟨rfl, hb2⟩
  go_wp2
  exact SF_24 hr la lb hd hz (hb.trans (hb2.mono hb.size)) h0 o4 o8 o10 o13 o15 o18 o19 o21 o24 o26 o27 o29 o30 o32 o34 o36 o38 (b3.keep hb2) (b4.keep hb2) (b8.keep hb2) (b10.keep hb2) (b13.keep hb2) (b15.keep hb2) (b18.keep hb2) (b19.keep hb2) (b21.keep hb2) (b24.keep hb2) (b26.keep hb2) (b27.keep hb2) (b29.keep hb2) (b30.keep hb2) (b32.keep hb2) (b34.keep hb2) (b36.keep hb2) (b38.keep hb2)

set_option maxRecDepth 100000 in
set_option maxHeartbeats 2000000 in
theorem SF_22 {r : Nat} {w wr : World} {g3 g4 g8 g10 g13 g15 g18 g19 g21 g24 g26 g27 g29 g30 g32 g34 g36 : Nat} {u0 u1 u5 u6 u28 u31 u33 u35 u38 u39 u40 u41 u42 u43 u44 u45 u46 u47 u48 u49 u50 u51 u52 u53 u54 u55 u56 u57 u58 u59 u60 u61 u62 u63 u64 u65 u66 u67 u68 u69 u70 u71 u72 u73 u74 u75 u76 u77 u78 u79 u80 u81 u82 u83 u84 u85 u86 u87 u88 u89 u90 u91 u92 u93 u94 u95 u96 u97 u98 u99 u100 u101 u102 u103 u104 u105 u106 u107 u108 u109 u110 u111 u112 u113 u114 u115 u116 u117 u118 u119 u120 u121 u122 u123 u124 u125 u126 u127 u128 u129 u130 u131 u132 u133 u134 u135 u136 u137 u138 u139 u140 u141 u142 u143 u144 u145 u146 u147 u148 u149 u150 u151 u152 u153 u154 u155 u156 u157 u158 u159 u160 u161 u162 u163 u164 u165 u166 u167 u168 u169 u170 u171 u172 u173 u174 u175 u176 u177 u178 u179 u180 u181 u182 u183 u184 u185 u186 u187 u188 u189 u190 u191 u192 u193 u194 u195 u196 u197 u198 u199 u200 u201 u202 u203 u204 u205 u206 u207 u208 u209 u210 u211 u212 u213 u214 u215 u216 u217 u218 : Value} {va vb vd vm vq vp : Int}
    (hr : r < 900) (la : Lt 1920 va) (lb : Lt 1920 vb) (hd : Hid (Floors va ((2 : Int) ^ r) vd vm)) (hz : Hid (gcdi va vb ≠ 0))
    (hb : Below w.heap.size w wr) (h0 : w.heap.size ≤ g3)
    (o4 : g3 < g4) (o8 : g4 < g8) (o10 : g8 < g10) (o13 : g10 < g13) (o15 : g13 < g15) (o18 : g15 < g18) (o19 : g18 < g19) (o21 : g19 < g21) (o24 : g21 < g24) (o26 : g24 < g26) (o27 : g26 < g27) (o29 : g27 < g29) (o30 : g29 < g30) (o32 : g30 < g32) (o34 : g32 < g34) (o36 : g34 < g36)
    (b3 : Bx wr g3 (va)) (b4 : Bx wr g4 (vb)) (b8 : Bx wr g8 (va * (2 : Int) ^ r)) (b10 : Bx wr g10 (va)) (b13 : Bx wr g13 ((2 : Int) ^ r)) (b15 : Bx wr g15 (va * (2 : Int) ^ r)) (b18 : Bx wr g18 (vd)) (b19 : Bx wr g19 (vm)) (b21 : Bx wr g21 (va / (2 : Int) ^ r)) (b24 : Bx wr g24 (gcdi va vb)) (b26 : Bx wr g26 (vq)) (b27 : Bx wr g27 (0)) (b29 : Bx wr g29 (vp)) (b30 : Bx wr g30 (0)) (b32 : Bx wr g32 (va * 8)) (b34 : Bx wr g34 (vb * 8)) (b36 : Bx wr g36 (gcdi (va * 8) (vb * 8))) :
    Code.wp Tryd.prog (tail14 22) (Q14 w) ⟨#[u0, u1, .int .i64 (r : Int), .pointer (some ⟨g3, 0, none⟩), .pointer (some ⟨g4, 0, none⟩), u5, u6, .bool true, .pointer (some ⟨g8, 0, none⟩), .int .i64 0, .pointer (some ⟨g10, 0, none⟩), .int .i64 0, .bool true, .pointer (some ⟨g13, 0, none⟩), .int .i64 0, .pointer (some ⟨g15, 0, none⟩), .int .i64 0, .bool true, .pointer (some ⟨g18, 0, none⟩), .pointer (some ⟨g19, 0, none⟩), .int .i64 0, .pointer (some ⟨g21, 0, none⟩), .int .i64 0, .bool true, .pointer (some ⟨g24, 0, none⟩), .int .i64 0, .pointer (some ⟨g26, 0, none⟩), .pointer (some ⟨g27, 0, none⟩), u28, .pointer (some ⟨g29, 0, none⟩), .pointer (some ⟨g30, 0, none⟩), u31, .pointer (some ⟨g32, 0, none⟩), u33, .pointer (some ⟨g34, 0, none⟩), u35, .pointer (some ⟨g36, 0, none⟩), .int .i64 0, u38, u39, u40, u41, u42, u43, u44, u45, u46, u47, u48, u49, u50, u51, u52, u53, u54, u55, u56, u57, u58, u59, u60, u61, u62, u63, u64, u65, u66, u67, u68, u69, u70, u71, u72, u73, u74, u75, u76, u77, u78, u79, u80, u81, u82, u83, u84, u85, u86, u87, u88, u89, u90, u91, u92, u93, u94, u95, u96, u97, u98, u99, u100, u101, u102, u103, u104, u105, u106, u107, u108, u109, u110, u111, u112, u113, u114, u115, u116, u117, u118, u119, u120, u121, u122, u123, u124, u125, u126, u127, u128, u129, u130, u131, u132, u133, u134, u135, u136, u137, u138, u139, u140, u141, u142, u143, u144, u145, u146, u147, u148, u149, u150, u151, u152, u153, u154, u155, u156, u157, u158, u159, u160, u161, u162, u163, u164, u165, u166, u167, u168, u169, u170, u171, u172, u173, u174, u175, u176, u177, u178, u179, u180, u181, u182, u183, u184, u185, u186, u187, u188, u189, u190, u191, u192, u193, u194, u195, u196, u197, u198, u199, u200, u201, u202, u203, u204, u205, u206, u207, u208, u209, u210, u211, u212, u213, u214, u215, u216, u217, u218], []⟩ wr := by
  have b24' := b24
  obtain ⟨nA, aA, lA, cA, A, hHA, hRA, hEA⟩ := b24'
  obtain ⟨kA0, kA1, _, _⟩ := two_cells hHA
  have HEA := hid hEA
  clear hEA hHA
  show Code.wp Tryd.prog (Code.seq (head14 22) (tail14 23)) _ _ _
  conv => arg 2; arg 1; whnf
  go_wp2_with fail
  refine (shift_three_ok _ hRA HEA.out (Lt.sm (lt_gcd la lb) (by decide)) (Lt.sm (lt_eight (lt_gcd la lb)) (by decide))).mono ?_
  rintro e w2 ⟨n2, ao2, len2, C2, rfl, hR2, hE2, hb2⟩
  have HE2 := hid hE2
  clear hE2
  go_wp2
  have hlast : g36 < w2.heap.size := (b36.keep hb2).lt
  have hb3 := hb.trans (hb2.mono hb.size)
  exact SF_23 hr la lb hd hz (hb3.alloc hb3.size _) h0 o4 o8 o10 o13 o15 o18 o19 o21 o24 o26 o27 o29 o30 o32 o34 o36 hlast ((b3.keep hb2).alloc _) ((b4.keep hb2).alloc _) ((b8.keep hb2).alloc _) ((b10.keep hb2).alloc _) ((b13.keep hb2).alloc _) ((b15.keep hb2).alloc _) ((b18.keep hb2).alloc _) ((b19.keep hb2).alloc _) ((b21.keep hb2).alloc _) ((b24.keep hb2).alloc _) ((b26.keep hb2).alloc _) ((b27.keep hb2).alloc _) ((b29.keep hb2).alloc _) ((b30.keep hb2).alloc _) ((b32.keep hb2).alloc _) ((b34.keep hb2).alloc _) ((b36.keep hb2).alloc _) (Bx.new hR2 HE2.out)

set_option maxRecDepth 100000 in
set_option maxHeartbeats 2000000 in
theorem SF_21 {r : Nat} {w wr : World} {g3 g4 g8 g10 g13 g15 g18 g19 g21 g24 g26 g27 g29 g30 g32 g34 : Nat} {u0 u1 u5 u6 u28 u31 u33 u35 u36 u37 u38 u39 u40 u41 u42 u43 u44 u45 u46 u47 u48 u49 u50 u51 u52 u53 u54 u55 u56 u57 u58 u59 u60 u61 u62 u63 u64 u65 u66 u67 u68 u69 u70 u71 u72 u73 u74 u75 u76 u77 u78 u79 u80 u81 u82 u83 u84 u85 u86 u87 u88 u89 u90 u91 u92 u93 u94 u95 u96 u97 u98 u99 u100 u101 u102 u103 u104 u105 u106 u107 u108 u109 u110 u111 u112 u113 u114 u115 u116 u117 u118 u119 u120 u121 u122 u123 u124 u125 u126 u127 u128 u129 u130 u131 u132 u133 u134 u135 u136 u137 u138 u139 u140 u141 u142 u143 u144 u145 u146 u147 u148 u149 u150 u151 u152 u153 u154 u155 u156 u157 u158 u159 u160 u161 u162 u163 u164 u165 u166 u167 u168 u169 u170 u171 u172 u173 u174 u175 u176 u177 u178 u179 u180 u181 u182 u183 u184 u185 u186 u187 u188 u189 u190 u191 u192 u193 u194 u195 u196 u197 u198 u199 u200 u201 u202 u203 u204 u205 u206 u207 u208 u209 u210 u211 u212 u213 u214 u215 u216 u217 u218 : Value} {va vb vd vm vq vp : Int}
    (hr : r < 900) (la : Lt 1920 va) (lb : Lt 1920 vb) (hd : Hid (Floors va ((2 : Int) ^ r) vd vm)) (hz : Hid (gcdi va vb ≠ 0))
    (hb : Below w.heap.size w wr) (h0 : w.heap.size ≤ g3)
    (o4 : g3 < g4) (o8 : g4 < g8) (o10 : g8 < g10) (o13 : g10 < g13) (o15 : g13 < g15) (o18 : g15 < g18) (o19 : g18 < g19) (o21 : g19 < g21) (o24 : g21 < g24) (o26 : g24 < g26) (o27 : g26 < g27) (o29 : g27 < g29) (o30 : g29 < g30) (o32 : g30 < g32) (o34 : g32 < g34)
    (b3 : Bx wr g3 (va)) (b4 : Bx wr g4 (vb)) (b8 : Bx wr g8 (va * (2 : Int) ^ r)) (b10 : Bx wr g10 (va)) (b13 : Bx wr g13 ((2 : Int) ^ r)) (b15 : Bx wr g15 (va * (2 : Int) ^ r)) (b18 : Bx wr g18 (vd)) (b19 : Bx wr g19 (vm)) (b21 : Bx wr g21 (va / (2 : Int) ^ r)) (b24 : Bx wr g24 (gcdi va vb)) (b26 : Bx wr g26 (vq)) (b27 : Bx wr g27 (0)) (b29 : Bx wr g29 (vp)) (b30 : Bx wr g30 (0)) (b32 : Bx wr g32 (va * 8)) (b34 : Bx wr g34 (vb * 8)) :
    Code.wp Tryd.prog (tail14 21) (Q14 w) ⟨#[u0, u1, .int .i64 (r : Int), .pointer (some ⟨g3, 0, none⟩), .pointer (some ⟨g4, 0, none⟩), u5, u6, .bool true, .pointer (some ⟨g8, 0, none⟩), .int .i64 0, .pointer (some ⟨g10, 0, none⟩), .int .i64 0, .bool true, .pointer (some ⟨g13, 0, none⟩), .int .i64 0, .pointer (some ⟨g15, 0, none⟩), .int .i64 0, .bool true, .pointer (some ⟨g18, 0, none⟩), .pointer (some ⟨g19, 0, none⟩), .int .i64 0, .pointer (some ⟨g21, 0, none⟩), .int .i64 0, .bool true, .pointer (some ⟨g24, 0, none⟩), .int .i64 0, .pointer (some ⟨g26, 0, none⟩), .pointer (some ⟨g27, 0, none⟩), u28, .pointer (some ⟨g29, 0, none⟩), .pointer (some ⟨g30, 0, none⟩), u31, .pointer (some ⟨g32, 0, none⟩), u33, .pointer (some ⟨g34, 0, none⟩), u35, u36, u37, u38, u39, u40, u41, u42, u43, u44, u45, u46, u47, u48, u49, u50, u51, u52, u53, u54, u55, u56, u57, u58, u59, u60, u61, u62, u63, u64, u65, u66, u67, u68, u69, u70, u71, u72, u73, u74, u75, u76, u77, u78, u79, u80, u81, u82, u83, u84, u85, u86, u87, u88, u89, u90, u91, u92, u93, u94, u95, u96, u97, u98, u99, u100, u101, u102, u103, u104, u105, u106, u107, u108, u109, u110, u111, u112, u113, u114, u115, u116, u117, u118, u119, u120, u121, u122, u123, u124, u125, u126, u127, u128, u129, u130, u131, u132, u133, u134, u135, u136, u137, u138, u139, u140, u141, u142, u143, u144, u145, u146, u147, u148, u149, u150, u151, u152, u153, u154, u155, u156, u157, u158, u159, u160, u161, u162, u163, u164, u165, u166, u167, u168, u169, u170, u171, u172, u173, u174, u175, u176, u177, u178, u179, u180, u181, u182, u183, u184, u185, u186, u187, u188, u189, u190, u191, u192, u193, u194, u195, u196, u197, u198, u199, u200, u201, u202, u203, u204, u205, u206, u207, u208, u209, u210, u211, u212, u213, u214, u215, u216, u217, u218], []⟩ wr := by
  have b32' := b32
  obtain ⟨nA, aA, lA, cA, A, hHA, hRA, hEA⟩ := b32'
  obtain ⟨kA0, kA1, _, _⟩ := two_cells hHA
  have HEA := hid hEA
  clear hEA hHA
  have b34' := b34
  obtain ⟨nB, aB, lB, cB, B, hHB, hRB, hEB⟩ := b34'
  obtain ⟨kB0, kB1, _, _⟩ := two_cells hHB
  have HEB := hid hEB
  clear hEB hHB
  show Code.wp Tryd.prog (Code.seq (head14 21) (tail14 22)) _ _ _
  conv => arg 2; arg 1; whnf
  go_wp2_with fail
  refine (gcd_ok _ hRA hRB HEA.out HEB.out ((lt_eight la).sm (by decide)) ((lt_eight lb).sm (by decide)) ((lt_gcd (lt_eight la) (lt_eight lb)).sm (by decide))).mono ?_
  rintro e w2 ⟨n2, ao2, len2, C2, rfl, hR2, hE2, hb2⟩
  have HE2 := hid hE2
  clear hE2
  go_wp2
  have hlast : g34 < w2.heap.size := (b34.keep hb2).lt
  have hb3 := hb.trans (hb2.mono hb.size)
  exact SF_22 hr la lb hd hz (hb3.alloc hb3.size _) h0 o4 o8 o10 o13 o15 o18 o19 o21 o24 o26 o27 o29 o30 o32 o34 hlast ((b3.keep hb2).alloc _) ((b4.keep hb2).alloc _) ((b8.keep hb2).alloc _) ((b10.keep hb2).alloc _) ((b13.keep hb2).alloc _) ((b15.keep hb2).alloc _) ((b18.keep hb2).alloc _) ((b19.keep hb2).alloc _) ((b21.keep hb2).alloc _) ((b24.keep hb2).alloc _) ((b26.keep hb2).alloc _) ((b27.keep hb2).alloc _) ((b29.keep hb2).alloc _) ((b30.keep hb2).alloc _) ((b32.keep hb2).alloc _) ((b34.keep hb2).alloc _) (Bx.new hR2 HE2.out)

set_option maxRecDepth 100000 in
set_option maxHeartbeats 2000000 in
theorem SF_20 {r : Nat} {w wr : World} {g3 g4 g8 g10 g13 g15 g18 g19 g21 g24 g26 g27 g29 g30 g32 : Nat} {u0 u1 u5 u6 u28 u31 u33 u34 u35 u36 u37 u38 u39 u40 u41 u42 u43 u44 u45 u46 u47 u48 u49 u50 u51 u52 u53 u54 u55 u56 u57 u58 u59 u60 u61 u62 u63 u64 u65 u66 u67 u68 u69 u70 u71 u72 u73 u74 u75 u76 u77 u78 u79 u80 u81 u82 u83 u84 u85 u86 u87 u88 u89 u90 u91 u92 u93 u94 u95 u96 u97 u98 u99 u100 u101 u102 u103 u104 u105 u106 u107 u108 u109 u110 u111 u112 u113 u114 u115 u116 u117 u118 u119 u120 u121 u122 u123 u124 u125 u126 u127 u128 u129 u130 u131 u132 u133 u134 u135 u136 u137 u138 u139 u140 u141 u142 u143 u144 u145 u146 u147 u148 u149 u150 u151 u152 u153 u154 u155 u156 u157 u158 u159 u160 u161 u162 u163 u164 u165 u166 u167 u168 u169 u170 u171 u172 u173 u174 u175 u176 u177 u178 u179 u180 u181 u182 u183 u184 u185 u186 u187 u188 u189 u190 u191 u192 u193 u194 u195 u196 u197 u198 u199 u200 u201 u202 u203 u204 u205 u206 u207 u208 u209 u210 u211 u212 u213 u214 u215 u216 u217 u218 : Value} {va vb vd vm vq vp : Int}
    (hr : r < 900) (la : Lt 1920 va) (lb : Lt 1920 vb) (hd : Hid (Floors va ((2 : Int) ^ r) vd vm)) (hz : Hid (gcdi va vb ≠ 0))
    (hb : Below w.heap.size w wr) (h0 : w.heap.size ≤ g3)
    (o4 : g3 < g4) (o8 : g4 < g8) (o10 : g8 < g10) (o13 : g10 < g13) (o15 : g13 < g15) (o18 : g15 < g18) (o19 : g18 < g19) (o21 : g19 < g21) (o24 : g21 < g24) (o26 : g24 < g26) (o27 : g26 < g27) (o29 : g27 < g29) (o30 : g29 < g30) (o32 : g30 < g32)
    (b3 : Bx wr g3 (va)) (b4 : Bx wr g4 (vb)) (b8 : Bx wr g8 (va * (2 : Int) ^ r)) (b10 : Bx wr g10 (va)) (b13 : Bx wr g13 ((2 : Int) ^ r)) (b15 : Bx wr g15 (va * (2 : Int) ^ r)) (b18 : Bx wr g18 (vd)) (b19 : Bx wr g19 (vm)) (b21 : Bx wr g21 (va / (2 : Int) ^ r)) (b24 : Bx wr g24 (gcdi va vb)) (b26 : Bx wr g26 (vq)) (b27 : Bx wr g27 (0)) (b29 : Bx wr g29 (vp)) (b30 : Bx wr g30 (0)) (b32 : Bx wr g32 (va * 8)) :
    Code.wp Tryd.prog (tail14 20) (Q14 w) ⟨#[u0, u1, .int .i64 (r : Int), .pointer (some ⟨g3, 0, none⟩), .pointer (some ⟨g4, 0, none⟩), u5, u6, .bool true, .pointer (some ⟨g8, 0, none⟩), .int .i64 0, .pointer (some ⟨g10, 0, none⟩), .int .i64 0, .bool true, .pointer (some ⟨g13, 0, none⟩), .int .i64 0, .pointer (some ⟨g15, 0, none⟩), .int .i64 0, .bool true, .pointer (some ⟨g18, 0, none⟩), .pointer (some ⟨g19, 0, none⟩), .int .i64 0, .pointer (some ⟨g21, 0, none⟩), .int .i64 0, .bool true, .pointer (some ⟨g24, 0, none⟩), .int .i64 0, .pointer (some ⟨g26, 0, none⟩), .pointer (some ⟨g27, 0, none⟩), u28, .pointer (some ⟨g29, 0, none⟩), .pointer (some ⟨g30, 0, none⟩), u31, .pointer (some ⟨g32, 0, none⟩), u33, u34, u35, u36, u37, u38, u39, u40, u41, u42, u43, u44, u45, u46, u47, u48, u49, u50, u51, u52, u53, u54, u55, u56, u57, u58, u59, u60, u61, u62, u63, u64, u65, u66, u67, u68, u69, u70, u71, u72, u73, u74, u75, u76, u77, u78, u79, u80, u81, u82, u83, u84, u85, u86, u87, u88, u89, u90, u91, u92, u93, u94, u95, u96, u97, u98, u99, u100, u101, u102, u103, u104, u105, u106, u107, u108, u109, u110, u111, u112, u113, u114, u115, u116, u117, u118, u119, u120, u121, u122, u123, u124, u125, u126, u127, u128, u129, u130, u131, u132, u133, u134, u135, u136, u137, u138, u139, u140, u141, u142, u143, u144, u145, u146, u147, u148, u149, u150, u151, u152, u153, u154, u155, u156, u157, u158, u159, u160, u161, u162, u163, u164, u165, u166, u167, u168, u169, u170, u171, u172, u173, u174, u175, u176, u177, u178, u179, u180, u181, u182, u183, u184, u185, u186, u187, u188, u189, u190, u191, u192, u193, u194, u195, u196, u197, u198, u199, u200, u201, u202, u203, u204, u205, u206, u207, u208, u209, u210, u211, u212, u213, u214, u215, u216, u217, u218], []⟩ wr := by
  have b4' := b4
  obtain ⟨nA, aA, lA, cA, A, hHA, hRA, hEA⟩ := b4'
  obtain ⟨kA0, kA1, _, _⟩ := two_cells hHA
  have HEA := hid hEA
  clear hEA hHA
  show Code.wp Tryd.prog (Code.seq (head14 20) (tail14 21)) _ _ _
  conv => arg 2; arg 1; whnf
  go_wp2_with fail
  refine (shift_three_ok _ hRA HEA.out (Lt.sm (lb) (by decide)) (Lt.sm (lt_eight lb) (by decide))).mono ?_
  rintro e w2 ⟨n2, ao2, len2, C2, rfl, hR2, hE2, hb2⟩
  have HE2 := hid hE2
  clear hE2
  go_wp2
  have hlast : g32 < w2.heap.size := (b32.keep hb2).lt
  have hb3 := hb.trans (hb2.mono hb.size)
  exact SF_21 hr la lb hd hz (hb3.alloc hb3.size _) h0 o4 o8 o10 o13 o15 o18 o19 o21 o24 o26 o27 o29 o30 o32 hlast ((b3.keep hb2).alloc _) ((b4.keep hb2).alloc _) ((b8.keep hb2).alloc _) ((b10.keep hb2).alloc _) ((b13.keep hb2).alloc _) ((b15.keep hb2).alloc _) ((b18.keep hb2).alloc _) ((b19.keep hb2).alloc _) ((b21.keep hb2).alloc _) ((b24.keep hb2).alloc _) ((b26.keep hb2).alloc _) ((b27.keep hb2).alloc _) ((b29.keep hb2).alloc _) ((b30.keep hb2).alloc _) ((b32.keep hb2).alloc _) (Bx.new hR2 HE2.out)

set_option maxRecDepth 100000 in
set_option maxHeartbeats 2000000 in
theorem SF_19 {r : Nat} {w wr : World} {g3 g4 g8 g10 g13 g15 g18 g19 g21 g24 g26 g27 g29 g30 : Nat} {u0 u1 u5 u6 u28 u31 u32 u33 u34 u35 u36 u37 u38 u39 u40 u41 u42 u43 u44 u45 u46 u47 u48 u49 u50 u51 u52 u53 u54 u55 u56 u57 u58 u59 u60 u61 u62 u63 u64 u65 u66 u67 u68 u69 u70 u71 u72 u73 u74 u75 u76 u77 u78 u79 u80 u81 u82 u83 u84 u85 u86 u87 u88 u89 u90 u91 u92 u93 u94 u95 u96 u97 u98 u99 u100 u101 u102 u103 u104 u105 u106 u107 u108 u109 u110 u111 u112 u113 u114 u115 u116 u117 u118 u119 u120 u121 u122 u123 u124 u125 u126 u127 u128 u129 u130 u131 u132 u133 u134 u135 u136 u137 u138 u139 u140 u141 u142 u143 u144 u145 u146 u147 u148 u149 u150 u151 u152 u153 u154 u155 u156 u157 u158 u159 u160 u161 u162 u163 u164 u165 u166 u167 u168 u169 u170 u171 u172 u173 u174 u175 u176 u177 u178 u179 u180 u181 u182 u183 u184 u185 u186 u187 u188 u189 u190 u191 u192 u193 u194 u195 u196 u197 u198 u199 u200 u201 u202 u203 u204 u205 u206 u207 u208 u209 u210 u211 u212 u213 u214 u215 u216 u217 u218 : Value} {va vb vd vm vq vp : Int}
    (hr : r < 900) (la : Lt 1920 va) (lb : Lt 1920 vb) (hd : Hid (Floors va ((2 : Int) ^ r) vd vm)) (hz : Hid (gcdi va vb ≠ 0))
    (hb : Below w.heap.size w wr) (h0 : w.heap.size ≤ g3)
    (o4 : g3 < g4) (o8 : g4 < g8) (o10 : g8 < g10) (o13 : g10 < g13) (o15 : g13 < g15) (o18 : g15 < g18) (o19 : g18 < g19) (o21 : g19 < g21) (o24 : g21 < g24) (o26 : g24 < g26) (o27 : g26 < g27) (o29 : g27 < g29) (o30 : g29 < g30)
    (b3 : Bx wr g3 (va)) (b4 : Bx wr g4 (vb)) (b8 : Bx wr g8 (va * (2 : Int) ^ r)) (b10 : Bx wr g10 (va)) (b13 : Bx wr g13 ((2 : Int) ^ r)) (b15 : Bx wr g15 (va * (2 : Int) ^ r)) (b18 : Bx wr g18 (vd)) (b19 : Bx wr g19 (vm)) (b21 : Bx wr g21 (va / (2 : Int) ^ r)) (b24 : Bx wr g24 (gcdi va vb)) (b26 : Bx wr g26 (vq)) (b27 : Bx wr g27 (0)) (b29 : Bx wr g29 (vp)) (b30 : Bx wr g30 (0)) :
    Code.wp Tryd.prog (tail14 19) (Q14 w) ⟨#[u0, u1, .int .i64 (r : Int), .pointer (some ⟨g3, 0, none⟩), .pointer (some ⟨g4, 0, none⟩), u5, u6, .bool true, .pointer (some ⟨g8, 0, none⟩), .int .i64 0, .pointer (some ⟨g10, 0, none⟩), .int .i64 0, .bool true, .pointer (some ⟨g13, 0, none⟩), .int .i64 0, .pointer (some ⟨g15, 0, none⟩), .int .i64 0, .bool true, .pointer (some ⟨g18, 0, none⟩), .pointer (some ⟨g19, 0, none⟩), .int .i64 0, .pointer (some ⟨g21, 0, none⟩), .int .i64 0, .bool true, .pointer (some ⟨g24, 0, none⟩), .int .i64 0, .pointer (some ⟨g26, 0, none⟩), .pointer (some ⟨g27, 0, none⟩), u28, .pointer (some ⟨g29, 0, none⟩), .pointer (some ⟨g30, 0, none⟩), u31, u32, u33, u34, u35, u36, u37, u38, u39, u40, u41, u42, u43, u44, u45, u46, u47, u48, u49, u50, u51, u52, u53, u54, u55, u56, u57, u58, u59, u60, u61, u62, u63, u64, u65, u66, u67, u68, u69, u70, u71, u72, u73, u74, u75, u76, u77, u78, u79, u80, u81, u82, u83, u84, u85, u86, u87, u88, u89, u90, u91, u92, u93, u94, u95, u96, u97, u98, u99, u100, u101, u102, u103, u104, u105, u106, u107, u108, u109, u110, u111, u112, u113, u114, u115, u116, u117, u118, u119, u120, u121, u122, u123, u124, u125, u126, u127, u128, u129, u130, u131, u132, u133, u134, u135, u136, u137, u138, u139, u140, u141, u142, u143, u144, u145, u146, u147, u148, u149, u150, u151, u152, u153, u154, u155, u156, u157, u158, u159, u160, u161, u162, u163, u164, u165, u166, u167, u168, u169, u170, u171, u172, u173, u174, u175, u176, u177, u178, u179, u180, u181, u182, u183, u184, u185, u186, u187, u188, u189, u190, u191, u192, u193, u194, u195, u196, u197, u198, u199, u200, u201, u202, u203, u204, u205, u206, u207, u208, u209, u210, u211, u212, u213, u214, u215, u216, u217, u218], []⟩ wr := by
  have b3' := b3
  obtain ⟨nA, aA, lA, cA, A, hHA, hRA, hEA⟩ := b3'
  obtain ⟨kA0, kA1, _, _⟩ := two_cells hHA
  have HEA := hid hEA
  clear hEA hHA
  show Code.wp Tryd.prog (Code.seq (head14 19) (tail14 20)) _ _ _
  conv => arg 2; arg 1; whnf
  go_wp2_with fail
  refine (shift_three_ok _ hRA HEA.out (Lt.sm (la) (by decide)) (Lt.sm (lt_eight la) (by decide))).mono ?_
  rintro e w2 ⟨n2, ao2, len2, C2, rfl, hR2, hE2, hb2⟩
  have HE2 := hid hE2
  clear hE2
  go_wp2
  have hlast : g30 < w2.heap.size := (b30.keep hb2).lt
  have hb3 := hb.trans (hb2.mono hb.size)
  exact SF_20 hr la lb hd hz (hb3.alloc hb3.size _) h0 o4 o8 o10 o13 o15 o18 o19 o21 o24 o26 o27 o29 o30 hlast ((b3.keep hb2).alloc _) ((b4.keep hb2).alloc _) ((b8.keep hb2).alloc _) ((b10.keep hb2).alloc _) ((b13.keep hb2).alloc _) ((b15.keep hb2).alloc _) ((b18.keep hb2).alloc _) ((b19.keep hb2).alloc _) ((b21.keep hb2).alloc _) ((b24.keep hb2).alloc _) ((b26.keep hb2).alloc _) ((b27.keep hb2).alloc _) ((b29.keep hb2).alloc _) ((b30.keep hb2).alloc _) (Bx.new hR2 HE2.out)

set_option maxRecDepth 100000 in
set_option maxHeartbeats 2000000 in
theorem SF_18 {r : Nat} {w wr : World} {g3 g4 g8 g10 g13 g15 g18 g19 g21 g24 g26 g27 : Nat} {u0 u1 u5 u6 u28 u29 u30 u31 u32 u33 u34 u35 u36 u37 u38 u39 u40 u41 u42 u43 u44 u45 u46 u47 u48 u49 u50 u51 u52 u53 u54 u55 u56 u57 u58 u59 u60 u61 u62 u63 u64 u65 u66 u67 u68 u69 u70 u71 u72 u73 u74 u75 u76 u77 u78 u79 u80 u81 u82 u83 u84 u85 u86 u87 u88 u89 u90 u91 u92 u93 u94 u95 u96 u97 u98 u99 u100 u101 u102 u103 u104 u105 u106 u107 u108 u109 u110 u111 u112 u113 u114 u115 u116 u117 u118 u119 u120 u121 u122 u123 u124 u125 u126 u127 u128 u129 u130 u131 u132 u133 u134 u135 u136 u137 u138 u139 u140 u141 u142 u143 u144 u145 u146 u147 u148 u149 u150 u151 u152 u153 u154 u155 u156 u157 u158 u159 u160 u161 u162 u163 u164 u165 u166 u167 u168 u169 u170 u171 u172 u173 u174 u175 u176 u177 u178 u179 u180 u181 u182 u183 u184 u185 u186 u187 u188 u189 u190 u191 u192 u193 u194 u195 u196 u197 u198 u199 u200 u201 u202 u203 u204 u205 u206 u207 u208 u209 u210 u211 u212 u213 u214 u215 u216 u217 u218 : Value} {va vb vd vm vq : Int}
    (hr : r < 900) (la : Lt 1920 va) (lb : Lt 1920 vb) (hd : Hid (Floors va ((2 : Int) ^ r) vd vm)) (hz : Hid (gcdi va vb ≠ 0))
    (hb : Below w.heap.size w wr) (h0 : w.heap.size ≤ g3)
    (o4 : g3 < g4) (o8 : g4 < g8) (o10 : g8 < g10) (o13 : g10 < g13) (o15 : g13 < g15) (o18 : g15 < g18) (o19 : g18 < g19) (o21 : g19 < g21) (o24 : g21 < g24) (o26 : g24 < g26) (o27 : g26 < g27)
    (b3 : Bx wr g3 (va)) (b4 : Bx wr g4 (vb)) (b8 : Bx wr g8 (va * (2 : Int) ^ r)) (b10 : Bx wr g10 (va)) (b13 : Bx wr g13 ((2 : Int) ^ r)) (b15 : Bx wr g15 (va * (2 : Int) ^ r)) (b18 : Bx wr g18 (vd)) (b19 : Bx wr g19 (vm)) (b21 : Bx wr g21 (va / (2 : Int) ^ r)) (b24 : Bx wr g24 (gcdi va vb)) (b26 : Bx wr g26 (vq)) (b27 : Bx wr g27 (0)) :
    Code.wp Tryd.prog (tail14 18) (Q14 w) ⟨#[u0, u1, .int .i64 (r : Int), .pointer (some ⟨g3, 0, none⟩), .pointer (some ⟨g4, 0, none⟩), u5, u6, .bool true, .pointer (some ⟨g8, 0, none⟩), .int .i64 0, .pointer (some ⟨g10, 0, none⟩), .int .i64 0, .bool true, .pointer (some ⟨g13, 0, none⟩), .int .i64 0, .pointer (some ⟨g15, 0, none⟩), .int .i64 0, .bool true, .pointer (some ⟨g18, 0, none⟩), .pointer (some ⟨g19, 0, none⟩), .int .i64 0, .pointer (some ⟨g21, 0, none⟩), .int .i64 0, .bool true, .pointer (some ⟨g24, 0, none⟩), .int .i64 0, .pointer (some ⟨g26, 0, none⟩), .pointer (some ⟨g27, 0, none⟩), u28, u29, u30, u31, u32, u33, u34, u35, u36, u37, u38, u39, u40, u41, u42, u43, u44, u45, u46, u47, u48, u49, u50, u51, u52, u53, u54, u55, u56, u57, u58, u59, u60, u61, u62, u63, u64, u65, u66, u67, u68, u69, u70, u71, u72, u73, u74, u75, u76, u77, u78, u79, u80, u81, u82, u83, u84, u85, u86, u87, u88, u89, u90, u91, u92, u93, u94, u95, u96, u97, u98, u99, u100, u101, u102, u103, u104, u105, u106, u107, u108, u109, u110, u111, u112, u113, u114, u115, u116, u117, u118, u119, u120, u121, u122, u123, u124, u125, u126, u127, u128, u129, u130, u131, u132, u133, u134, u135, u136, u137, u138, u139, u140, u141, u142, u143, u144, u145, u146, u147, u148, u149, u150, u151, u152, u153, u154, u155, u156, u157, u158, u159, u160, u161, u162, u163, u164, u165, u166, u167, u168, u169, u170, u171, u172, u173, u174, u175, u176, u177, u178, u179, u180, u181, u182, u183, u184, u185, u186, u187, u188, u189, u190, u191, u192, u193, u194, u195, u196, u197, u198, u199, u200, u201, u202, u203, u204, u205, u206, u207, u208, u209, u210, u211, u212, u213, u214, u215, u216, u217, u218], []⟩ wr := by
  have b4' := b4
  obtain ⟨nA, aA, lA, cA, A, hHA, hRA, hEA⟩ := b4'
  obtain ⟨kA0, kA1, _, _⟩ := two_cells hHA
  have HEA := hid hEA
  clear hEA hHA
  have b24' := b24
  obtain ⟨nB, aB, lB, cB, B, hHB, hRB, hEB⟩ := b24'
  obtain ⟨kB0, kB1, _, _⟩ := two_cells hHB
  have HEB := hid hEB
  clear hEB hHB
  show Code.wp Tryd.prog (Code.seq (head14 18) (tail14 19)) _ _ _
  conv => arg 2; arg 1; whnf
  go_wp2_with fail
  refine (quoRem_ok _ hRA hRB HEA.out HEB.out (Lt.sm (lb) (by decide)) (Lt.sm (lt_gcd la lb) (by decide)) hz.out).mono ?_
  rintro e w2 ⟨nq, aq, lq2, Q2, nr, ar, lr2, R2, vp, vs, rfl, hRQ, hEQ, hRR, hER, hT, hb2⟩
  have HEQ := hid hEQ
  have HER := hid hER
  clear hEQ hER
  have hr0 := gcd_rem hT.out (gcd_right va vb)
  have HR0 := hid (HER.out.trans hr0)
  go_wp2
  have hlast : g27 < w2.heap.size := (b27.keep hb2).lt
  have hb3 := hb.trans (hb2.mono hb.size)
  exact SF_19 hr la lb hd hz ((hb3.alloc hb3.size _).alloc (by simp; have := hb3.size; omega) _) h0 o4 o8 o10 o13 o15 o18 o19 o21 o24 o26 o27 hlast (Nat.lt_succ_self _) (((b3.keep hb2).alloc _).alloc _) (((b4.keep hb2).alloc _).alloc _) (((b8.keep hb2).alloc _).alloc _) (((b10.keep hb2).alloc _).alloc _) (((b13.keep hb2).alloc _).alloc _) (((b15.keep hb2).alloc _).alloc _) (((b18.keep hb2).alloc _).alloc _) (((b19.keep hb2).alloc _).alloc _) (((b21.keep hb2).alloc _).alloc _) (((b24.keep hb2).alloc _).alloc _) (((b26.keep hb2).alloc _).alloc _) (((b27.keep hb2).alloc _).alloc _) ((Bx.new hRQ HEQ.out).alloc _) (Bx.new2 hRR HR0.out)

set_option maxRecDepth 100000 in
set_option maxHeartbeats 2000000 in
theorem SF_17 {r : Nat} {w wr : World} {g3 g4 g8 g10 g13 g15 g18 g19 g21 g24 : Nat} {u0 u1 u5 u6 u26 u27 u28 u29 u30 u31 u32 u33 u34 u35 u36 u37 u38 u39 u40 u41 u42 u43 u44 u45 u46 u47 u48 u49 u50 u51 u52 u53 u54 u55 u56 u57 u58 u59 u60 u61 u62 u63 u64 u65 u66 u67 u68 u69 u70 u71 u72 u73 u74 u75 u76 u77 u78 u79 u80 u81 u82 u83 u84 u85 u86 u87 u88 u89 u90 u91 u92 u93 u94 u95 u96 u97 u98 u99 u100 u101 u102 u103 u104 u105 u106 u107 u108 u109 u110 u111 u112 u113 u114 u115 u116 u117 u118 u119 u120 u121 u122 u123 u124 u125 u126 u127 u128 u129 u130 u131 u132 u133 u134 u135 u136 u137 u138 u139 u140 u141 u142 u143 u144 u145 u146 u147 u148 u149 u150 u151 u152 u153 u154 u155 u156 u157 u158 u159 u160 u161 u162 u163 u164 u165 u166 u167 u168 u169 u170 u171 u172 u173 u174 u175 u176 u177 u178 u179 u180 u181 u182 u183 u184 u185 u186 u187 u188 u189 u190 u191 u192 u193 u194 u195 u196 u197 u198 u199 u200 u201 u202 u203 u204 u205 u206 u207 u208 u209 u210 u211 u212 u213 u214 u215 u216 u217 u218 : Value} {va vb vd vm : Int}
    (hr : r < 900) (la : Lt 1920 va) (lb : Lt 1920 vb) (hd : Hid (Floors va ((2 : Int) ^ r) vd vm)) (hz : Hid (gcdi va vb ≠ 0))
    (hb : Below w.heap.size w wr) (h0 : w.heap.size ≤ g3)
    (o4 : g3 < g4) (o8 : g4 < g8) (o10 : g8 < g10) (o13 : g10 < g13) (o15 : g13 < g15) (o18 : g15 < g18) (o19 : g18 < g19) (o21 : g19 < g21) (o24 : g21 < g24)
    (b3 : Bx wr g3 (va)) (b4 : Bx wr g4 (vb)) (b8 : Bx wr g8 (va * (2 : Int) ^ r)) (b10 : Bx wr g10 (va)) (b13 : Bx wr g13 ((2 : Int) ^ r)) (b15 : Bx wr g15 (va * (2 : Int) ^ r)) (b18 : Bx wr g18 (vd)) (b19 : Bx wr g19 (vm)) (b21 : Bx wr g21 (va / (2 : Int) ^ r)) (b24 : Bx wr g24 (gcdi va vb)) :
    Code.wp Tryd.prog (tail14 17) (Q14 w) ⟨#[u0, u1, .int .i64 (r : Int), .pointer (some ⟨g3, 0, none⟩), .pointer (some ⟨g4, 0, none⟩), u5, u6, .bool true, .pointer (some ⟨g8, 0, none⟩), .int .i64 0, .pointer (some ⟨g10, 0, none⟩), .int .i64 0, .bool true, .pointer (some ⟨g13, 0, none⟩), .int .i64 0, .pointer (some ⟨g15, 0, none⟩), .int .i64 0, .bool true, .pointer (some ⟨g18, 0, none⟩), .pointer (some ⟨g19, 0, none⟩), .int .i64 0, .pointer (some ⟨g21, 0, none⟩), .int .i64 0, .bool true, .pointer (some ⟨g24, 0, none⟩), .int .i64 0, u26, u27, u28, u29, u30, u31, u32, u33, u34, u35, u36, u37, u38, u39, u40, u41, u42, u43, u44, u45, u46, u47, u48, u49, u50, u51, u52, u53, u54, u55, u56, u57, u58, u59, u60, u61, u62, u63, u64, u65, u66, u67, u68, u69, u70, u71, u72, u73, u74, u75, u76, u77, u78, u79, u80, u81, u82, u83, u84, u85, u86, u87, u88, u89, u90, u91, u92, u93, u94, u95, u96, u97, u98, u99, u100, u101, u102, u103, u104, u105, u106, u107, u108, u109, u110, u111, u112, u113, u114, u115, u116, u117, u118, u119, u120, u121, u122, u123, u124, u125, u126, u127, u128, u129, u130, u131, u132, u133, u134, u135, u136, u137, u138, u139, u140, u141, u142, u143, u144, u145, u146, u147, u148, u149, u150, u151, u152, u153, u154, u155, u156, u157, u158, u159, u160, u161, u162, u163, u164, u165, u166, u167, u168, u169, u170, u171, u172, u173, u174, u175, u176, u177, u178, u179, u180, u181, u182, u183, u184, u185, u186, u187, u188, u189, u190, u191, u192, u193, u194, u195, u196, u197, u198, u199, u200, u201, u202, u203, u204, u205, u206, u207, u208, u209, u210, u211, u212, u213, u214, u215, u216, u217, u218], []⟩ wr := by
  have b3' := b3
  obtain ⟨nA, aA, lA, cA, A, hHA, hRA, hEA⟩ := b3'
  obtain ⟨kA0, kA1, _, _⟩ := two_cells hHA
  have HEA := hid hEA
  clear hEA hHA
  have b24' := b24
  obtain ⟨nB, aB, lB, cB, B, hHB, hRB, hEB⟩ := b24'
  obtain ⟨kB0, kB1, _, _⟩ := two_cells hHB
  have HEB := hid hEB
  clear hEB hHB
  show Code.wp Tryd.prog (Code.seq (head14 17) (tail14 18)) _ _ _
  conv => arg 2; arg 1; whnf
  go_wp2_with fail
  refine (quoRem_ok _ hRA hRB HEA.out HEB.out (Lt.sm (la) (by decide)) (Lt.sm (lt_gcd la lb) (by decide)) hz.out).mono ?_
  rintro e w2 ⟨nq, aq, lq2, Q2, nr, ar, lr2, R2, vq, vr, rfl, hRQ, hEQ, hRR, hER, hT, hb2⟩
  have HEQ := hid hEQ
  have HER := hid hER
  clear hEQ hER
  have hr0 := gcd_rem hT.out (gcd_left va vb)
  have HR0 := hid (HER.out.trans hr0)
  go_wp2
  have hlast : g24 < w2.heap.size := (b24.keep hb2).lt
  have hb3 := hb.trans (hb2.mono hb.size)
  exact SF_18 hr la lb hd hz ((hb3.alloc hb3.size _).alloc (by simp; have := hb3.size; omega) _) h0 o4 o8 o10 o13 o15 o18 o19 o21 o24 hlast (Nat.lt_succ_self _) (((b3.keep hb2).alloc _).alloc _) (((b4.keep hb2).alloc _).alloc _) (((b8.keep hb2).alloc _).alloc _) (((b10.keep hb2).alloc _).alloc _) (((b13.keep hb2).alloc _).alloc _) (((b15.keep hb2).alloc _).alloc _) (((b18.keep hb2).alloc _).alloc _) (((b19.keep hb2).alloc _).alloc _) (((b21.keep hb2).alloc _).alloc _) (((b24.keep hb2).alloc _).alloc _) ((Bx.new hRQ HEQ.out).alloc _) (Bx.new2 hRR HR0.out)

set_option maxRecDepth 100000 in
set_option maxHeartbeats 2000000 in
theorem SF_16 {r : Nat} {w wr : World} {g3 g4 g8 g10 g13 g15 g18 g19 g21 g24 : Nat} {u0 u1 u5 u6 u26 u27 u28 u29 u30 u31 u32 u33 u34 u35 u36 u37 u38 u39 u40 u41 u42 u43 u44 u45 u46 u47 u48 u49 u50 u51 u52 u53 u54 u55 u56 u57 u58 u59 u60 u61 u62 u63 u64 u65 u66 u67 u68 u69 u70 u71 u72 u73 u74 u75 u76 u77 u78 u79 u80 u81 u82 u83 u84 u85 u86 u87 u88 u89 u90 u91 u92 u93 u94 u95 u96 u97 u98 u99 u100 u101 u102 u103 u104 u105 u106 u107 u108 u109 u110 u111 u112 u113 u114 u115 u116 u117 u118 u119 u120 u121 u122 u123 u124 u125 u126 u127 u128 u129 u130 u131 u132 u133 u134 u135 u136 u137 u138 u139 u140 u141 u142 u143 u144 u145 u146 u147 u148 u149 u150 u151 u152 u153 u154 u155 u156 u157 u158 u159 u160 u161 u162 u163 u164 u165 u166 u167 u168 u169 u170 u171 u172 u173 u174 u175 u176 u177 u178 u179 u180 u181 u182 u183 u184 u185 u186 u187 u188 u189 u190 u191 u192 u193 u194 u195 u196 u197 u198 u199 u200 u201 u202 u203 u204 u205 u206 u207 u208 u209 u210 u211 u212 u213 u214 u215 u216 u217 u218 : Value} {va vb vd vm : Int}
    (hr : r < 900) (la : Lt 1920 va) (lb : Lt 1920 vb) (hd : Hid (Floors va ((2 : Int) ^ r) vd vm))
    (hb : Below w.heap.size w wr) (h0 : w.heap.size ≤ g3)
    (o4 : g3 < g4) (o8 : g4 < g8) (o10 : g8 < g10) (o13 : g10 < g13) (o15 : g13 < g15) (o18 : g15 < g18) (o19 : g18 < g19) (o21 : g19 < g21) (o24 : g21 < g24)
    (b3 : Bx wr g3 (va)) (b4 : Bx wr g4 (vb)) (b8 : Bx wr g8 (va * (2 : Int) ^ r)) (b10 : Bx wr g10 (va)) (b13 : Bx wr g13 ((2 : Int) ^ r)) (b15 : Bx wr g15 (va * (2 : Int) ^ r)) (b18 : Bx wr g18 (vd)) (b19 : Bx wr g19 (vm)) (b21 : Bx wr g21 (va / (2 : Int) ^ r)) (b24 : Bx wr g24 (gcdi va vb)) :
    Code.wp Tryd.prog (tail14 16) (Q14 w) ⟨#[u0, u1, .int .i64 (r : Int), .pointer (some ⟨g3, 0, none⟩), .pointer (some ⟨g4, 0, none⟩), u5, u6, .bool true, .pointer (some ⟨g8, 0, none⟩), .int .i64 0, .pointer (some ⟨g10, 0, none⟩), .int .i64 0, .bool true, .pointer (some ⟨g13, 0, none⟩), .int .i64 0, .pointer (some ⟨g15, 0, none⟩), .int .i64 0, .bool true, .pointer (some ⟨g18, 0, none⟩), .pointer (some ⟨g19, 0, none⟩), .int .i64 0, .pointer (some ⟨g21, 0, none⟩), .int .i64 0, .bool true, .pointer (some ⟨g24, 0, none⟩), .int .i64 0, u26, u27, u28, u29, u30, u31, u32, u33, u34, u35, u36, u37, u38, u39, u40, u41, u42, u43, u44, u45, u46, u47, u48, u49, u50, u51, u52, u53, u54, u55, u56, u57, u58, u59, u60, u61, u62, u63, u64, u65, u66, u67, u68, u69, u70, u71, u72, u73, u74, u75, u76, u77, u78, u79, u80, u81, u82, u83, u84, u85, u86, u87, u88, u89, u90, u91, u92, u93, u94, u95, u96, u97, u98, u99, u100, u101, u102, u103, u104, u105, u106, u107, u108, u109, u110, u111, u112, u113, u114, u115, u116, u117, u118, u119, u120, u121, u122, u123, u124, u125, u126, u127, u128, u129, u130, u131, u132, u133, u134, u135, u136, u137, u138, u139, u140, u141, u142, u143, u144, u145, u146, u147, u148, u149, u150, u151, u152, u153, u154, u155, u156, u157, u158, u159, u160, u161, u162, u163, u164, u165, u166, u167, u168, u169, u170, u171, u172, u173, u174, u175, u176, u177, u178, u179, u180, u181, u182, u183, u184, u185, u186, u187, u188, u189, u190, u191, u192, u193, u194, u195, u196, u197, u198, u199, u200, u201, u202, u203, u204, u205, u206, u207, u208, u209, u210, u211, u212, u213, u214, u215, u216, u217, u218], []⟩ wr := by
  by_cases hz : gcdi va vb = 0
  · obtain ⟨hza, hzb⟩ := gcd_zero_both hz
    have b3' := b3
    obtain ⟨nA, aA, lA, cA, A, hHA, hRA, hEA⟩ := b3'
    have hSA : (num nA A).sign = 0 := by rw [hEA, hza]; rfl
    obtain ⟨kA0, kA1, _, _⟩ := two_cells hHA
    have HHA := hid hHA
    clear hEA hHA
    have b4' := b4
    obtain ⟨nB, aB, lB, cB, B, hHB, hRB, hEB⟩ := b4'
    have hSB : (num nB B).sign = 0 := by rw [hEB, hzb]; rfl
    obtain ⟨kB0, kB1, _, _⟩ := two_cells hHB
    have HHB := hid hHB
    clear hEB hHB
    have b24' := b24
    obtain ⟨nG, aG, lG, cG, G, hHG, hRG, hEG⟩ := b24'
    have hSG : (num nG G).sign = 0 := by rw [hEG, hz]; rfl
    obtain ⟨kG0, kG1, _, _⟩ := two_cells hHG
    have HHG := hid hHG
    clear hEG hHG
    have hacc : Below wr.heap.size wr wr := Below.refl _ _
    show Code.wp Tryd.prog (Code.seq (head14 16) (tail14 17)) _ _ _
    conv => arg 2; arg 1; whnf
    go_wp2_with (first
        | (go_at_call_of 28 cG; (with_reducible refine (sign_any nG aG lG cG G _ hRG).mono ?_); rintro e w5 ⟨rfl, hw5⟩; rw [hSG]; have hbk := below_new hw5; clear hw5; have hRA := hRA.keep hbk; have HHA := hid (heap_keep HHA.out hbk); obtain ⟨kA0, kA1, _, _⟩ := two_cells HHA.out; have hRB := hRB.keep hbk; have HHB := hid (heap_keep HHB.out hbk); obtain ⟨kB0, kB1, _, _⟩ := two_cells HHB.out; have hRG := hRG.keep hbk; have HHG := hid (heap_keep HHG.out hbk); obtain ⟨kG0, kG1, _, _⟩ := two_cells HHG.out; have hacc := hacc.trans (hbk.mono hacc.size))
        | (go_at_call_of 28 cA; (with_reducible refine (sign_any nA aA lA cA A _ hRA).mono ?_); rintro e w5 ⟨rfl, hw5⟩; rw [hSA]; have hbk := below_new hw5; clear hw5; have hRA := hRA.keep hbk; have HHA := hid (heap_keep HHA.out hbk); obtain ⟨kA0, kA1, _, _⟩ := two_cells HHA.out; have hRB := hRB.keep hbk; have HHB := hid (heap_keep HHB.out hbk); obtain ⟨kB0, kB1, _, _⟩ := two_cells HHB.out; have hRG := hRG.keep hbk; have HHG := hid (heap_keep HHG.out hbk); obtain ⟨kG0, kG1, _, _⟩ := two_cells HHG.out; have hacc := hacc.trans (hbk.mono hacc.size))
        | (go_at_call_of 28 cB; (with_reducible refine (sign_any nB aB lB cB B _ hRB).mono ?_); rintro e w5 ⟨rfl, hw5⟩; rw [hSB]; have hbk := below_new hw5; clear hw5; have hRA := hRA.keep hbk; have HHA := hid (heap_keep HHA.out hbk); obtain ⟨kA0, kA1, _, _⟩ := two_cells HHA.out; have hRB := hRB.keep hbk; have HHB := hid (heap_keep HHB.out hbk); obtain ⟨kB0, kB1, _, _⟩ := two_cells HHB.out; have hRG := hRG.keep hbk; have HHG := hid (heap_keep HHG.out hbk); obtain ⟨kG0, kG1, _, _⟩ := two_cells HHG.out; have hacc := hacc.trans (hbk.mono hacc.size)))
    unfold Q14
    go_ret
    exact ⟨rfl, hb.trans (hacc.mono hb.size)⟩
  · have b24' := b24
    obtain ⟨nG, aG, lG, cG, G, hHG, hRG, hEG⟩ := b24'
    obtain ⟨kG0, kG1, _, _⟩ := two_cells hHG
    have HEG := hid hEG
    clear hEG hHG
    show Code.wp Tryd.prog (Code.seq (head14 16) (tail14 17)) _ _ _
    conv => arg 2; arg 1; whnf
    go_wp2_with fail
    refine (sign_any nG aG lG cG G _ hRG).mono ?_
    rintro e w2 ⟨rfl, hw2⟩
    rw [HEG.out, gcd_sign hz]
    have hb2 := below_new hw2
    clear hw2
    have hz' := hid hz
    go_wp2
    exact SF_17 hr la lb hd hz' (hb.trans (hb2.mono hb.size)) h0 o4 o8 o10 o13 o15 o18 o19 o21 o24 (b3.keep hb2) (b4.keep hb2) (b8.keep hb2) (b10.keep hb2) (b13.keep hb2) (b15.keep hb2) (b18.keep hb2) (b19.keep hb2) (b21.keep hb2) (b24.keep hb2)

set_option maxRecDepth 100000 in
set_option maxHeartbeats 2000000 in
theorem SF_15 {r : Nat} {w wr : World} {g3 g4 g8 g10 g13 g15 g18 g19 g21 : Nat} {u0 u1 u5 u6 u24 u25 u26 u27 u28 u29 u30 u31 u32 u33 u34 u35 u36 u37 u38 u39 u40 u41 u42 u43 u44 u45 u46 u47 u48 u49 u50 u51 u52 u53 u54 u55 u56 u57 u58 u59 u60 u61 u62 u63 u64 u65 u66 u67 u68 u69 u70 u71 u72 u73 u74 u75 u76 u77 u78 u79 u80 u81 u82 u83 u84 u85 u86 u87 u88 u89 u90 u91 u92 u93 u94 u95 u96 u97 u98 u99 u100 u101 u102 u103 u104 u105 u106 u107 u108 u109 u110 u111 u112 u113 u114 u115 u116 u117 u118 u119 u120 u121 u122 u123 u124 u125 u126 u127 u128 u129 u130 u131 u132 u133 u134 u135 u136 u137 u138 u139 u140 u141 u142 u143 u144 u145 u146 u147 u148 u149 u150 u151 u152 u153 u154 u155 u156 u157 u158 u159 u160 u161 u162 u163 u164 u165 u166 u167 u168 u169 u170 u171 u172 u173 u174 u175 u176 u177 u178 u179 u180 u181 u182 u183 u184 u185 u186 u187 u188 u189 u190 u191 u192 u193 u194 u195 u196 u197 u198 u199 u200 u201 u202 u203 u204 u205 u206 u207 u208 u209 u210 u211 u212 u213 u214 u215 u216 u217 u218 : Value} {va vb vd vm : Int}
    (hr : r < 900) (la : Lt 1920 va) (lb : Lt 1920 vb) (hd : Hid (Floors va ((2 : Int) ^ r) vd vm))
    (hb : Below w.heap.size w wr) (h0 : w.heap.size ≤ g3)
    (o4 : g3 < g4) (o8 : g4 < g8) (o10 : g8 < g10) (o13 : g10 < g13) (o15 : g13 < g15) (o18 : g15 < g18) (o19 : g18 < g19) (o21 : g19 < g21)
    (b3 : Bx wr g3 (va)) (b4 : Bx wr g4 (vb)) (b8 : Bx wr g8 (va * (2 : Int) ^ r)) (b10 : Bx wr g10 (va)) (b13 : Bx wr g13 ((2 : Int) ^ r)) (b15 : Bx wr g15 (va * (2 : Int) ^ r)) (b18 : Bx wr g18 (vd)) (b19 : Bx wr g19 (vm)) (b21 : Bx wr g21 (va / (2 : Int) ^ r)) :
    Code.wp Tryd.prog (tail14 15) (Q14 w) ⟨#[u0, u1, .int .i64 (r : Int), .pointer (some ⟨g3, 0, none⟩), .pointer (some ⟨g4, 0, none⟩), u5, u6, .bool true, .pointer (some ⟨g8, 0, none⟩), .int .i64 0, .pointer (some ⟨g10, 0, none⟩), .int .i64 0, .bool true, .pointer (some ⟨g13, 0, none⟩), .int .i64 0, .pointer (some ⟨g15, 0, none⟩), .int .i64 0, .bool true, .pointer (some ⟨g18, 0, none⟩), .pointer (some ⟨g19, 0, none⟩), .int .i64 0, .pointer (some ⟨g21, 0, none⟩), .int .i64 0, .bool true, u24, u25, u26, u27, u28, u29, u30, u31, u32, u33, u34, u35, u36, u37, u38, u39, u40, u41, u42, u43, u44, u45, u46, u47, u48, u49, u50, u51, u52, u53, u54, u55, u56, u57, u58, u59, u60, u61, u62, u63, u64, u65, u66, u67, u68, u69, u70, u71, u72, u73, u74, u75, u76, u77, u78, u79, u80, u81, u82, u83, u84, u85, u86, u87, u88, u89, u90, u91, u92, u93, u94, u95, u96, u97, u98, u99, u100, u101, u102, u103, u104, u105, u106, u107, u108, u109, u110, u111, u112, u113, u114, u115, u116, u117, u118, u119, u120, u121, u122, u123, u124, u125, u126, u127, u128, u129, u130, u131, u132, u133, u134, u135, u136, u137, u138, u139, u140, u141, u142, u143, u144, u145, u146, u147, u148, u149, u150, u151, u152, u153, u154, u155, u156, u157, u158, u159, u160, u161, u162, u163, u164, u165, u166, u167, u168, u169, u170, u171, u172, u173, u174, u175, u176, u177, u178, u179, u180, u181, u182, u183, u184, u185, u186, u187, u188, u189, u190, u191, u192, u193, u194, u195, u196, u197, u198, u199, u200, u201, u202, u203, u204, u205, u206, u207, u208, u209, u210, u211, u212, u213, u214, u215, u216, u217, u218], []⟩ wr := by
  have b3' := b3
  obtain ⟨nA, aA, lA, cA, A, hHA, hRA, hEA⟩ := b3'
  obtain ⟨kA0, kA1, _, _⟩ := two_cells hHA
  have HEA := hid hEA
  clear hEA hHA
  have b4' := b4
  obtain ⟨nB, aB, lB, cB, B, hHB, hRB, hEB⟩ := b4'
  obtain ⟨kB0, kB1, _, _⟩ := two_cells hHB
  have HEB := hid hEB
  clear hEB hHB
  show Code.wp Tryd.prog (Code.seq (head14 15) (tail14 16)) _ _ _
  conv => arg 2; arg 1; whnf
  go_wp2_with fail
  refine (gcd_ok _ hRA hRB HEA.out HEB.out ((la).sm (by decide)) ((lb).sm (by decide)) ((lt_gcd la lb).sm (by decide))).mono ?_
  rintro e w2 ⟨n2, ao2, len2, C2, rfl, hR2, hE2, hb2⟩
  have HE2 := hid hE2
  clear hE2
  go_wp2
  have hlast : g21 < w2.heap.size := (b21.keep hb2).lt
  have hb3 := hb.trans (hb2.mono hb.size)
  exact SF_16 hr la lb hd (hb3.alloc hb3.size _) h0 o4 o8 o10 o13 o15 o18 o19 o21 hlast ((b3.keep hb2).alloc _) ((b4.keep hb2).alloc _) ((b8.keep hb2).alloc _) ((b10.keep hb2).alloc _) ((b13.keep hb2).alloc _) ((b15.keep hb2).alloc _) ((b18.keep hb2).alloc _) ((b19.keep hb2).alloc _) ((b21.keep hb2).alloc _) (Bx.new hR2 HE2.out)

set_option maxRecDepth 100000 in
set_option maxHeartbeats 2000000 in
theorem SF_14 {r : Nat} {w wr : World} {g3 g4 g8 g10 g13 g15 g18 g19 g21 : Nat} {u0 u1 u5 u6 u23 u24 u25 u26 u27 u28 u29 u30 u31 u32 u33 u34 u35 u36 u37 u38 u39 u40 u41 u42 u43 u44 u45 u46 u47 u48 u49 u50 u51 u52 u53 u54 u55 u56 u57 u58 u59 u60 u61 u62 u63 u64 u65 u66 u67 u68 u69 u70 u71 u72 u73 u74 u75 u76 u77 u78 u79 u80 u81 u82 u83 u84 u85 u86 u87 u88 u89 u90 u91 u92 u93 u94 u95 u96 u97 u98 u99 u100 u101 u102 u103 u104 u105 u106 u107 u108 u109 u110 u111 u112 u113 u114 u115 u116 u117 u118 u119 u120 u121 u122 u123 u124 u125 u126 u127 u128 u129 u130 u131 u132 u133 u134 u135 u136 u137 u138 u139 u140 u141 u142 u143 u144 u145 u146 u147 u148 u149 u150 u151 u152 u153 u154 u155 u156 u157 u158 u159 u160 u161 u162 u163 u164 u165 u166 u167 u168 u169 u170 u171 u172 u173 u174 u175 u176 u177 u178 u179 u180 u181 u182 u183 u184 u185 u186 u187 u188 u189 u190 u191 u192 u193 u194 u195 u196 u197 u198 u199 u200 u201 u202 u203 u204 u205 u206 u207 u208 u209 u210 u211 u212 u213 u214 u215 u216 u217 u218 : Value} {va vb vd vm : Int}
    (hr : r < 900) (la : Lt 1920 va) (lb : Lt 1920 vb) (hd : Hid (Floors va ((2 : Int) ^ r) vd vm))
    (hb : Below w.heap.size w wr) (h0 : w.heap.size ≤ g3)
    (o4 : g3 < g4) (o8 : g4 < g8) (o10 : g8 < g10) (o13 : g10 < g13) (o15 : g13 < g15) (o18 : g15 < g18) (o19 : g18 < g19) (o21 : g19 < g21)
    (b3 : Bx wr g3 (va)) (b4 : Bx wr g4 (vb)) (b8 : Bx wr g8 (va * (2 : Int) ^ r)) (b10 : Bx wr g10 (va)) (b13 : Bx wr g13 ((2 : Int) ^ r)) (b15 : Bx wr g15 (va * (2 : Int) ^ r)) (b18 : Bx wr g18 (vd)) (b19 : Bx wr g19 (vm)) (b21 : Bx wr g21 (va / (2 : Int) ^ r)) :
    Code.wp Tryd.prog (tail14 14) (Q14 w) ⟨#[u0, u1, .int .i64 (r : Int), .pointer (some ⟨g3, 0, none⟩), .pointer (some ⟨g4, 0, none⟩), u5, u6, .bool true, .pointer (some ⟨g8, 0, none⟩), .int .i64 0, .pointer (some ⟨g10, 0, none⟩), .int .i64 0, .bool true, .pointer (some ⟨g13, 0, none⟩), .int .i64 0, .pointer (some ⟨g15, 0, none⟩), .int .i64 0, .bool true, .pointer (some ⟨g18, 0, none⟩), .pointer (some ⟨g19, 0, none⟩), .int .i64 0, .pointer (some ⟨g21, 0, none⟩), .int .i64 0, u23, u24, u25, u26, u27, u28, u29, u30, u31, u32, u33, u34, u35, u36, u37, u38, u39, u40, u41, u42, u43, u44, u45, u46, u47, u48, u49, u50, u51, u52, u53, u54, u55, u56, u57, u58, u59, u60, u61, u62, u63, u64, u65, u66, u67, u68, u69, u70, u71, u72, u73, u74, u75, u76, u77, u78, u79, u80, u81, u82, u83, u84, u85, u86, u87, u88, u89, u90, u91, u92, u93, u94, u95, u96, u97, u98, u99, u100, u101, u102, u103, u104, u105, u106, u107, u108, u109, u110, u111, u112, u113, u114, u115, u116, u117, u118, u119, u120, u121, u122, u123, u124, u125, u126, u127, u128, u129, u130, u131, u132, u133, u134, u135, u136, u137, u138, u139, u140, u141, u142, u143, u144, u145, u146, u147, u148, u149, u150, u151, u152, u153, u154, u155, u156, u157, u158, u159, u160, u161, u162, u163, u164, u165, u166, u167, u168, u169, u170, u171, u172, u173, u174, u175, u176, u177, u178, u179, u180, u181, u182, u183, u184, u185, u186, u187, u188, u189, u190, u191, u192, u193, u194, u195, u196, u197, u198, u199, u200, u201, u202, u203, u204, u205, u206, u207, u208, u209, u210, u211, u212, u213, u214, u215, u216, u217, u218], []⟩ wr := by
  have b18' := b18
  obtain ⟨nA, aA, lA, cA, A, hHA, hRA, hEA⟩ := b18'
  obtain ⟨kA0, kA1, _, _⟩ := two_cells hHA
  have HEA := hid hEA
  clear hEA hHA
  have b21' := b21
  obtain ⟨nB, aB, lB, cB, B, hHB, hRB, hEB⟩ := b21'
  obtain ⟨kB0, kB1, _, _⟩ := two_cells hHB
  have HEB := hid hEB
  clear hEB hHB
  show Code.wp Tryd.prog (Code.seq (head14 14) (tail14 15)) _ _ _
  conv => arg 2; arg 1; whnf
  go_wp2_with fail
  refine (same_yes _ 0 hRA hRB (by rw [HEA.out, HEB.out]; exact floors_pow hd.out)).mono ?_
  rintro e w2 ⟨rfl, hb2⟩
  go_wp2
  exact SF_15 hr la lb hd (hb.trans (hb2.mono hb.size)) h0 o4 o8 o10 o13 o15 o18 o19 o21 (b3.keep hb2) (b4.keep hb2) (b8.keep hb2) (b10.keep hb2) (b13.keep hb2) (b15.keep hb2) (b18.keep hb2) (b19.keep hb2) (b21.keep hb2)

set_option maxRecDepth 100000 in
set_option maxHeartbeats 2000000 in
theorem SF_13 {r : Nat} {w wr : World} {g3 g4 g8 g10 g13 g15 g18 g19 : Nat} {u0 u1 u5 u6 u21 u22 u23 u24 u25 u26 u27 u28 u29 u30 u31 u32 u33 u34 u35 u36 u37 u38 u39 u40 u41 u42 u43 u44 u45 u46 u47 u48 u49 u50 u51 u52 u53 u54 u55 u56 u57 u58 u59 u60 u61 u62 u63 u64 u65 u66 u67 u68 u69 u70 u71 u72 u73 u74 u75 u76 u77 u78 u79 u80 u81 u82 u83 u84 u85 u86 u87 u88 u89 u90 u91 u92 u93 u94 u95 u96 u97 u98 u99 u100 u101 u102 u103 u104 u105 u106 u107 u108 u109 u110 u111 u112 u113 u114 u115 u116 u117 u118 u119 u120 u121 u122 u123 u124 u125 u126 u127 u128 u129 u130 u131 u132 u133 u134 u135 u136 u137 u138 u139 u140 u141 u142 u143 u144 u145 u146 u147 u148 u149 u150 u151 u152 u153 u154 u155 u156 u157 u158 u159 u160 u161 u162 u163 u164 u165 u166 u167 u168 u169 u170 u171 u172 u173 u174 u175 u176 u177 u178 u179 u180 u181 u182 u183 u184 u185 u186 u187 u188 u189 u190 u191 u192 u193 u194 u195 u196 u197 u198 u199 u200 u201 u202 u203 u204 u205 u206 u207 u208 u209 u210 u211 u212 u213 u214 u215 u216 u217 u218 : Value} {va vb vd vm : Int}
    (hr : r < 900) (la : Lt 1920 va) (lb : Lt 1920 vb) (hd : Hid (Floors va ((2 : Int) ^ r) vd vm))
    (hb : Below w.heap.size w wr) (h0 : w.heap.size ≤ g3)
    (o4 : g3 < g4) (o8 : g4 < g8) (o10 : g8 < g10) (o13 : g10 < g13) (o15 : g13 < g15) (o18 : g15 < g18) (o19 : g18 < g19)
    (b3 : Bx wr g3 (va)) (b4 : Bx wr g4 (vb)) (b8 : Bx wr g8 (va * (2 : Int) ^ r)) (b10 : Bx wr g10 (va)) (b13 : Bx wr g13 ((2 : Int) ^ r)) (b15 : Bx wr g15 (va * (2 : Int) ^ r)) (b18 : Bx wr g18 (vd)) (b19 : Bx wr g19 (vm)) :
    Code.wp Tryd.prog (tail14 13) (Q14 w) ⟨#[u0, u1, .int .i64 (r : Int), .pointer (some ⟨g3, 0, none⟩), .pointer (some ⟨g4, 0, none⟩), u5, u6, .bool true, .pointer (some ⟨g8, 0, none⟩), .int .i64 0, .pointer (some ⟨g10, 0, none⟩), .int .i64 0, .bool true, .pointer (some ⟨g13, 0, none⟩), .int .i64 0, .pointer (some ⟨g15, 0, none⟩), .int .i64 0, .bool true, .pointer (some ⟨g18, 0, none⟩), .pointer (some ⟨g19, 0, none⟩), .int .i64 0, u21, u22, u23, u24, u25, u26, u27, u28, u29, u30, u31, u32, u33, u34, u35, u36, u37, u38, u39, u40, u41, u42, u43, u44, u45, u46, u47, u48, u49, u50, u51, u52, u53, u54, u55, u56, u57, u58, u59, u60, u61, u62, u63, u64, u65, u66, u67, u68, u69, u70, u71, u72, u73, u74, u75, u76, u77, u78, u79, u80, u81, u82, u83, u84, u85, u86, u87, u88, u89, u90, u91, u92, u93, u94, u95, u96, u97, u98, u99, u100, u101, u102, u103, u104, u105, u106, u107, u108, u109, u110, u111, u112, u113, u114, u115, u116, u117, u118, u119, u120, u121, u122, u123, u124, u125, u126, u127, u128, u129, u130, u131, u132, u133, u134, u135, u136, u137, u138, u139, u140, u141, u142, u143, u144, u145, u146, u147, u148, u149, u150, u151, u152, u153, u154, u155, u156, u157, u158, u159, u160, u161, u162, u163, u164, u165, u166, u167, u168, u169, u170, u171, u172, u173, u174, u175, u176, u177, u178, u179, u180, u181, u182, u183, u184, u185, u186, u187, u188, u189, u190, u191, u192, u193, u194, u195, u196, u197, u198, u199, u200, u201, u202, u203, u204, u205, u206, u207, u208, u209, u210, u211, u212, u213, u214, u215, u216, u217, u218], []⟩ wr := by
  have b3' := b3
  obtain ⟨nA, aA, lA, cA, A, hHA, hRA, hEA⟩ := b3'
  obtain ⟨kA0, kA1, _, _⟩ := two_cells hHA
  have HEA := hid hEA
  clear hEA hHA
  show Code.wp Tryd.prog (Code.seq (head14 13) (tail14 14)) _ _ _
  conv => arg 2; arg 1; whnf
  have hr2 : (r : Int) < 900 := by omega
  go_wp2_with fail
  refine (shift_down_ok r _ hRA HEA.out (Lt.sm (la) (by decide)) (Lt.sm (lt_floor r la) (by decide)) (by omega)).mono ?_
  rintro e w2 ⟨n2, ao2, len2, C2, rfl, hR2, hE2, hb2⟩
  have HE2 := hid hE2
  clear hE2
  go_wp2
  have hlast : g19 < w2.heap.size := (b19.keep hb2).lt
  have hb3 := hb.trans (hb2.mono hb.size)
  exact SF_14 hr la lb hd (hb3.alloc hb3.size _) h0 o4 o8 o10 o13 o15 o18 o19 hlast ((b3.keep hb2).alloc _) ((b4.keep hb2).alloc _) ((b8.keep hb2).alloc _) ((b10.keep hb2).alloc _) ((b13.keep hb2).alloc _) ((b15.keep hb2).alloc _) ((b18.keep hb2).alloc _) ((b19.keep hb2).alloc _) (Bx.new hR2 HE2.out)

set_option maxRecDepth 100000 in
set_option maxHeartbeats 2000000 in
theorem SF_12 {r : Nat} {w wr : World} {g3 g4 g8 g10 g13 g15 : Nat} {u0 u1 u5 u6 u18 u19 u20 u21 u22 u23 u24 u25 u26 u27 u28 u29 u30 u31 u32 u33 u34 u35 u36 u37 u38 u39 u40 u41 u42 u43 u44 u45 u46 u47 u48 u49 u50 u51 u52 u53 u54 u55 u56 u57 u58 u59 u60 u61 u62 u63 u64 u65 u66 u67 u68 u69 u70 u71 u72 u73 u74 u75 u76 u77 u78 u79 u80 u81 u82 u83 u84 u85 u86 u87 u88 u89 u90 u91 u92 u93 u94 u95 u96 u97 u98 u99 u100 u101 u102 u103 u104 u105 u106 u107 u108 u109 u110 u111 u112 u113 u114 u115 u116 u117 u118 u119 u120 u121 u122 u123 u124 u125 u126 u127 u128 u129 u130 u131 u132 u133 u134 u135 u136 u137 u138 u139 u140 u141 u142 u143 u144 u145 u146 u147 u148 u149 u150 u151 u152 u153 u154 u155 u156 u157 u158 u159 u160 u161 u162 u163 u164 u165 u166 u167 u168 u169 u170 u171 u172 u173 u174 u175 u176 u177 u178 u179 u180 u181 u182 u183 u184 u185 u186 u187 u188 u189 u190 u191 u192 u193 u194 u195 u196 u197 u198 u199 u200 u201 u202 u203 u204 u205 u206 u207 u208 u209 u210 u211 u212 u213 u214 u215 u216 u217 u218 : Value} {va vb : Int}
    (hr : r < 900) (la : Lt 1920 va) (lb : Lt 1920 vb)
    (hb : Below w.heap.size w wr) (h0 : w.heap.size ≤ g3)
    (o4 : g3 < g4) (o8 : g4 < g8) (o10 : g8 < g10) (o13 : g10 < g13) (o15 : g13 < g15)
    (b3 : Bx wr g3 (va)) (b4 : Bx wr g4 (vb)) (b8 : Bx wr g8 (va * (2 : Int) ^ r)) (b10 : Bx wr g10 (va)) (b13 : Bx wr g13 ((2 : Int) ^ r)) (b15 : Bx wr g15 (va * (2 : Int) ^ r)) :
    Code.wp Tryd.prog (tail14 12) (Q14 w) ⟨#[u0, u1, .int .i64 (r : Int), .pointer (some ⟨g3, 0, none⟩), .pointer (some ⟨g4, 0, none⟩), u5, u6, .bool true, .pointer (some ⟨g8, 0, none⟩), .int .i64 0, .pointer (some ⟨g10, 0, none⟩), .int .i64 0, .bool true, .pointer (some ⟨g13, 0, none⟩), .int .i64 0, .pointer (some ⟨g15, 0, none⟩), .int .i64 0, .bool true, u18, u19, u20, u21, u22, u23, u24, u25, u26, u27, u28, u29, u30, u31, u32, u33, u34, u35, u36, u37, u38, u39, u40, u41, u42, u43, u44, u45, u46, u47, u48, u49, u50, u51, u52, u53, u54, u55, u56, u57, u58, u59, u60, u61, u62, u63, u64, u65, u66, u67, u68, u69, u70, u71, u72, u73, u74, u75, u76, u77, u78, u79, u80, u81, u82, u83, u84, u85, u86, u87, u88, u89, u90, u91, u92, u93, u94, u95, u96, u97, u98, u99, u100, u101, u102, u103, u104, u105, u106, u107, u108, u109, u110, u111, u112, u113, u114, u115, u116, u117, u118, u119, u120, u121, u122, u123, u124, u125, u126, u127, u128, u129, u130, u131, u132, u133, u134, u135, u136, u137, u138, u139, u140, u141, u142, u143, u144, u145, u146, u147, u148, u149, u150, u151, u152, u153, u154, u155, u156, u157, u158, u159, u160, u161, u162, u163, u164, u165, u166, u167, u168, u169, u170, u171, u172, u173, u174, u175, u176, u177, u178, u179, u180, u181, u182, u183, u184, u185, u186, u187, u188, u189, u190, u191, u192, u193, u194, u195, u196, u197, u198, u199, u200, u201, u202, u203, u204, u205, u206, u207, u208, u209, u210, u211, u212, u213, u214, u215, u216, u217, u218], []⟩ wr := by
  have b3' := b3
  obtain ⟨nA, aA, lA, cA, A, hHA, hRA, hEA⟩ := b3'
  obtain ⟨kA0, kA1, _, _⟩ := two_cells hHA
  have HEA := hid hEA
  clear hEA hHA
  have b13' := b13
  obtain ⟨nB, aB, lB, cB, B, hHB, hRB, hEB⟩ := b13'
  obtain ⟨kB0, kB1, _, _⟩ := two_cells hHB
  have HEB := hid hEB
  clear hEB hHB
  show Code.wp Tryd.prog (Code.seq (head14 12) (tail14 13)) _ _ _
  conv => arg 2; arg 1; whnf
  go_wp2_with fail
  refine (divMod_all _ hRA hRB HEA.out HEB.out (Lt.sm (la) (by decide)) (Lt.sm (lt_two r hr) (by decide)) (pow_ne r)).mono ?_
  rintro e w2 ⟨nq, aq, lq2, Q2, nr, ar, lr2, R2, vd, vm, rfl, hRQ, hEQ, hRR, hER, hT, hb2⟩
  have HEQ := hid hEQ
  have HER := hid hER
  clear hEQ hER
  have hd := hT
  go_wp2
  have hlast : g15 < w2.heap.size := (b15.keep hb2).lt
  have hb3 := hb.trans (hb2.mono hb.size)
  exact SF_13 hr la lb hd ((hb3.alloc hb3.size _).alloc (by simp; have := hb3.size; omega) _) h0 o4 o8 o10 o13 o15 hlast (Nat.lt_succ_self _) (((b3.keep hb2).alloc _).alloc _) (((b4.keep hb2).alloc _).alloc _) (((b8.keep hb2).alloc _).alloc _) (((b10.keep hb2).alloc _).alloc _) (((b13.keep hb2).alloc _).alloc _) (((b15.keep hb2).alloc _).alloc _) ((Bx.new hRQ HEQ.out).alloc _) (Bx.new2 hRR HER.out)

set_option maxRecDepth 100000 in
set_option maxHeartbeats 2000000 in
theorem SF_11 {r : Nat} {w wr : World} {g3 g4 g8 g10 g13 g15 : Nat} {u0 u1 u5 u6 u17 u18 u19 u20 u21 u22 u23 u24 u25 u26 u27 u28 u29 u30 u31 u32 u33 u34 u35 u36 u37 u38 u39 u40 u41 u42 u43 u44 u45 u46 u47 u48 u49 u50 u51 u52 u53 u54 u55 u56 u57 u58 u59 u60 u61 u62 u63 u64 u65 u66 u67 u68 u69 u70 u71 u72 u73 u74 u75 u76 u77 u78 u79 u80 u81 u82 u83 u84 u85 u86 u87 u88 u89 u90 u91 u92 u93 u94 u95 u96 u97 u98 u99 u100 u101 u102 u103 u104 u105 u106 u107 u108 u109 u110 u111 u112 u113 u114 u115 u116 u117 u118 u119 u120 u121 u122 u123 u124 u125 u126 u127 u128 u129 u130 u131 u132 u133 u134 u135 u136 u137 u138 u139 u140 u141 u142 u143 u144 u145 u146 u147 u148 u149 u150 u151 u152 u153 u154 u155 u156 u157 u158 u159 u160 u161 u162 u163 u164 u165 u166 u167 u168 u169 u170 u171 u172 u173 u174 u175 u176 u177 u178 u179 u180 u181 u182 u183 u184 u185 u186 u187 u188 u189 u190 u191 u192 u193 u194 u195 u196 u197 u198 u199 u200 u201 u202 u203 u204 u205 u206 u207 u208 u209 u210 u211 u212 u213 u214 u215 u216 u217 u218 : Value} {va vb : Int}
    (hr : r < 900) (la : Lt 1920 va) (lb : Lt 1920 vb)
    (hb : Below w.heap.size w wr) (h0 : w.heap.size ≤ g3)
    (o4 : g3 < g4) (o8 : g4 < g8) (o10 : g8 < g10) (o13 : g10 < g13) (o15 : g13 < g15)
    (b3 : Bx wr g3 (va)) (b4 : Bx wr g4 (vb)) (b8 : Bx wr g8 (va * (2 : Int) ^ r)) (b10 : Bx wr g10 (va)) (b13 : Bx wr g13 ((2 : Int) ^ r)) (b15 : Bx wr g15 (va * (2 : Int) ^ r)) :
    Code.wp Tryd.prog (tail14 11) (Q14 w) ⟨#[u0, u1, .int .i64 (r : Int), .pointer (some ⟨g3, 0, none⟩), .pointer (some ⟨g4, 0, none⟩), u5, u6, .bool true, .pointer (some ⟨g8, 0, none⟩), .int .i64 0, .pointer (some ⟨g10, 0, none⟩), .int .i64 0, .bool true, .pointer (some ⟨g13, 0, none⟩), .int .i64 0, .pointer (some ⟨g15, 0, none⟩), .int .i64 0, u17, u18, u19, u20, u21, u22, u23, u24, u25, u26, u27, u28, u29, u30, u31, u32, u33, u34, u35, u36, u37, u38, u39, u40, u41, u42, u43, u44, u45, u46, u47, u48, u49, u50, u51, u52, u53, u54, u55, u56, u57, u58, u59, u60, u61, u62, u63, u64, u65, u66, u67, u68, u69, u70, u71, u72, u73, u74, u75, u76, u77, u78, u79, u80, u81, u82, u83, u84, u85, u86, u87, u88, u89, u90, u91, u92, u93, u94, u95, u96, u97, u98, u99, u100, u101, u102, u103, u104, u105, u106, u107, u108, u109, u110, u111, u112, u113, u114, u115, u116, u117, u118, u119, u120, u121, u122, u123, u124, u125, u126, u127, u128, u129, u130, u131, u132, u133, u134, u135, u136, u137, u138, u139, u140, u141, u142, u143, u144, u145, u146, u147, u148, u149, u150, u151, u152, u153, u154, u155, u156, u157, u158, u159, u160, u161, u162, u163, u164, u165, u166, u167, u168, u169, u170, u171, u172, u173, u174, u175, u176, u177, u178, u179, u180, u181, u182, u183, u184, u185, u186, u187, u188, u189, u190, u191, u192, u193, u194, u195, u196, u197, u198, u199, u200, u201, u202, u203, u204, u205, u206, u207, u208, u209, u210, u211, u212, u213, u214, u215, u216, u217, u218], []⟩ wr := by
  have b15' := b15
  obtain ⟨nA, aA, lA, cA, A, hHA, hRA, hEA⟩ := b15'
  obtain ⟨kA0, kA1, _, _⟩ := two_cells hHA
  have HEA := hid hEA
  clear hEA hHA
  have b8' := b8
  obtain ⟨nB, aB, lB, cB, B, hHB, hRB, hEB⟩ := b8'
  obtain ⟨kB0, kB1, _, _⟩ := two_cells hHB
  have HEB := hid hEB
  clear hEB hHB
  show Code.wp Tryd.prog (Code.seq (head14 11) (tail14 12)) _ _ _
  conv => arg 2; arg 1; whnf
  go_wp2_with fail
  refine (same_yes _ 0 hRA hRB (by rw [HEA.out, HEB.out]; try rfl)).mono ?_
  rintro e w2 ⟨rfl, hb2⟩
  go_wp2
  exact SF_12 hr la lb (hb.trans (hb2.mono hb.size)) h0 o4 o8 o10 o13 o15 (b3.keep hb2) (b4.keep hb2) (b8.keep hb2) (b10.keep hb2) (b13.keep hb2) (b15.keep hb2)

set_option maxRecDepth 100000 in
set_option maxHeartbeats 2000000 in
theorem SF_10 {r : Nat} {w wr : World} {g3 g4 g8 g10 g13 : Nat} {u0 u1 u5 u6 u15 u16 u17 u18 u19 u20 u21 u22 u23 u24 u25 u26 u27 u28 u29 u30 u31 u32 u33 u34 u35 u36 u37 u38 u39 u40 u41 u42 u43 u44 u45 u46 u47 u48 u49 u50 u51 u52 u53 u54 u55 u56 u57 u58 u59 u60 u61 u62 u63 u64 u65 u66 u67 u68 u69 u70 u71 u72 u73 u74 u75 u76 u77 u78 u79 u80 u81 u82 u83 u84 u85 u86 u87 u88 u89 u90 u91 u92 u93 u94 u95 u96 u97 u98 u99 u100 u101 u102 u103 u104 u105 u106 u107 u108 u109 u110 u111 u112 u113 u114 u115 u116 u117 u118 u119 u120 u121 u122 u123 u124 u125 u126 u127 u128 u129 u130 u131 u132 u133 u134 u135 u136 u137 u138 u139 u140 u141 u142 u143 u144 u145 u146 u147 u148 u149 u150 u151 u152 u153 u154 u155 u156 u157 u158 u159 u160 u161 u162 u163 u164 u165 u166 u167 u168 u169 u170 u171 u172 u173 u174 u175 u176 u177 u178 u179 u180 u181 u182 u183 u184 u185 u186 u187 u188 u189 u190 u191 u192 u193 u194 u195 u196 u197 u198 u199 u200 u201 u202 u203 u204 u205 u206 u207 u208 u209 u210 u211 u212 u213 u214 u215 u216 u217 u218 : Value} {va vb : Int}
    (hr : r < 900) (la : Lt 1920 va) (lb : Lt 1920 vb)
    (hb : Below w.heap.size w wr) (h0 : w.heap.size ≤ g3)
    (o4 : g3 < g4) (o8 : g4 < g8) (o10 : g8 < g10) (o13 : g10 < g13)
    (b3 : Bx wr g3 (va)) (b4 : Bx wr g4 (vb)) (b8 : Bx wr g8 (va * (2 : Int) ^ r)) (b10 : Bx wr g10 (va)) (b13 : Bx wr g13 ((2 : Int) ^ r)) :
    Code.wp Tryd.prog (tail14 10) (Q14 w) ⟨#[u0, u1, .int .i64 (r : Int), .pointer (some ⟨g3, 0, none⟩), .pointer (some ⟨g4, 0, none⟩), u5, u6, .bool true, .pointer (some ⟨g8, 0, none⟩), .int .i64 0, .pointer (some ⟨g10, 0, none⟩), .int .i64 0, .bool true, .pointer (some ⟨g13, 0, none⟩), .int .i64 0, u15, u16, u17, u18, u19, u20, u21, u22, u23, u24, u25, u26, u27, u28, u29, u30, u31, u32, u33, u34, u35, u36, u37, u38, u39, u40, u41, u42, u43, u44, u45, u46, u47, u48, u49, u50, u51, u52, u53, u54, u55, u56, u57, u58, u59, u60, u61, u62, u63, u64, u65, u66, u67, u68, u69, u70, u71, u72, u73, u74, u75, u76, u77, u78, u79, u80, u81, u82, u83, u84, u85, u86, u87, u88, u89, u90, u91, u92, u93, u94, u95, u96, u97, u98, u99, u100, u101, u102, u103, u104, u105, u106, u107, u108, u109, u110, u111, u112, u113, u114, u115, u116, u117, u118, u119, u120, u121, u122, u123, u124, u125, u126, u127, u128, u129, u130, u131, u132, u133, u134, u135, u136, u137, u138, u139, u140, u141, u142, u143, u144, u145, u146, u147, u148, u149, u150, u151, u152, u153, u154, u155, u156, u157, u158, u159, u160, u161, u162, u163, u164, u165, u166, u167, u168, u169, u170, u171, u172, u173, u174, u175, u176, u177, u178, u179, u180, u181, u182, u183, u184, u185, u186, u187, u188, u189, u190, u191, u192, u193, u194, u195, u196, u197, u198, u199, u200, u201, u202, u203, u204, u205, u206, u207, u208, u209, u210, u211, u212, u213, u214, u215, u216, u217, u218], []⟩ wr := by
  have b3' := b3
  obtain ⟨nA, aA, lA, cA, A, hHA, hRA, hEA⟩ := b3'
  obtain ⟨kA0, kA1, _, _⟩ := two_cells hHA
  have HEA := hid hEA
  clear hEA hHA
  have b13' := b13
  obtain ⟨nB, aB, lB, cB, B, hHB, hRB, hEB⟩ := b13'
  obtain ⟨kB0, kB1, _, _⟩ := two_cells hHB
  have HEB := hid hEB
  clear hEB hHB
  show Code.wp Tryd.prog (Code.seq (head14 10) (tail14 11)) _ _ _
  conv => arg 2; arg 1; whnf
  go_wp2_with fail
  refine (mul_ok _ hRA hRB HEA.out HEB.out ((la).sm (by decide)) ((lt_two r hr).sm (by decide)) ((lt_up r hr la).sm (by decide))).mono ?_
  rintro e w2 ⟨n2, ao2, len2, C2, rfl, hR2, hE2, hb2⟩
  have HE2 := hid hE2
  clear hE2
  go_wp2
  have hlast : g13 < w2.heap.size := (b13.keep hb2).lt
  have hb3 := hb.trans (hb2.mono hb.size)
  exact SF_11 hr la lb (hb3.alloc hb3.size _) h0 o4 o8 o10 o13 hlast ((b3.keep hb2).alloc _) ((b4.keep hb2).alloc _) ((b8.keep hb2).alloc _) ((b10.keep hb2).alloc _) ((b13.keep hb2).alloc _) (Bx.new hR2 HE2.out)

set_option maxRecDepth 100000 in
set_option maxHeartbeats 2000000 in
theorem SF_9 {r : Nat} {w wr : World} {g3 g4 g8 g10 : Nat} {u0 u1 u5 u6 u13 u14 u15 u16 u17 u18 u19 u20 u21 u22 u23 u24 u25 u26 u27 u28 u29 u30 u31 u32 u33 u34 u35 u36 u37 u38 u39 u40 u41 u42 u43 u44 u45 u46 u47 u48 u49 u50 u51 u52 u53 u54 u55 u56 u57 u58 u59 u60 u61 u62 u63 u64 u65 u66 u67 u68 u69 u70 u71 u72 u73 u74 u75 u76 u77 u78 u79 u80 u81 u82 u83 u84 u85 u86 u87 u88 u89 u90 u91 u92 u93 u94 u95 u96 u97 u98 u99 u100 u101 u102 u103 u104 u105 u106 u107 u108 u109 u110 u111 u112 u113 u114 u115 u116 u117 u118 u119 u120 u121 u122 u123 u124 u125 u126 u127 u128 u129 u130 u131 u132 u133 u134 u135 u136 u137 u138 u139 u140 u141 u142 u143 u144 u145 u146 u147 u148 u149 u150 u151 u152 u153 u154 u155 u156 u157 u158 u159 u160 u161 u162 u163 u164 u165 u166 u167 u168 u169 u170 u171 u172 u173 u174 u175 u176 u177 u178 u179 u180 u181 u182 u183 u184 u185 u186 u187 u188 u189 u190 u191 u192 u193 u194 u195 u196 u197 u198 u199 u200 u201 u202 u203 u204 u205 u206 u207 u208 u209 u210 u211 u212 u213 u214 u215 u216 u217 u218 : Value} {va vb : Int}
    (hr : r < 900) (la : Lt 1920 va) (lb : Lt 1920 vb)
    (hb : Below w.heap.size w wr) (h0 : w.heap.size ≤ g3)
    (o4 : g3 < g4) (o8 : g4 < g8) (o10 : g8 < g10)
    (b3 : Bx wr g3 (va)) (b4 : Bx wr g4 (vb)) (b8 : Bx wr g8 (va * (2 : Int) ^ r)) (b10 : Bx wr g10 (va)) :
    Code.wp Tryd.prog (tail14 9) (Q14 w) ⟨#[u0, u1, .int .i64 (r : Int), .pointer (some ⟨g3, 0, none⟩), .pointer (some ⟨g4, 0, none⟩), u5, u6, .bool true, .pointer (some ⟨g8, 0, none⟩), .int .i64 0, .pointer (some ⟨g10, 0, none⟩), .int .i64 0, .bool true, u13, u14, u15, u16, u17, u18, u19, u20, u21, u22, u23, u24, u25, u26, u27, u28, u29, u30, u31, u32, u33, u34, u35, u36, u37, u38, u39, u40, u41, u42, u43, u44, u45, u46, u47, u48, u49, u50, u51, u52, u53, u54, u55, u56, u57, u58, u59, u60, u61, u62, u63, u64, u65, u66, u67, u68, u69, u70, u71, u72, u73, u74, u75, u76, u77, u78, u79, u80, u81, u82, u83, u84, u85, u86, u87, u88, u89, u90, u91, u92, u93, u94, u95, u96, u97, u98, u99, u100, u101, u102, u103, u104, u105, u106, u107, u108, u109, u110, u111, u112, u113, u114, u115, u116, u117, u118, u119, u120, u121, u122, u123, u124, u125, u126, u127, u128, u129, u130, u131, u132, u133, u134, u135, u136, u137, u138, u139, u140, u141, u142, u143, u144, u145, u146, u147, u148, u149, u150, u151, u152, u153, u154, u155, u156, u157, u158, u159, u160, u161, u162, u163, u164, u165, u166, u167, u168, u169, u170, u171, u172, u173, u174, u175, u176, u177, u178, u179, u180, u181, u182, u183, u184, u185, u186, u187, u188, u189, u190, u191, u192, u193, u194, u195, u196, u197, u198, u199, u200, u201, u202, u203, u204, u205, u206, u207, u208, u209, u210, u211, u212, u213, u214, u215, u216, u217, u218], []⟩ wr := by
  show Code.wp Tryd.prog (Code.seq (head14 9) (tail14 10)) _ _ _
  conv => arg 2; arg 1; whnf
  go_wp2_with (first
    | (go_at_call 24; refine (from_any 2 wr (by decide) (by decide)).mono ?_; rintro e w5 ⟨n1, ao1, len1, rfl, hnum, hbk⟩; obtain ⟨C1, hR1, hE1⟩ := hnum.read; have HE1 := hid hE1; clear hE1)
    | (go_at_call 52; refine (pow_small r w5 hR1 HE1.out (Lt.sm (k := 2) (by unfold Lt; decide) (by decide)) (Lt.sm (lt_two r hr) (by decide)) (by omega)).mono ?_; rintro e w2 ⟨n2, ao2, len2, C2, rfl, hR2, hE2, hbl⟩; have HE2 := hid hE2; have hb2 := hbk.trans (hbl.mono hbk.size); clear hE2))
  have hlast : g10 < w2.heap.size := (b10.keep hb2).lt
  have hb3 := hb.trans (hb2.mono hb.size)
  exact SF_10 hr la lb (hb3.alloc hb3.size _) h0 o4 o8 o10 hlast ((b3.keep hb2).alloc _) ((b4.keep hb2).alloc _) ((b8.keep hb2).alloc _) ((b10.keep hb2).alloc _) (Bx.new hR2 HE2.out)

set_option maxRecDepth 100000 in
set_option maxHeartbeats 2000000 in
theorem SF_8 {r : Nat} {w wr : World} {g3 g4 g8 g10 : Nat} {u0 u1 u5 u6 u12 u13 u14 u15 u16 u17 u18 u19 u20 u21 u22 u23 u24 u25 u26 u27 u28 u29 u30 u31 u32 u33 u34 u35 u36 u37 u38 u39 u40 u41 u42 u43 u44 u45 u46 u47 u48 u49 u50 u51 u52 u53 u54 u55 u56 u57 u58 u59 u60 u61 u62 u63 u64 u65 u66 u67 u68 u69 u70 u71 u72 u73 u74 u75 u76 u77 u78 u79 u80 u81 u82 u83 u84 u85 u86 u87 u88 u89 u90 u91 u92 u93 u94 u95 u96 u97 u98 u99 u100 u101 u102 u103 u104 u105 u106 u107 u108 u109 u110 u111 u112 u113 u114 u115 u116 u117 u118 u119 u120 u121 u122 u123 u124 u125 u126 u127 u128 u129 u130 u131 u132 u133 u134 u135 u136 u137 u138 u139 u140 u141 u142 u143 u144 u145 u146 u147 u148 u149 u150 u151 u152 u153 u154 u155 u156 u157 u158 u159 u160 u161 u162 u163 u164 u165 u166 u167 u168 u169 u170 u171 u172 u173 u174 u175 u176 u177 u178 u179 u180 u181 u182 u183 u184 u185 u186 u187 u188 u189 u190 u191 u192 u193 u194 u195 u196 u197 u198 u199 u200 u201 u202 u203 u204 u205 u206 u207 u208 u209 u210 u211 u212 u213 u214 u215 u216 u217 u218 : Value} {va vb : Int}
    (hr : r < 900) (la : Lt 1920 va) (lb : Lt 1920 vb)
    (hb : Below w.heap.size w wr) (h0 : w.heap.size ≤ g3)
    (o4 : g3 < g4) (o8 : g4 < g8) (o10 : g8 < g10)
    (b3 : Bx wr g3 (va)) (b4 : Bx wr g4 (vb)) (b8 : Bx wr g8 (va * (2 : Int) ^ r)) (b10 : Bx wr g10 (va)) :
    Code.wp Tryd.prog (tail14 8) (Q14 w) ⟨#[u0, u1, .int .i64 (r : Int), .pointer (some ⟨g3, 0, none⟩), .pointer (some ⟨g4, 0, none⟩), u5, u6, .bool true, .pointer (some ⟨g8, 0, none⟩), .int .i64 0, .pointer (some ⟨g10, 0, none⟩), .int .i64 0, u12, u13, u14, u15, u16, u17, u18, u19, u20, u21, u22, u23, u24, u25, u26, u27, u28, u29, u30, u31, u32, u33, u34, u35, u36, u37, u38, u39, u40, u41, u42, u43, u44, u45, u46, u47, u48, u49, u50, u51, u52, u53, u54, u55, u56, u57, u58, u59, u60, u61, u62, u63, u64, u65, u66, u67, u68, u69, u70, u71, u72, u73, u74, u75, u76, u77, u78, u79, u80, u81, u82, u83, u84, u85, u86, u87, u88, u89, u90, u91, u92, u93, u94, u95, u96, u97, u98, u99, u100, u101, u102, u103, u104, u105, u106, u107, u108, u109, u110, u111, u112, u113, u114, u115, u116, u117, u118, u119, u120, u121, u122, u123, u124, u125, u126, u127, u128, u129, u130, u131, u132, u133, u134, u135, u136, u137, u138, u139, u140, u141, u142, u143, u144, u145, u146, u147, u148, u149, u150, u151, u152, u153, u154, u155, u156, u157, u158, u159, u160, u161, u162, u163, u164, u165, u166, u167, u168, u169, u170, u171, u172, u173, u174, u175, u176, u177, u178, u179, u180, u181, u182, u183, u184, u185, u186, u187, u188, u189, u190, u191, u192, u193, u194, u195, u196, u197, u198, u199, u200, u201, u202, u203, u204, u205, u206, u207, u208, u209, u210, u211, u212, u213, u214, u215, u216, u217, u218], []⟩ wr := by
  have b10' := b10
  obtain ⟨nA, aA, lA, cA, A, hHA, hRA, hEA⟩ := b10'
  obtain ⟨kA0, kA1, _, _⟩ := two_cells hHA
  have HEA := hid hEA
  clear hEA hHA
  have b3' := b3
  obtain ⟨nB, aB, lB, cB, B, hHB, hRB, hEB⟩ := b3'
  obtain ⟨kB0, kB1, _, _⟩ := two_cells hHB
  have HEB := hid hEB
  clear hEB hHB
  show Code.wp Tryd.prog (Code.seq (head14 8) (tail14 9)) _ _ _
  conv => arg 2; arg 1; whnf
  go_wp2_with fail
  refine (same_yes _ 0 hRA hRB (by rw [HEA.out, HEB.out]; try rfl)).mono ?_
  rintro e w2 ⟨rfl, hb2⟩
  go_wp2
  exact SF_9 hr la lb (hb.trans (hb2.mono hb.size)) h0 o4 o8 o10 (b3.keep hb2) (b4.keep hb2) (b8.keep hb2) (b10.keep hb2)

set_option maxRecDepth 100000 in
set_option maxHeartbeats 2000000 in
theorem SF_7 {r : Nat} {w wr : World} {g3 g4 g8 : Nat} {u0 u1 u5 u6 u10 u11 u12 u13 u14 u15 u16 u17 u18 u19 u20 u21 u22 u23 u24 u25 u26 u27 u28 u29 u30 u31 u32 u33 u34 u35 u36 u37 u38 u39 u40 u41 u42 u43 u44 u45 u46 u47 u48 u49 u50 u51 u52 u53 u54 u55 u56 u57 u58 u59 u60 u61 u62 u63 u64 u65 u66 u67 u68 u69 u70 u71 u72 u73 u74 u75 u76 u77 u78 u79 u80 u81 u82 u83 u84 u85 u86 u87 u88 u89 u90 u91 u92 u93 u94 u95 u96 u97 u98 u99 u100 u101 u102 u103 u104 u105 u106 u107 u108 u109 u110 u111 u112 u113 u114 u115 u116 u117 u118 u119 u120 u121 u122 u123 u124 u125 u126 u127 u128 u129 u130 u131 u132 u133 u134 u135 u136 u137 u138 u139 u140 u141 u142 u143 u144 u145 u146 u147 u148 u149 u150 u151 u152 u153 u154 u155 u156 u157 u158 u159 u160 u161 u162 u163 u164 u165 u166 u167 u168 u169 u170 u171 u172 u173 u174 u175 u176 u177 u178 u179 u180 u181 u182 u183 u184 u185 u186 u187 u188 u189 u190 u191 u192 u193 u194 u195 u196 u197 u198 u199 u200 u201 u202 u203 u204 u205 u206 u207 u208 u209 u210 u211 u212 u213 u214 u215 u216 u217 u218 : Value} {va vb : Int}
    (hr : r < 900) (la : Lt 1920 va) (lb : Lt 1920 vb)
    (hb : Below w.heap.size w wr) (h0 : w.heap.size ≤ g3)
    (o4 : g3 < g4) (o8 : g4 < g8)
    (b3 : Bx wr g3 (va)) (b4 : Bx wr g4 (vb)) (b8 : Bx wr g8 (va * (2 : Int) ^ r)) :
    Code.wp Tryd.prog (tail14 7) (Q14 w) ⟨#[u0, u1, .int .i64 (r : Int), .pointer (some ⟨g3, 0, none⟩), .pointer (some ⟨g4, 0, none⟩), u5, u6, .bool true, .pointer (some ⟨g8, 0, none⟩), .int .i64 0, u10, u11, u12, u13, u14, u15, u16, u17, u18, u19, u20, u21, u22, u23, u24, u25, u26, u27, u28, u29, u30, u31, u32, u33, u34, u35, u36, u37, u38, u39, u40, u41, u42, u43, u44, u45, u46, u47, u48, u49, u50, u51, u52, u53, u54, u55, u56, u57, u58, u59, u60, u61, u62, u63, u64, u65, u66, u67, u68, u69, u70, u71, u72, u73, u74, u75, u76, u77, u78, u79, u80, u81, u82, u83, u84, u85, u86, u87, u88, u89, u90, u91, u92, u93, u94, u95, u96, u97, u98, u99, u100, u101, u102, u103, u104, u105, u106, u107, u108, u109, u110, u111, u112, u113, u114, u115, u116, u117, u118, u119, u120, u121, u122, u123, u124, u125, u126, u127, u128, u129, u130, u131, u132, u133, u134, u135, u136, u137, u138, u139, u140, u141, u142, u143, u144, u145, u146, u147, u148, u149, u150, u151, u152, u153, u154, u155, u156, u157, u158, u159, u160, u161, u162, u163, u164, u165, u166, u167, u168, u169, u170, u171, u172, u173, u174, u175, u176, u177, u178, u179, u180, u181, u182, u183, u184, u185, u186, u187, u188, u189, u190, u191, u192, u193, u194, u195, u196, u197, u198, u199, u200, u201, u202, u203, u204, u205, u206, u207, u208, u209, u210, u211, u212, u213, u214, u215, u216, u217, u218], []⟩ wr := by
  have b8' := b8
  obtain ⟨nA, aA, lA, cA, A, hHA, hRA, hEA⟩ := b8'
  obtain ⟨kA0, kA1, _, _⟩ := two_cells hHA
  have HEA := hid hEA
  clear hEA hHA
  show Code.wp Tryd.prog (Code.seq (head14 7) (tail14 8)) _ _ _
  conv => arg 2; arg 1; whnf
  have hr2 : (r : Int) < 900 := by omega
  go_wp2_with fail
  refine (shift_back_ok r _ hRA HEA.out (Lt.sm (lt_up r hr la) (by decide)) (Lt.sm (la) (by decide)) (by omega)).mono ?_
  rintro e w2 ⟨n2, ao2, len2, C2, rfl, hR2, hE2, hb2⟩
  have HE2 := hid hE2
  clear hE2
  go_wp2
  have hlast : g8 < w2.heap.size := (b8.keep hb2).lt
  have hb3 := hb.trans (hb2.mono hb.size)
  exact SF_8 hr la lb (hb3.alloc hb3.size _) h0 o4 o8 hlast ((b3.keep hb2).alloc _) ((b4.keep hb2).alloc _) ((b8.keep hb2).alloc _) (Bx.new hR2 HE2.out)

set_option maxRecDepth 100000 in
set_option maxHeartbeats 2000000 in
theorem SF_6 {r : Nat} {w wr : World} {g3 g4 : Nat} {u0 u1 u5 u6 u8 u9 u10 u11 u12 u13 u14 u15 u16 u17 u18 u19 u20 u21 u22 u23 u24 u25 u26 u27 u28 u29 u30 u31 u32 u33 u34 u35 u36 u37 u38 u39 u40 u41 u42 u43 u44 u45 u46 u47 u48 u49 u50 u51 u52 u53 u54 u55 u56 u57 u58 u59 u60 u61 u62 u63 u64 u65 u66 u67 u68 u69 u70 u71 u72 u73 u74 u75 u76 u77 u78 u79 u80 u81 u82 u83 u84 u85 u86 u87 u88 u89 u90 u91 u92 u93 u94 u95 u96 u97 u98 u99 u100 u101 u102 u103 u104 u105 u106 u107 u108 u109 u110 u111 u112 u113 u114 u115 u116 u117 u118 u119 u120 u121 u122 u123 u124 u125 u126 u127 u128 u129 u130 u131 u132 u133 u134 u135 u136 u137 u138 u139 u140 u141 u142 u143 u144 u145 u146 u147 u148 u149 u150 u151 u152 u153 u154 u155 u156 u157 u158 u159 u160 u161 u162 u163 u164 u165 u166 u167 u168 u169 u170 u171 u172 u173 u174 u175 u176 u177 u178 u179 u180 u181 u182 u183 u184 u185 u186 u187 u188 u189 u190 u191 u192 u193 u194 u195 u196 u197 u198 u199 u200 u201 u202 u203 u204 u205 u206 u207 u208 u209 u210 u211 u212 u213 u214 u215 u216 u217 u218 : Value} {va vb : Int}
    (hr : r < 900) (la : Lt 1920 va) (lb : Lt 1920 vb)
    (hb : Below w.heap.size w wr) (h0 : w.heap.size ≤ g3)
    (o4 : g3 < g4)
    (b3 : Bx wr g3 (va)) (b4 : Bx wr g4 (vb)) :
    Code.wp Tryd.prog (tail14 6) (Q14 w) ⟨#[u0, u1, .int .i64 (r : Int), .pointer (some ⟨g3, 0, none⟩), .pointer (some ⟨g4, 0, none⟩), u5, u6, .bool true, u8, u9, u10, u11, u12, u13, u14, u15, u16, u17, u18, u19, u20, u21, u22, u23, u24, u25, u26, u27, u28, u29, u30, u31, u32, u33, u34, u35, u36, u37, u38, u39, u40, u41, u42, u43, u44, u45, u46, u47, u48, u49, u50, u51, u52, u53, u54, u55, u56, u57, u58, u59, u60, u61, u62, u63, u64, u65, u66, u67, u68, u69, u70, u71, u72, u73, u74, u75, u76, u77, u78, u79, u80, u81, u82, u83, u84, u85, u86, u87, u88, u89, u90, u91, u92, u93, u94, u95, u96, u97, u98, u99, u100, u101, u102, u103, u104, u105, u106, u107, u108, u109, u110, u111, u112, u113, u114, u115, u116, u117, u118, u119, u120, u121, u122, u123, u124, u125, u126, u127, u128, u129, u130, u131, u132, u133, u134, u135, u136, u137, u138, u139, u140, u141, u142, u143, u144, u145, u146, u147, u148, u149, u150, u151, u152, u153, u154, u155, u156, u157, u158, u159, u160, u161, u162, u163, u164, u165, u166, u167, u168, u169, u170, u171, u172, u173, u174, u175, u176, u177, u178, u179, u180, u181, u182, u183, u184, u185, u186, u187, u188, u189, u190, u191, u192, u193, u194, u195, u196, u197, u198, u199, u200, u201, u202, u203, u204, u205, u206, u207, u208, u209, u210, u211, u212, u213, u214, u215, u216, u217, u218], []⟩ wr := by
  have b3' := b3
  obtain ⟨nA, aA, lA, cA, A, hHA, hRA, hEA⟩ := b3'
  obtain ⟨kA0, kA1, _, _⟩ := two_cells hHA
  have HEA := hid hEA
  clear hEA hHA
  show Code.wp Tryd.prog (Code.seq (head14 6) (tail14 7)) _ _ _
  conv => arg 2; arg 1; whnf
  go_wp2_with fail
  refine (shift_up_ok r _ hRA HEA.out (Lt.sm (la) (by decide)) (Lt.sm (lt_up r hr la) (by decide)) (by omega)).mono ?_
  rintro e w2 ⟨n2, ao2, len2, C2, rfl, hR2, hE2, hb2⟩
  have HE2 := hid hE2
  clear hE2
  go_wp2
  have hlast : g4 < w2.heap.size := (b4.keep hb2).lt
  have hb3 := hb.trans (hb2.mono hb.size)
  exact SF_7 hr la lb (hb3.alloc hb3.size _) h0 o4 hlast ((b3.keep hb2).alloc _) ((b4.keep hb2).alloc _) (Bx.new hR2 HE2.out)

set_option maxRecDepth 100000 in
set_option maxHeartbeats 2000000 in
theorem SF_5 {w wr : World} {g3 g4 : Nat} {u0 u1 u5 u6 u8 u9 u10 u11 u12 u13 u14 u15 u16 u17 u18 u19 u20 u21 u22 u23 u24 u25 u26 u27 u28 u29 u30 u31 u32 u33 u34 u35 u36 u37 u38 u39 u40 u41 u42 u43 u44 u45 u46 u47 u48 u49 u50 u51 u52 u53 u54 u55 u56 u57 u58 u59 u60 u61 u62 u63 u64 u65 u66 u67 u68 u69 u70 u71 u72 u73 u74 u75 u76 u77 u78 u79 u80 u81 u82 u83 u84 u85 u86 u87 u88 u89 u90 u91 u92 u93 u94 u95 u96 u97 u98 u99 u100 u101 u102 u103 u104 u105 u106 u107 u108 u109 u110 u111 u112 u113 u114 u115 u116 u117 u118 u119 u120 u121 u122 u123 u124 u125 u126 u127 u128 u129 u130 u131 u132 u133 u134 u135 u136 u137 u138 u139 u140 u141 u142 u143 u144 u145 u146 u147 u148 u149 u150 u151 u152 u153 u154 u155 u156 u157 u158 u159 u160 u161 u162 u163 u164 u165 u166 u167 u168 u169 u170 u171 u172 u173 u174 u175 u176 u177 u178 u179 u180 u181 u182 u183 u184 u185 u186 u187 u188 u189 u190 u191 u192 u193 u194 u195 u196 u197 u198 u199 u200 u201 u202 u203 u204 u205 u206 u207 u208 u209 u210 u211 u212 u213 u214 u215 u216 u217 u218 : Value} {va vb x : Int}
    (hx : 0 ≤ x ∧ x ≤ 9223372036854775807) (la : Lt 1920 va) (lb : Lt 1920 vb)
    (hb : Below w.heap.size w wr) (h0 : w.heap.size ≤ g3)
    (o4 : g3 < g4)
    (b3 : Bx wr g3 (va)) (b4 : Bx wr g4 (vb)) :
    Code.wp Tryd.prog (tail14 5) (Q14 w) ⟨#[u0, u1, .int .i64 x, .pointer (some ⟨g3, 0, none⟩), .pointer (some ⟨g4, 0, none⟩), u5, u6, .bool true, u8, u9, u10, u11, u12, u13, u14, u15, u16, u17, u18, u19, u20, u21, u22, u23, u24, u25, u26, u27, u28, u29, u30, u31, u32, u33, u34, u35, u36, u37, u38, u39, u40, u41, u42, u43, u44, u45, u46, u47, u48, u49, u50, u51, u52, u53, u54, u55, u56, u57, u58, u59, u60, u61, u62, u63, u64, u65, u66, u67, u68, u69, u70, u71, u72, u73, u74, u75, u76, u77, u78, u79, u80, u81, u82, u83, u84, u85, u86, u87, u88, u89, u90, u91, u92, u93, u94, u95, u96, u97, u98, u99, u100, u101, u102, u103, u104, u105, u106, u107, u108, u109, u110, u111, u112, u113, u114, u115, u116, u117, u118, u119, u120, u121, u122, u123, u124, u125, u126, u127, u128, u129, u130, u131, u132, u133, u134, u135, u136, u137, u138, u139, u140, u141, u142, u143, u144, u145, u146, u147, u148, u149, u150, u151, u152, u153, u154, u155, u156, u157, u158, u159, u160, u161, u162, u163, u164, u165, u166, u167, u168, u169, u170, u171, u172, u173, u174, u175, u176, u177, u178, u179, u180, u181, u182, u183, u184, u185, u186, u187, u188, u189, u190, u191, u192, u193, u194, u195, u196, u197, u198, u199, u200, u201, u202, u203, u204, u205, u206, u207, u208, u209, u210, u211, u212, u213, u214, u215, u216, u217, u218], []⟩ wr := by
  show Code.wp Tryd.prog (Code.seq (head14 5) (tail14 6)) _ _ _
  conv => arg 2; arg 1; whnf
  have h1 := hx.1
  have h2 := hx.2
  clear hx
  obtain ⟨m, rfl⟩ : ∃ m : Nat, x = (m : Int) := ⟨x.toNat, by omega⟩
  go_wp2
  exact SF_6 (r := m % 900) (by omega) la lb hb h0 o4 b3 b4

set_option maxRecDepth 100000 in
set_option maxHeartbeats 2000000 in
theorem SF_4 {w wr : World} {g3 g4 : Nat} {u0 u1 u5 u6 u8 u9 u10 u11 u12 u13 u14 u15 u16 u17 u18 u19 u20 u21 u22 u23 u24 u25 u26 u27 u28 u29 u30 u31 u32 u33 u34 u35 u36 u37 u38 u39 u40 u41 u42 u43 u44 u45 u46 u47 u48 u49 u50 u51 u52 u53 u54 u55 u56 u57 u58 u59 u60 u61 u62 u63 u64 u65 u66 u67 u68 u69 u70 u71 u72 u73 u74 u75 u76 u77 u78 u79 u80 u81 u82 u83 u84 u85 u86 u87 u88 u89 u90 u91 u92 u93 u94 u95 u96 u97 u98 u99 u100 u101 u102 u103 u104 u105 u106 u107 u108 u109 u110 u111 u112 u113 u114 u115 u116 u117 u118 u119 u120 u121 u122 u123 u124 u125 u126 u127 u128 u129 u130 u131 u132 u133 u134 u135 u136 u137 u138 u139 u140 u141 u142 u143 u144 u145 u146 u147 u148 u149 u150 u151 u152 u153 u154 u155 u156 u157 u158 u159 u160 u161 u162 u163 u164 u165 u166 u167 u168 u169 u170 u171 u172 u173 u174 u175 u176 u177 u178 u179 u180 u181 u182 u183 u184 u185 u186 u187 u188 u189 u190 u191 u192 u193 u194 u195 u196 u197 u198 u199 u200 u201 u202 u203 u204 u205 u206 u207 u208 u209 u210 u211 u212 u213 u214 u215 u216 u217 u218 : Value} {va vb x : Int}
    (hx : -9223372036854775808 ≤ x ∧ x ≤ 9223372036854775807) (la : Lt 1920 va) (lb : Lt 1920 vb)
    (hb : Below w.heap.size w wr) (h0 : w.heap.size ≤ g3)
    (o4 : g3 < g4)
    (b3 : Bx wr g3 (va)) (b4 : Bx wr g4 (vb)) :
    Code.wp Tryd.prog (tail14 4) (Q14 w) ⟨#[u0, u1, .int .i64 x, .pointer (some ⟨g3, 0, none⟩), .pointer (some ⟨g4, 0, none⟩), u5, u6, .bool true, u8, u9, u10, u11, u12, u13, u14, u15, u16, u17, u18, u19, u20, u21, u22, u23, u24, u25, u26, u27, u28, u29, u30, u31, u32, u33, u34, u35, u36, u37, u38, u39, u40, u41, u42, u43, u44, u45, u46, u47, u48, u49, u50, u51, u52, u53, u54, u55, u56, u57, u58, u59, u60, u61, u62, u63, u64, u65, u66, u67, u68, u69, u70, u71, u72, u73, u74, u75, u76, u77, u78, u79, u80, u81, u82, u83, u84, u85, u86, u87, u88, u89, u90, u91, u92, u93, u94, u95, u96, u97, u98, u99, u100, u101, u102, u103, u104, u105, u106, u107, u108, u109, u110, u111, u112, u113, u114, u115, u116, u117, u118, u119, u120, u121, u122, u123, u124, u125, u126, u127, u128, u129, u130, u131, u132, u133, u134, u135, u136, u137, u138, u139, u140, u141, u142, u143, u144, u145, u146, u147, u148, u149, u150, u151, u152, u153, u154, u155, u156, u157, u158, u159, u160, u161, u162, u163, u164, u165, u166, u167, u168, u169, u170, u171, u172, u173, u174, u175, u176, u177, u178, u179, u180, u181, u182, u183, u184, u185, u186, u187, u188, u189, u190, u191, u192, u193, u194, u195, u196, u197, u198, u199, u200, u201, u202, u203, u204, u205, u206, u207, u208, u209, u210, u211, u212, u213, u214, u215, u216, u217, u218], []⟩ wr := by
  show Code.wp Tryd.prog (Code.seq (head14 4) (tail14 5)) _ _ _
  conv => arg 2; arg 1; whnf
  have h1 := hx.1
  have h2 := hx.2
  clear hx
  go_wp2
  all_goals exact SF_5 (by omega) la lb hb h0 o4 b3 b4

set_option maxRecDepth 100000 in
set_option maxHeartbeats 2000000 in
theorem SF_3 {w wr : World} {g3 g4 : Nat} {u0 u1 u5 u6 u8 u9 u10 u11 u12 u13 u14 u15 u16 u17 u18 u19 u20 u21 u22 u23 u24 u25 u26 u27 u28 u29 u30 u31 u32 u33 u34 u35 u36 u37 u38 u39 u40 u41 u42 u43 u44 u45 u46 u47 u48 u49 u50 u51 u52 u53 u54 u55 u56 u57 u58 u59 u60 u61 u62 u63 u64 u65 u66 u67 u68 u69 u70 u71 u72 u73 u74 u75 u76 u77 u78 u79 u80 u81 u82 u83 u84 u85 u86 u87 u88 u89 u90 u91 u92 u93 u94 u95 u96 u97 u98 u99 u100 u101 u102 u103 u104 u105 u106 u107 u108 u109 u110 u111 u112 u113 u114 u115 u116 u117 u118 u119 u120 u121 u122 u123 u124 u125 u126 u127 u128 u129 u130 u131 u132 u133 u134 u135 u136 u137 u138 u139 u140 u141 u142 u143 u144 u145 u146 u147 u148 u149 u150 u151 u152 u153 u154 u155 u156 u157 u158 u159 u160 u161 u162 u163 u164 u165 u166 u167 u168 u169 u170 u171 u172 u173 u174 u175 u176 u177 u178 u179 u180 u181 u182 u183 u184 u185 u186 u187 u188 u189 u190 u191 u192 u193 u194 u195 u196 u197 u198 u199 u200 u201 u202 u203 u204 u205 u206 u207 u208 u209 u210 u211 u212 u213 u214 u215 u216 u217 u218 : Value} {va vb x : Int}
    (hx : -9223372036854775808 ≤ x ∧ x ≤ 9223372036854775807) (la : Lt 1920 va)
    (hb : Below w.heap.size w wr) (h0 : w.heap.size ≤ g3)
    (o4 : g3 < g4)
    (b3 : Bx wr g3 (va)) (b4 : Bx wr g4 (vb)) :
    Code.wp Tryd.prog (tail14 3) (Q14 w) ⟨#[u0, u1, .int .i64 x, .pointer (some ⟨g3, 0, none⟩), .pointer (some ⟨g4, 0, none⟩), u5, u6, .bool true, u8, u9, u10, u11, u12, u13, u14, u15, u16, u17, u18, u19, u20, u21, u22, u23, u24, u25, u26, u27, u28, u29, u30, u31, u32, u33, u34, u35, u36, u37, u38, u39, u40, u41, u42, u43, u44, u45, u46, u47, u48, u49, u50, u51, u52, u53, u54, u55, u56, u57, u58, u59, u60, u61, u62, u63, u64, u65, u66, u67, u68, u69, u70, u71, u72, u73, u74, u75, u76, u77, u78, u79, u80, u81, u82, u83, u84, u85, u86, u87, u88, u89, u90, u91, u92, u93, u94, u95, u96, u97, u98, u99, u100, u101, u102, u103, u104, u105, u106, u107, u108, u109, u110, u111, u112, u113, u114, u115, u116, u117, u118, u119, u120, u121, u122, u123, u124, u125, u126, u127, u128, u129, u130, u131, u132, u133, u134, u135, u136, u137, u138, u139, u140, u141, u142, u143, u144, u145, u146, u147, u148, u149, u150, u151, u152, u153, u154, u155, u156, u157, u158, u159, u160, u161, u162, u163, u164, u165, u166, u167, u168, u169, u170, u171, u172, u173, u174, u175, u176, u177, u178, u179, u180, u181, u182, u183, u184, u185, u186, u187, u188, u189, u190, u191, u192, u193, u194, u195, u196, u197, u198, u199, u200, u201, u202, u203, u204, u205, u206, u207, u208, u209, u210, u211, u212, u213, u214, u215, u216, u217, u218], []⟩ wr := by
  have b4' := b4
  obtain ⟨nA, aA, lA, cA, A, hHA, hRA, hEA⟩ := b4'
  obtain ⟨kA0, kA1, _, _⟩ := two_cells hHA
  have HEA := hid hEA
  clear hEA hHA
  show Code.wp Tryd.prog (Code.seq (head14 3) (tail14 4)) _ _ _
  conv => arg 2; arg 1; whnf
  go_wp2_with fail
  refine (few_any nA aA lA cA A 60 _ hRA (by decide) (by decide)).mono ?_
  rintro e w2 ⟨ao2, len2, cap2, rfl, hR2, hb2⟩
  have hlt : Lt 1920 (num nA (A.take 60)) := lt_take hRA.ok _ rfl
  obtain ⟨nP, aP, lP, cP, P, hHP, _, _⟩ := b4.keep hb2
  obtain ⟨kP0, kP1, kP2, kP3⟩ := two_cells hHP
  clear hHP
  go_wp2
  have hb3 := hb.trans (hb2.mono hb.size)
  exact SF_4 hx la hlt (below_put hb3 (by omega) _ _) h0 o4 ((b3.keep hb2).put_other (b4.keep hb2) (by omega) _ _) ((b4.keep hb2).put hR2 rfl)

set_option maxRecDepth 100000 in
set_option maxHeartbeats 2000000 in
theorem SF_2 {w wr : World} {g3 g4 : Nat} {u0 u1 u5 u6 u8 u9 u10 u11 u12 u13 u14 u15 u16 u17 u18 u19 u20 u21 u22 u23 u24 u25 u26 u27 u28 u29 u30 u31 u32 u33 u34 u35 u36 u37 u38 u39 u40 u41 u42 u43 u44 u45 u46 u47 u48 u49 u50 u51 u52 u53 u54 u55 u56 u57 u58 u59 u60 u61 u62 u63 u64 u65 u66 u67 u68 u69 u70 u71 u72 u73 u74 u75 u76 u77 u78 u79 u80 u81 u82 u83 u84 u85 u86 u87 u88 u89 u90 u91 u92 u93 u94 u95 u96 u97 u98 u99 u100 u101 u102 u103 u104 u105 u106 u107 u108 u109 u110 u111 u112 u113 u114 u115 u116 u117 u118 u119 u120 u121 u122 u123 u124 u125 u126 u127 u128 u129 u130 u131 u132 u133 u134 u135 u136 u137 u138 u139 u140 u141 u142 u143 u144 u145 u146 u147 u148 u149 u150 u151 u152 u153 u154 u155 u156 u157 u158 u159 u160 u161 u162 u163 u164 u165 u166 u167 u168 u169 u170 u171 u172 u173 u174 u175 u176 u177 u178 u179 u180 u181 u182 u183 u184 u185 u186 u187 u188 u189 u190 u191 u192 u193 u194 u195 u196 u197 u198 u199 u200 u201 u202 u203 u204 u205 u206 u207 u208 u209 u210 u211 u212 u213 u214 u215 u216 u217 u218 : Value} {va vb x : Int}
    (hx : -9223372036854775808 ≤ x ∧ x ≤ 9223372036854775807)
    (hb : Below w.heap.size w wr) (h0 : w.heap.size ≤ g3)
    (o4 : g3 < g4)
    (b3 : Bx wr g3 (va)) (b4 : Bx wr g4 (vb)) :
    Code.wp Tryd.prog (tail14 2) (Q14 w) ⟨#[u0, u1, .int .i64 x, .pointer (some ⟨g3, 0, none⟩), .pointer (some ⟨g4, 0, none⟩), u5, u6, .bool true, u8, u9, u10, u11, u12, u13, u14, u15, u16, u17, u18, u19, u20, u21, u22, u23, u24, u25, u26, u27, u28, u29, u30, u31, u32, u33, u34, u35, u36, u37, u38, u39, u40, u41, u42, u43, u44, u45, u46, u47, u48, u49, u50, u51, u52, u53, u54, u55, u56, u57, u58, u59, u60, u61, u62, u63, u64, u65, u66, u67, u68, u69, u70, u71, u72, u73, u74, u75, u76, u77, u78, u79, u80, u81, u82, u83, u84, u85, u86, u87, u88, u89, u90, u91, u92, u93, u94, u95, u96, u97, u98, u99, u100, u101, u102, u103, u104, u105, u106, u107, u108, u109, u110, u111, u112, u113, u114, u115, u116, u117, u118, u119, u120, u121, u122, u123, u124, u125, u126, u127, u128, u129, u130, u131, u132, u133, u134, u135, u136, u137, u138, u139, u140, u141, u142, u143, u144, u145, u146, u147, u148, u149, u150, u151, u152, u153, u154, u155, u156, u157, u158, u159, u160, u161, u162, u163, u164, u165, u166, u167, u168, u169, u170, u171, u172, u173, u174, u175, u176, u177, u178, u179, u180, u181, u182, u183, u184, u185, u186, u187, u188, u189, u190, u191, u192, u193, u194, u195, u196, u197, u198, u199, u200, u201, u202, u203, u204, u205, u206, u207, u208, u209, u210, u211, u212, u213, u214, u215, u216, u217, u218], []⟩ wr := by
  have b3' := b3
  obtain ⟨nA, aA, lA, cA, A, hHA, hRA, hEA⟩ := b3'
  obtain ⟨kA0, kA1, _, _⟩ := two_cells hHA
  have HEA := hid hEA
  clear hEA hHA
  show Code.wp Tryd.prog (Code.seq (head14 2) (tail14 3)) _ _ _
  conv => arg 2; arg 1; whnf
  go_wp2_with fail
  refine (few_any nA aA lA cA A 60 _ hRA (by decide) (by decide)).mono ?_
  rintro e w2 ⟨ao2, len2, cap2, rfl, hR2, hb2⟩
  have hlt : Lt 1920 (num nA (A.take 60)) := lt_take hRA.ok _ rfl
  obtain ⟨nP, aP, lP, cP, P, hHP, _, _⟩ := b3.keep hb2
  obtain ⟨kP0, kP1, kP2, kP3⟩ := two_cells hHP
  clear hHP
  go_wp2
  have hb3 := hb.trans (hb2.mono hb.size)
  exact SF_3 hx hlt (below_put hb3 (by omega) _ _) h0 o4 ((b3.keep hb2).put hR2 rfl) ((b4.keep hb2).put_other (b3.keep hb2) (by omega) _ _)

set_option maxRecDepth 100000 in
set_option maxHeartbeats 2000000 in
theorem shifts_yes {na : Bool} {aa : Option Addr} {la ca : Nat} {A : List Nat} {nb : Bool} {ab : Option Addr} {lb cb : Nat} {B : List Nat} (x : Int) (w : World) (hA : Rd w aa la ca A) (hB : Rd w ab lb cb B) (hx : -9223372036854775808 ≤ x ∧ x ≤ 9223372036854775807) :
    Calls Tryd.prog 14 #[.agg #[.bool na, .slice aa la ca], .agg #[.bool nb, .slice ab lb cb], .int .i64 x] w fun e w' => e = .returned (.bool true) ∧ Below w.heap.size w w' := by
  have X0 := (Bx.new (n := na) hA rfl).alloc (.cells #[.bool nb, .slice ab lb cb] 24)
  have X1 := Bx.new (n := nb) (hB.alloc (.cells #[.bool na, .slice aa la ca] 24)) rfl
  rw [show (w.alloc (.cells #[.bool na, .slice aa la ca] 24)).heap.size = w.heap.size + 1 by simp] at X1
  have hb := ((Below.refl w.heap.size w).alloc (Nat.le_refl _) (.cells #[.bool na, .slice aa la ca] 24)).alloc (by simp) (.cells #[.bool nb, .slice ab lb cb] 24)
  go_enter Tryd.func14, Tryd.ntmps14
  change Code.wp Tryd.prog (Code.seq (head14 0) (tail14 1)) (Q14 w) _ _
  conv => arg 2; arg 1; whnf
  go_wp2
  show Code.wp Tryd.prog (Code.seq (head14 1) (tail14 2)) _ _ _
  conv => arg 2; arg 1; whnf
  go_wp2_with fail
  refine (awake_yes _).mono ?_
  rintro e w2 ⟨rfl, hb2⟩
  go_wp2
  exact SF_2 hx (hb.trans (hb2.mono hb.size)) (Nat.le_refl _) (by simp) (X0.keep hb2) (X1.keep hb2)
end Go.Proofs.YtldafoojkimdeaaDoor
