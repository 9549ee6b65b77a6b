/- The law BigintForms, region by region. -/
import Derived.Test.YtldafoojkimdeaaDoorR11
namespace Go.Proofs.YtldafoojkimdeaaDoor
open Go.RowKit Lm

noncomputable def tail3 (n : Nat) : Code := seqDrop n (Tryd.f3.body.getD .skip)
noncomputable def head3 (n : Nat) : Code := seqHead (tail3 n)
noncomputable def Q3 (w : World) : Exit → Act → World → Prop := bodyPost Tryd.prog Tryd.f3 fun e w' => e = .returned (.bool true) ∧ Below w.heap.size w w'


set_option maxRecDepth 100000 in
set_option maxHeartbeats 4000000 in
theorem FO_17 {w wr : World} {g3 : Nat} {g4 : Nat} {g10 : Nat} {g11 : Nat} {u0 u1 u2 u5 u6 u8 u9 u15 u16 u17 u18 u19 u20 u22 u23 u26 u27 u28 u29 u30 u31 u32 u33 u34 u35 u36 u37 u38 u39 u40 u41 u42 u43 u44 u45 u46 u47 u48 u49 u50 u51 u52 u53 u54 u55 u56 u57 u58 u59 u60 u61 u62 u63 u64 u65 u66 u67 u68 u69 u70 u71 u72 u73 u74 u75 u76 u77 u78 u79 u80 u81 u82 u83 u84 u85 u86 u87 u88 u89 u90 u91 u92 u93 u94 u95 u96 u97 u98 u99 u100 u101 u102 u103 u104 u105 u106 u107 u108 u109 u110 u111 u112 u113 u114 u115 u116 u117 u118 u119 u120 u121 u122 u123 u124 u125 u126 u127 u128 u129 u130 u131 u132 u133 u134 u135 u136 u137 u138 u139 u140 u141 u142 u143 u144 u145 : Value}
    
    (hb : Below w.heap.size w wr)
     :
    Code.wp Tryd.prog (tail3 17) (Q3 w) ⟨#[u0, u1, u2, .pointer (some ⟨g3, 0, none⟩), .pointer (some ⟨g4, 0, none⟩), u5, u6, .bool true, u8, u9, .pointer (some ⟨g10, 0, none⟩), .pointer (some ⟨g11, 0, none⟩), .bool true, .bool true, .bool true, u15, u16, u17, u18, u19, u20, .bool true, u22, u23, .bool true, .bool true, u26, u27, u28, u29, u30, u31, u32, u33, u34, u35, u36, u37, u38, u39, u40, u41, u42, u43, u44, u45, u46, u47, u48, u49, u50, u51, u52, u53, u54, u55, u56, u57, u58, u59, u60, u61, u62, u63, u64, u65, u66, u67, u68, u69, u70, u71, u72, u73, u74, u75, u76, u77, u78, u79, u80, u81, u82, u83, u84, u85, u86, u87, u88, u89, u90, u91, u92, u93, u94, u95, u96, u97, u98, u99, u100, u101, u102, u103, u104, u105, u106, u107, u108, u109, u110, u111, u112, u113, u114, u115, u116, u117, u118, u119, u120, u121, u122, u123, u124, u125, u126, u127, u128, u129, u130, u131, u132, u133, u134, u135, u136, u137, u138, u139, u140, u141, u142, u143, u144, u145], []⟩ wr := by
  conv => arg 2; whnf
  unfold Q3
  go_wp2
  go_ret
  exact ⟨rfl, hb⟩

set_option maxRecDepth 100000 in
set_option maxHeartbeats 4000000 in
theorem FO_16 {w wr : World} {nb : Bool} {ab : Option Addr} {B : List Nat} {lb : Nat} {cb : Nat} {g3 : Nat} {g4 : Nat} {g10 : Nat} {g11 : Nat} {gu : Nat} {cu : Nat} {u0 u1 u2 u5 u6 u8 u9 u15 u16 u17 u18 u19 u20 u22 u23 u25 u26 u27 u28 u29 u30 u31 u32 u33 u34 u35 u36 u37 u38 u39 u40 u41 u42 u43 u44 u45 u46 u47 u48 u49 u50 u51 u52 u53 u54 u55 u56 u57 u58 u59 u60 u61 u62 u63 u64 u65 u66 u67 u68 u69 u70 u71 u72 u73 u74 u75 u76 u77 u78 u79 u80 u81 u82 u83 u84 u85 u86 u87 u88 u89 u90 u91 u92 u93 u94 u95 u96 u97 u98 u99 u100 u101 u102 u103 u104 u105 u106 u107 u108 u109 u110 u111 u112 u113 u114 u115 u116 u117 u118 u119 u120 u121 u122 u123 u124 u125 u126 u127 u128 u129 u130 u131 u132 u133 u134 u135 u136 u137 u138 u139 u140 u141 u142 u143 u144 u145 : Value}
    (rB : Rd w ab lb cb B) (sB : lb ≤ 1048576)
    (hb : Below w.heap.size w wr)
    (pb : Pr wr g4 24 (.bool nb) (.slice ab lb cb)) (pu : Pr wr g11 24 (.bool nb) (.slice (some ⟨gu, 0, none⟩) lb cu)) (lu : Lent w.heap.size wr gu lb cu B) :
    Code.wp Tryd.prog (tail3 16) (Q3 w) ⟨#[u0, u1, u2, .pointer (some ⟨g3, 0, none⟩), .pointer (some ⟨g4, 0, none⟩), u5, u6, .bool true, u8, u9, .pointer (some ⟨g10, 0, none⟩), .pointer (some ⟨g11, 0, none⟩), .bool true, .bool true, .bool true, u15, u16, u17, u18, u19, u20, .bool true, u22, u23, .bool true, u25, u26, u27, u28, u29, u30, u31, u32, u33, u34, u35, u36, u37, u38, u39, u40, u41, u42, u43, u44, u45, u46, u47, u48, u49, u50, u51, u52, u53, u54, u55, u56, u57, u58, u59, u60, u61, u62, u63, u64, u65, u66, u67, u68, u69, u70, u71, u72, u73, u74, u75, u76, u77, u78, u79, u80, u81, u82, u83, u84, u85, u86, u87, u88, u89, u90, u91, u92, u93, u94, u95, u96, u97, u98, u99, u100, u101, u102, u103, u104, u105, u106, u107, u108, u109, u110, u111, u112, u113, u114, u115, u116, u117, u118, u119, u120, u121, u122, u123, u124, u125, u126, u127, u128, u129, u130, u131, u132, u133, u134, u135, u136, u137, u138, u139, u140, u141, u142, u143, u144, u145], []⟩ wr := by
  obtain ⟨kpu0, kpu1, _, _⟩ := two_cells pu
  obtain ⟨kpb0, kpb1, _, _⟩ := two_cells pb
  show Code.wp Tryd.prog (Code.seq (head3 16) (tail3 17)) _ _ _
  conv => arg 2; arg 1; whnf
  go_wp2_with fail
  refine (heldR nb gu cu ab lb cb B w wr rB hb lu (by omega)).mono ?_
  rintro e w2 ⟨rfl, hb2, hst⟩
  go_wp2
  exact FO_17  (hb2) 

set_option maxRecDepth 100000 in
set_option maxHeartbeats 4000000 in
theorem FO_13 {w wr : World} {na : Bool} {nb : Bool} {nx : Bool} {ny : Bool} {aa : Option Addr} {ab : Option Addr} {xo : Option Addr} {yo : Option Addr} {A : List Nat} {B : List Nat} {va : Int} {vb : Int} {n : Int} {k : Int} {f : Bool} {la : Nat} {ca : Nat} {lb : Nat} {cb : Nat} {xl : Nat} {xc : Nat} {yl : Nat} {yc : Nat} {g3 : Nat} {g4 : Nat} {g8 : Nat} {g9 : Nat} {g10 : Nat} {g11 : Nat} {gt : Nat} {ct : Nat} {gu : Nat} {cu : Nat} {u0 u1 u5 u6 u22 u23 u24 u25 u26 u27 u28 u29 u30 u31 u32 u33 u34 u35 u36 u37 u38 u39 u40 u41 u42 u43 u44 u45 u46 u47 u48 u49 u50 u51 u52 u53 u54 u55 u56 u57 u58 u59 u60 u61 u62 u63 u64 u65 u66 u67 u68 u69 u70 u71 u72 u73 u74 u75 u76 u77 u78 u79 u80 u81 u82 u83 u84 u85 u86 u87 u88 u89 u90 u91 u92 u93 u94 u95 u96 u97 u98 u99 u100 u101 u102 u103 u104 u105 u106 u107 u108 u109 u110 u111 u112 u113 u114 u115 u116 u117 u118 u119 u120 u121 u122 u123 u124 u125 u126 u127 u128 u129 u130 u131 u132 u133 u134 u135 u136 u137 u138 u139 u140 u141 u142 u143 u144 u145 : Value}
    (rA : Rd w aa la ca A) (rB : Rd w ab lb cb B) (zA : Hid (aa = none → ca = 0)) (zB : Hid (ab = none → cb = 0)) (sA : la ≤ 1048576) (sB : lb ≤ 1048576) (hva : Hid (num na A = va)) (hvb : Hid (num nb B = vb)) (hn1 : Hid (-9223372036854775808 ≤ n)) (hn2 : Hid (n ≤ 9223372036854775807)) (hxl : xl ≤ 33554432) (hyl : yl ≤ 33554432) (hg : Hid (gt < gu)) (hk : Hid (k = as64 va)) (hf : Hid (f = fits64 va))
    (hb : Below w.heap.size w wr)
    (pa : Pr wr g3 24 (.bool na) (.slice aa la ca)) (pb : Pr wr g4 24 (.bool nb) (.slice ab lb cb)) (px : Pr wr g8 28 (.bool nx) (.slice xo xl xc)) (bx : Big wr nx xo xl xc va) (py : Pr wr g9 28 (.bool ny) (.slice yo yl yc)) (b_y : Big wr ny yo yl yc vb) (pt : Pr wr g10 24 (.bool na) (.slice (some ⟨gt, 0, none⟩) la ct)) (lt_ : Lent w.heap.size wr gt la ct A) (pu : Pr wr g11 24 (.bool nb) (.slice (some ⟨gu, 0, none⟩) lb cu)) (lu : Lent w.heap.size wr gu lb cu B) :
    Code.wp Tryd.prog (tail3 13) (Q3 w) ⟨#[u0, u1, .int .i64 n, .pointer (some ⟨g3, 0, none⟩), .pointer (some ⟨g4, 0, none⟩), u5, u6, .bool true, .pointer (some ⟨g8, 0, none⟩), .pointer (some ⟨g9, 0, none⟩), .pointer (some ⟨g10, 0, none⟩), .pointer (some ⟨g11, 0, none⟩), .bool true, .bool true, .bool true, .int .i64 k, .bool f, .int .i64 k, .bool f, .int .i64 n, .bool true, .bool true, u22, u23, u24, u25, u26, u27, u28, u29, u30, u31, u32, u33, u34, u35, u36, u37, u38, u39, u40, u41, u42, u43, u44, u45, u46, u47, u48, u49, u50, u51, u52, u53, u54, u55, u56, u57, u58, u59, u60, u61, u62, u63, u64, u65, u66, u67, u68, u69, u70, u71, u72, u73, u74, u75, u76, u77, u78, u79, u80, u81, u82, u83, u84, u85, u86, u87, u88, u89, u90, u91, u92, u93, u94, u95, u96, u97, u98, u99, u100, u101, u102, u103, u104, u105, u106, u107, u108, u109, u110, u111, u112, u113, u114, u115, u116, u117, u118, u119, u120, u121, u122, u123, u124, u125, u126, u127, u128, u129, u130, u131, u132, u133, u134, u135, u136, u137, u138, u139, u140, u141, u142, u143, u144, u145], []⟩ wr := by
  obtain ⟨kpt0, kpt1, _, _⟩ := two_cells pt
  show Code.wp Tryd.prog (Code.seq (head3 13) (Code.seq (head3 14) (Code.seq (head3 15) (tail3 16)))) _ _ _
  conv => arg 2; arg 1; whnf
  conv => arg 2; arg 2; arg 1; whnf
  conv => arg 2; arg 2; arg 2; arg 1; whnf
  go_wp2_with fail
  refine (norm_any na _ la _ A _ (lt_.rd rA.ok (by omega))).mono ?_
  rintro e w2 ⟨n5, ao5, l5, rfl, hN, hb2⟩
  obtain ⟨L5, oL, tL, hO, _, _, hLm⟩ := hN
  have hl5 : l5 ≤ 70368744177664 := by rcases hO with ⟨_, _, h⟩ | ⟨_, h, _⟩ <;> omega
  have hS : l5 = 0 ∨ ∃ g L, ao5 = some ⟨g, 0, none⟩ ∧ wr.heap.size ≤ g ∧ g < w2.heap.size ∧ Hid (L.length = l5) ∧ Rw (w2.alloc (.cells #[.bool n5, .slice ao5 l5 l5] 24)) g L := by
    rcases hO with ⟨_, _, h⟩ | ⟨_, h, g, h1, h2, h3⟩
    · exact .inl h
    · exact .inr ⟨g, L5, h2, h1, h3.lt, hid h.symm, h3.alloc _⟩
  have hbA := hb2.alloc hb2.size (.cells #[.bool n5, .slice ao5 l5 l5] 24)
  have hs2 := hb2.size
  clear hO hb2
  go_wp2
  go_loopw [23] (fun i ws => ∃ (k5 : Nat), k5 ≤ l5 ∧ i = .int .i64 (k5 : Int) ∧ Pr ws w2.heap.size 24 (.bool n5) (.slice ao5 l5 l5) ∧ (l5 = 0 ∨ ∃ g L, ao5 = some ⟨g, 0, none⟩ ∧ wr.heap.size ≤ g ∧ g < w2.heap.size ∧ Hid (L.length = l5) ∧ Rw ws g L) ∧ Below wr.heap.size wr ws) (fun i _ => l5 - (intOf i).toNat)
  case atStart => exact ⟨0, by omega, rfl, Pr.new _ _ _ _, hS, hbA⟩
  case round =>
    clear hS hbA
    obtain ⟨k5, hk5, rfl, hpo, hS', hbL⟩ := hrel
    obtain ⟨ko0, ko1, _, _⟩ := two_cells hpo
    by_cases hgo : k5 < l5
    · rcases hS' with h | ⟨g, L, rfl, hg1, hg2, hLl, hR⟩
      · omega
      have hfr := hR.free k5
      have hcur := hR.cell k5 (by rw [hLl.out]; exact hgo)
      go_wp2
      go_roundw
      case rel => exact ⟨k5 + 1, by omega, by go_num, heap_set hpo (by simp; omega), .inr ⟨g, L.set k5 3, rfl, hg1, hg2, hid (by rw [List.length_set, hLl.out]), hR.set' k5 3 rfl⟩, hbL.setCell hg1 _⟩
      case measure => simp [intOf]; omega
    · have pa' := pa.keep hbL
      have pb' := pb.keep hbL
      have pt' := pt.keep hbL
      have pu' := pu.keep hbL
      have lt' := lt_.keep hbL
      have lu' := lu.keep hbL
      obtain ⟨a0, a1, _, _⟩ := two_cells pa'
      obtain ⟨b0, b1, _, _⟩ := two_cells pb'
      obtain ⟨t0, t1, _, _⟩ := two_cells pt'
      obtain ⟨u0_, u1_, _, _⟩ := two_cells pu'
      have n1 := lt'.apart pb'
      have n2 := lt'.apart pu'
      have hbW := hb.trans (hbL.mono hb.size)
      go_wp2_with (first
        | (go_at_call 33; (with_reducible refine (heldR na gt ct aa la ca A w _ rA hbW lt' (by omega)).mono ?_); rintro e w6 ⟨rfl, hb6, hst⟩; have pb6 := (hst _ pb'.lt n1).trans pb'; have pu6 := (hst _ pu'.lt n2).trans pu'; have lu6 := lu'.same (hst _ lu'.ge.2 (by have := hg.out; omega)); obtain ⟨b06, b16, _, _⟩ := two_cells pb6; obtain ⟨u06, u16, _, _⟩ := two_cells pu6)
        | fail)
      exact FO_16 (rB) (sB) (hb6) (pb6) (pu6) (lu6)

set_option maxRecDepth 100000 in
set_option maxHeartbeats 4000000 in
theorem FO_12 {w wr : World} {na : Bool} {nb : Bool} {nx : Bool} {ny : Bool} {aa : Option Addr} {ab : Option Addr} {xo : Option Addr} {yo : Option Addr} {A : List Nat} {B : List Nat} {va : Int} {vb : Int} {n : Int} {k : Int} {f : Bool} {la : Nat} {ca : Nat} {lb : Nat} {cb : Nat} {xl : Nat} {xc : Nat} {yl : Nat} {yc : Nat} {g3 : Nat} {g4 : Nat} {g8 : Nat} {g9 : Nat} {g10 : Nat} {g11 : Nat} {gt : Nat} {ct : Nat} {gu : Nat} {cu : Nat} {u0 u1 u5 u6 u21 u22 u23 u24 u25 u26 u27 u28 u29 u30 u31 u32 u33 u34 u35 u36 u37 u38 u39 u40 u41 u42 u43 u44 u45 u46 u47 u48 u49 u50 u51 u52 u53 u54 u55 u56 u57 u58 u59 u60 u61 u62 u63 u64 u65 u66 u67 u68 u69 u70 u71 u72 u73 u74 u75 u76 u77 u78 u79 u80 u81 u82 u83 u84 u85 u86 u87 u88 u89 u90 u91 u92 u93 u94 u95 u96 u97 u98 u99 u100 u101 u102 u103 u104 u105 u106 u107 u108 u109 u110 u111 u112 u113 u114 u115 u116 u117 u118 u119 u120 u121 u122 u123 u124 u125 u126 u127 u128 u129 u130 u131 u132 u133 u134 u135 u136 u137 u138 u139 u140 u141 u142 u143 u144 u145 : Value}
    (rA : Rd w aa la ca A) (rB : Rd w ab lb cb B) (zA : Hid (aa = none → ca = 0)) (zB : Hid (ab = none → cb = 0)) (sA : la ≤ 1048576) (sB : lb ≤ 1048576) (hva : Hid (num na A = va)) (hvb : Hid (num nb B = vb)) (hn1 : Hid (-9223372036854775808 ≤ n)) (hn2 : Hid (n ≤ 9223372036854775807)) (hxl : xl ≤ 33554432) (hyl : yl ≤ 33554432) (hg : Hid (gt < gu)) (hk : Hid (k = as64 va)) (hf : Hid (f = fits64 va))
    (hb : Below w.heap.size w wr)
    (pa : Pr wr g3 24 (.bool na) (.slice aa la ca)) (pb : Pr wr g4 24 (.bool nb) (.slice ab lb cb)) (px : Pr wr g8 28 (.bool nx) (.slice xo xl xc)) (bx : Big wr nx xo xl xc va) (py : Pr wr g9 28 (.bool ny) (.slice yo yl yc)) (b_y : Big wr ny yo yl yc vb) (pt : Pr wr g10 24 (.bool na) (.slice (some ⟨gt, 0, none⟩) la ct)) (lt_ : Lent w.heap.size wr gt la ct A) (pu : Pr wr g11 24 (.bool nb) (.slice (some ⟨gu, 0, none⟩) lb cu)) (lu : Lent w.heap.size wr gu lb cu B) :
    Code.wp Tryd.prog (tail3 12) (Q3 w) ⟨#[u0, u1, .int .i64 n, .pointer (some ⟨g3, 0, none⟩), .pointer (some ⟨g4, 0, none⟩), u5, u6, .bool true, .pointer (some ⟨g8, 0, none⟩), .pointer (some ⟨g9, 0, none⟩), .pointer (some ⟨g10, 0, none⟩), .pointer (some ⟨g11, 0, none⟩), .bool true, .bool true, .bool true, .int .i64 k, .bool f, .int .i64 k, .bool f, .int .i64 n, .bool true, u21, u22, u23, u24, u25, u26, u27, u28, u29, u30, u31, u32, u33, u34, u35, u36, u37, u38, u39, u40, u41, u42, u43, u44, u45, u46, u47, u48, u49, u50, u51, u52, u53, u54, u55, u56, u57, u58, u59, u60, u61, u62, u63, u64, u65, u66, u67, u68, u69, u70, u71, u72, u73, u74, u75, u76, u77, u78, u79, u80, u81, u82, u83, u84, u85, u86, u87, u88, u89, u90, u91, u92, u93, u94, u95, u96, u97, u98, u99, u100, u101, u102, u103, u104, u105, u106, u107, u108, u109, u110, u111, u112, u113, u114, u115, u116, u117, u118, u119, u120, u121, u122, u123, u124, u125, u126, u127, u128, u129, u130, u131, u132, u133, u134, u135, u136, u137, u138, u139, u140, u141, u142, u143, u144, u145], []⟩ wr := by
  have hxe : Hid (bl (val A) = xl) := hid (by rw [bx.len, ← hva.out, num_abs])
  have d_pa := pa.drew
  have d_pb := pb.drew
  have d_px := px.drew
  have d_bx := bx.drew
  have d_py := py.drew
  have d_b_y := b_y.drew
  have d_pt := pt.drew
  have d_lt_ := lt_.drew
  have d_pu := pu.drew
  have d_lu := lu.drew
  have h_pt := hid d_pt
  have h_pu := hid d_pu
  have h_px := hid d_px
  have h_py := hid d_py
  clear d_pt d_pu d_px d_py
  obtain ⟨kpt0, kpt1, _, _⟩ := two_cells pt
  obtain ⟨kpu0, kpu1, _, _⟩ := two_cells pu
  obtain ⟨kpx0, kpx1, _, _⟩ := two_cells px
  obtain ⟨kpy0, kpy1, _, _⟩ := two_cells py
  have hacc : Below wr.heap.size wr wr.drew := (Below.refl _ _).drew
  show Code.wp Tryd.prog (Code.seq (head3 12) (tail3 13)) _ _ _
  conv => arg 2; arg 1; whnf
  go_wp2_with fail
  go_region_held3 (fun w' => w'.cell? ⟨g10, 0, none⟩ = some (.bool na) ∧ w'.cell? ⟨g10, 1, none⟩ = some (.slice (some ⟨gt, 0, none⟩) la ct) ∧ w'.cell? ⟨g11, 0, none⟩ = some (.bool nb) ∧ w'.cell? ⟨g11, 1, none⟩ = some (.slice (some ⟨gu, 0, none⟩) lb cu) ∧ w'.cell? ⟨g8, 0, none⟩ = some (.bool nx) ∧ w'.cell? ⟨g8, 1, none⟩ = some (.slice xo xl xc) ∧ w'.cell? ⟨g9, 0, none⟩ = some (.bool ny) ∧ w'.cell? ⟨g9, 1, none⟩ = some (.slice yo yl yc))
    (first
      | go_keep
      | (with_reducible exact ⟨(two_cells h_pt.out).1, (two_cells h_pt.out).2.1, (two_cells h_pu.out).1, (two_cells h_pu.out).2.1, (two_cells h_px.out).1, (two_cells h_px.out).2.1, (two_cells h_py.out).1, (two_cells h_py.out).2.1⟩))
    (first
      | (go_at_call 28; (with_reducible refine (sign_v (d_lt_.rd rA.ok (by omega)) hva.out).mono ?_); rintro e w5 ⟨rfl, hbk⟩; have h_pt := hid (heap_keep h_pt.out hbk); have h_pu := hid (heap_keep h_pu.out hbk); have h_px := hid (heap_keep h_px.out hbk); have h_py := hid (heap_keep h_py.out hbk); have d_pa := d_pa.keep hbk; have d_pb := d_pb.keep hbk; have d_bx := d_bx.keep hbk; have d_b_y := d_b_y.keep hbk; have d_lt_ := d_lt_.keep hbk; have d_lu := d_lu.keep hbk; have hacc := hacc.trans (hbk.mono hacc.size))
      | (go_at_call 29; (with_reducible refine (signR _ _ _ _ va _ d_bx).mono ?_); rintro e w5 ⟨rfl, hbk⟩; have h_pt := hid (heap_keep h_pt.out hbk); have h_pu := hid (heap_keep h_pu.out hbk); have h_px := hid (heap_keep h_px.out hbk); have h_py := hid (heap_keep h_py.out hbk); have d_pa := d_pa.keep hbk; have d_pb := d_pb.keep hbk; have d_bx := d_bx.keep hbk; have d_b_y := d_b_y.keep hbk; have d_lt_ := d_lt_.keep hbk; have d_lu := d_lu.keep hbk; have hacc := hacc.trans (hbk.mono hacc.size))
      | (go_at_call 30; (with_reducible refine (cmp_v (d_lt_.rd rA.ok (by omega)) hva.out (d_lu.rd rB.ok (by omega)) hvb.out).mono ?_); rintro e w5 ⟨rfl, hbk⟩; have h_pt := hid (heap_keep h_pt.out hbk); have h_pu := hid (heap_keep h_pu.out hbk); have h_px := hid (heap_keep h_px.out hbk); have h_py := hid (heap_keep h_py.out hbk); have d_pa := d_pa.keep hbk; have d_pb := d_pb.keep hbk; have d_bx := d_bx.keep hbk; have d_b_y := d_b_y.keep hbk; have d_lt_ := d_lt_.keep hbk; have d_lu := d_lu.keep hbk; have hacc := hacc.trans (hbk.mono hacc.size))
      | (go_at_call 31; (with_reducible refine (cmpR _ _ _ _ va _ _ _ _ vb _ d_bx d_b_y (by omega) (by omega)).mono ?_); rintro e w5 ⟨rfl, hbk⟩; have h_pt := hid (heap_keep h_pt.out hbk); have h_pu := hid (heap_keep h_pu.out hbk); have h_px := hid (heap_keep h_px.out hbk); have h_py := hid (heap_keep h_py.out hbk); have d_pa := d_pa.keep hbk; have d_pb := d_pb.keep hbk; have d_bx := d_bx.keep hbk; have d_b_y := d_b_y.keep hbk; have d_lt_ := d_lt_.keep hbk; have d_lu := d_lu.keep hbk; have hacc := hacc.trans (hbk.mono hacc.size))
      | (go_at_call 32; (with_reducible refine (bits_v (d_lt_.rd rA.ok (by omega)) hxe.out).mono ?_); rintro e w5 ⟨rfl, hbk⟩; have h_pt := hid (heap_keep h_pt.out hbk); have h_pu := hid (heap_keep h_pu.out hbk); have h_px := hid (heap_keep h_px.out hbk); have h_py := hid (heap_keep h_py.out hbk); have d_pa := d_pa.keep hbk; have d_pb := d_pb.keep hbk; have d_bx := d_bx.keep hbk; have d_b_y := d_b_y.keep hbk; have d_lt_ := d_lt_.keep hbk; have d_lu := d_lu.keep hbk; have hacc := hacc.trans (hbk.mono hacc.size)))
  all_goals
    go_wp2
    exact FO_13 (rA) (rB) (zA) (zB) (sA) (sB) (hva) (hvb) (hn1) (hn2) (hxl) (hyl) (hg) (hk) (hf) (hb.trans (hacc.mono hb.size)) (d_pa) (d_pb) (h_px.out) (d_bx) (h_py.out) (d_b_y) (h_pt.out) (d_lt_) (h_pu.out) (d_lu)

set_option maxRecDepth 100000 in
set_option maxHeartbeats 4000000 in
theorem FO_11 {w wr : World} {na : Bool} {nb : Bool} {nx : Bool} {ny : Bool} {aa : Option Addr} {ab : Option Addr} {xo : Option Addr} {yo : Option Addr} {A : List Nat} {B : List Nat} {va : Int} {vb : Int} {n : Int} {k : Int} {f : Bool} {la : Nat} {ca : Nat} {lb : Nat} {cb : Nat} {xl : Nat} {xc : Nat} {yl : Nat} {yc : Nat} {g3 : Nat} {g4 : Nat} {g8 : Nat} {g9 : Nat} {g10 : Nat} {g11 : Nat} {gt : Nat} {ct : Nat} {gu : Nat} {cu : Nat} {u0 u1 u5 u6 u19 u20 u21 u22 u23 u24 u25 u26 u27 u28 u29 u30 u31 u32 u33 u34 u35 u36 u37 u38 u39 u40 u41 u42 u43 u44 u45 u46 u47 u48 u49 u50 u51 u52 u53 u54 u55 u56 u57 u58 u59 u60 u61 u62 u63 u64 u65 u66 u67 u68 u69 u70 u71 u72 u73 u74 u75 u76 u77 u78 u79 u80 u81 u82 u83 u84 u85 u86 u87 u88 u89 u90 u91 u92 u93 u94 u95 u96 u97 u98 u99 u100 u101 u102 u103 u104 u105 u106 u107 u108 u109 u110 u111 u112 u113 u114 u115 u116 u117 u118 u119 u120 u121 u122 u123 u124 u125 u126 u127 u128 u129 u130 u131 u132 u133 u134 u135 u136 u137 u138 u139 u140 u141 u142 u143 u144 u145 : Value}
    (rA : Rd w aa la ca A) (rB : Rd w ab lb cb B) (zA : Hid (aa = none → ca = 0)) (zB : Hid (ab = none → cb = 0)) (sA : la ≤ 1048576) (sB : lb ≤ 1048576) (hva : Hid (num na A = va)) (hvb : Hid (num nb B = vb)) (hn1 : Hid (-9223372036854775808 ≤ n)) (hn2 : Hid (n ≤ 9223372036854775807)) (hxl : xl ≤ 33554432) (hyl : yl ≤ 33554432) (hg : Hid (gt < gu)) (hk : Hid (k = as64 va)) (hf : Hid (f = fits64 va))
    (hb : Below w.heap.size w wr)
    (pa : Pr wr g3 24 (.bool na) (.slice aa la ca)) (pb : Pr wr g4 24 (.bool nb) (.slice ab lb cb)) (px : Pr wr g8 28 (.bool nx) (.slice xo xl xc)) (bx : Big wr nx xo xl xc va) (py : Pr wr g9 28 (.bool ny) (.slice yo yl yc)) (b_y : Big wr ny yo yl yc vb) (pt : Pr wr g10 24 (.bool na) (.slice (some ⟨gt, 0, none⟩) la ct)) (lt_ : Lent w.heap.size wr gt la ct A) (pu : Pr wr g11 24 (.bool nb) (.slice (some ⟨gu, 0, none⟩) lb cu)) (lu : Lent w.heap.size wr gu lb cu B) :
    Code.wp Tryd.prog (tail3 11) (Q3 w) ⟨#[u0, u1, .int .i64 n, .pointer (some ⟨g3, 0, none⟩), .pointer (some ⟨g4, 0, none⟩), u5, u6, .bool true, .pointer (some ⟨g8, 0, none⟩), .pointer (some ⟨g9, 0, none⟩), .pointer (some ⟨g10, 0, none⟩), .pointer (some ⟨g11, 0, none⟩), .bool true, .bool true, .bool true, .int .i64 k, .bool f, .int .i64 k, .bool f, u19, u20, u21, u22, u23, u24, u25, u26, u27, u28, u29, u30, u31, u32, u33, u34, u35, u36, u37, u38, u39, u40, u41, u42, u43, u44, u45, u46, u47, u48, u49, u50, u51, u52, u53, u54, u55, u56, u57, u58, u59, u60, u61, u62, u63, u64, u65, u66, u67, u68, u69, u70, u71, u72, u73, u74, u75, u76, u77, u78, u79, u80, u81, u82, u83, u84, u85, u86, u87, u88, u89, u90, u91, u92, u93, u94, u95, u96, u97, u98, u99, u100, u101, u102, u103, u104, u105, u106, u107, u108, u109, u110, u111, u112, u113, u114, u115, u116, u117, u118, u119, u120, u121, u122, u123, u124, u125, u126, u127, u128, u129, u130, u131, u132, u133, u134, u135, u136, u137, u138, u139, u140, u141, u142, u143, u144, u145], []⟩ wr := by
  have hfn : Hid (fits64 n = true) := hid (by unfold fits64; simp; exact ⟨hn1.out, hn2.out⟩)
  show Code.wp Tryd.prog (Code.seq (head3 11) (tail3 12)) _ _ _
  conv => arg 2; arg 1; whnf
  go_wp2_with (first
    | (go_at_call 24; refine (from_any n _ hn1.out hn2.out).mono ?_; rintro e w2 ⟨n1, ao1, len1, rfl, hN, hb2⟩; obtain ⟨C1, hR1, hE1⟩ := hN.read; have HE1 := hid hE1; clear hE1)
    | (go_at_call 26; refine (to_any _ _ _ _ C1 _ hR1).mono ?_; rintro e w3 ⟨rfl, hbx⟩; rw [HE1.out, as64_in _ hfn.out, hfn.out]))
  have hall : Below wr.heap.size wr w3 := hb2.trans (hbx.mono hb2.size)
  exact FO_12 (rA) (rB) (zA) (zB) (sA) (sB) (hva) (hvb) (hn1) (hn2) (hxl) (hyl) (hg) (hk) (hf) (hb.trans (hall.mono hb.size)) (pa.keep hall) (pb.keep hall) (px.keep hall) (bx.keep hall) (py.keep hall) (b_y.keep hall) (pt.keep hall) (lt_.keep hall) (pu.keep hall) (lu.keep hall)

set_option maxRecDepth 100000 in
set_option maxHeartbeats 4000000 in
theorem FO_10 {w wr : World} {na : Bool} {nb : Bool} {nx : Bool} {ny : Bool} {aa : Option Addr} {ab : Option Addr} {xo : Option Addr} {yo : Option Addr} {A : List Nat} {B : List Nat} {va : Int} {vb : Int} {n : Int} {k : Int} {f : Bool} {la : Nat} {ca : Nat} {lb : Nat} {cb : Nat} {xl : Nat} {xc : Nat} {yl : Nat} {yc : Nat} {g3 : Nat} {g4 : Nat} {g8 : Nat} {g9 : Nat} {g10 : Nat} {g11 : Nat} {gt : Nat} {ct : Nat} {gu : Nat} {cu : Nat} {u0 u1 u5 u6 u17 u18 u19 u20 u21 u22 u23 u24 u25 u26 u27 u28 u29 u30 u31 u32 u33 u34 u35 u36 u37 u38 u39 u40 u41 u42 u43 u44 u45 u46 u47 u48 u49 u50 u51 u52 u53 u54 u55 u56 u57 u58 u59 u60 u61 u62 u63 u64 u65 u66 u67 u68 u69 u70 u71 u72 u73 u74 u75 u76 u77 u78 u79 u80 u81 u82 u83 u84 u85 u86 u87 u88 u89 u90 u91 u92 u93 u94 u95 u96 u97 u98 u99 u100 u101 u102 u103 u104 u105 u106 u107 u108 u109 u110 u111 u112 u113 u114 u115 u116 u117 u118 u119 u120 u121 u122 u123 u124 u125 u126 u127 u128 u129 u130 u131 u132 u133 u134 u135 u136 u137 u138 u139 u140 u141 u142 u143 u144 u145 : Value}
    (rA : Rd w aa la ca A) (rB : Rd w ab lb cb B) (zA : Hid (aa = none → ca = 0)) (zB : Hid (ab = none → cb = 0)) (sA : la ≤ 1048576) (sB : lb ≤ 1048576) (hva : Hid (num na A = va)) (hvb : Hid (num nb B = vb)) (hn1 : Hid (-9223372036854775808 ≤ n)) (hn2 : Hid (n ≤ 9223372036854775807)) (hxl : xl ≤ 33554432) (hyl : yl ≤ 33554432) (hg : Hid (gt < gu)) (hk : Hid (k = as64 va)) (hf : Hid (f = fits64 va))
    (hb : Below w.heap.size w wr)
    (pa : Pr wr g3 24 (.bool na) (.slice aa la ca)) (pb : Pr wr g4 24 (.bool nb) (.slice ab lb cb)) (px : Pr wr g8 28 (.bool nx) (.slice xo xl xc)) (bx : Big wr nx xo xl xc va) (py : Pr wr g9 28 (.bool ny) (.slice yo yl yc)) (b_y : Big wr ny yo yl yc vb) (pt : Pr wr g10 24 (.bool na) (.slice (some ⟨gt, 0, none⟩) la ct)) (lt_ : Lent w.heap.size wr gt la ct A) (pu : Pr wr g11 24 (.bool nb) (.slice (some ⟨gu, 0, none⟩) lb cu)) (lu : Lent w.heap.size wr gu lb cu B) :
    Code.wp Tryd.prog (tail3 10) (Q3 w) ⟨#[u0, u1, .int .i64 n, .pointer (some ⟨g3, 0, none⟩), .pointer (some ⟨g4, 0, none⟩), u5, u6, .bool true, .pointer (some ⟨g8, 0, none⟩), .pointer (some ⟨g9, 0, none⟩), .pointer (some ⟨g10, 0, none⟩), .pointer (some ⟨g11, 0, none⟩), .bool true, .bool true, .bool true, .int .i64 k, .bool f, u17, u18, u19, u20, u21, u22, u23, u24, u25, u26, u27, u28, u29, u30, u31, u32, u33, u34, u35, u36, u37, u38, u39, u40, u41, u42, u43, u44, u45, u46, u47, u48, u49, u50, u51, u52, u53, u54, u55, u56, u57, u58, u59, u60, u61, u62, u63, u64, u65, u66, u67, u68, u69, u70, u71, u72, u73, u74, u75, u76, u77, u78, u79, u80, u81, u82, u83, u84, u85, u86, u87, u88, u89, u90, u91, u92, u93, u94, u95, u96, u97, u98, u99, u100, u101, u102, u103, u104, u105, u106, u107, u108, u109, u110, u111, u112, u113, u114, u115, u116, u117, u118, u119, u120, u121, u122, u123, u124, u125, u126, u127, u128, u129, u130, u131, u132, u133, u134, u135, u136, u137, u138, u139, u140, u141, u142, u143, u144, u145], []⟩ wr := by
  obtain ⟨kpx0, kpx1, _, _⟩ := two_cells px
  show Code.wp Tryd.prog (Code.seq (head3 10) (tail3 11)) _ _ _
  conv => arg 2; arg 1; whnf
  go_wp2_with fail
  refine (toR _ _ _ _ va _ bx).mono ?_
  rintro e w2 ⟨rfl, hb2⟩
  rw [← hk.out, ← hf.out]
  go_wp2
  have hb3 := hb.trans (hb2.mono hb.size)
  exact FO_11 (rA) (rB) (zA) (zB) (sA) (sB) (hva) (hvb) (hn1) (hn2) (hxl) (hyl) (hg) (hk) (hf) (hb3) (pa.keep hb2) (pb.keep hb2) (px.keep hb2) (bx.keep hb2) (py.keep hb2) (b_y.keep hb2) (pt.keep hb2) (lt_.keep hb2) (pu.keep hb2) (lu.keep hb2)

set_option maxRecDepth 100000 in
set_option maxHeartbeats 4000000 in
theorem FO_9 {w wr : World} {na : Bool} {nb : Bool} {nx : Bool} {ny : Bool} {aa : Option Addr} {ab : Option Addr} {xo : Option Addr} {yo : Option Addr} {A : List Nat} {B : List Nat} {va : Int} {vb : Int} {n : Int} {la : Nat} {ca : Nat} {lb : Nat} {cb : Nat} {xl : Nat} {xc : Nat} {yl : Nat} {yc : Nat} {g3 : Nat} {g4 : Nat} {g8 : Nat} {g9 : Nat} {g10 : Nat} {g11 : Nat} {gt : Nat} {ct : Nat} {gu : Nat} {cu : Nat} {u0 u1 u5 u6 u15 u16 u17 u18 u19 u20 u21 u22 u23 u24 u25 u26 u27 u28 u29 u30 u31 u32 u33 u34 u35 u36 u37 u38 u39 u40 u41 u42 u43 u44 u45 u46 u47 u48 u49 u50 u51 u52 u53 u54 u55 u56 u57 u58 u59 u60 u61 u62 u63 u64 u65 u66 u67 u68 u69 u70 u71 u72 u73 u74 u75 u76 u77 u78 u79 u80 u81 u82 u83 u84 u85 u86 u87 u88 u89 u90 u91 u92 u93 u94 u95 u96 u97 u98 u99 u100 u101 u102 u103 u104 u105 u106 u107 u108 u109 u110 u111 u112 u113 u114 u115 u116 u117 u118 u119 u120 u121 u122 u123 u124 u125 u126 u127 u128 u129 u130 u131 u132 u133 u134 u135 u136 u137 u138 u139 u140 u141 u142 u143 u144 u145 : Value}
    (rA : Rd w aa la ca A) (rB : Rd w ab lb cb B) (zA : Hid (aa = none → ca = 0)) (zB : Hid (ab = none → cb = 0)) (sA : la ≤ 1048576) (sB : lb ≤ 1048576) (hva : Hid (num na A = va)) (hvb : Hid (num nb B = vb)) (hn1 : Hid (-9223372036854775808 ≤ n)) (hn2 : Hid (n ≤ 9223372036854775807)) (hxl : xl ≤ 33554432) (hyl : yl ≤ 33554432) (hg : Hid (gt < gu))
    (hb : Below w.heap.size w wr)
    (pa : Pr wr g3 24 (.bool na) (.slice aa la ca)) (pb : Pr wr g4 24 (.bool nb) (.slice ab lb cb)) (px : Pr wr g8 28 (.bool nx) (.slice xo xl xc)) (bx : Big wr nx xo xl xc va) (py : Pr wr g9 28 (.bool ny) (.slice yo yl yc)) (b_y : Big wr ny yo yl yc vb) (pt : Pr wr g10 24 (.bool na) (.slice (some ⟨gt, 0, none⟩) la ct)) (lt_ : Lent w.heap.size wr gt la ct A) (pu : Pr wr g11 24 (.bool nb) (.slice (some ⟨gu, 0, none⟩) lb cu)) (lu : Lent w.heap.size wr gu lb cu B) :
    Code.wp Tryd.prog (tail3 9) (Q3 w) ⟨#[u0, u1, .int .i64 n, .pointer (some ⟨g3, 0, none⟩), .pointer (some ⟨g4, 0, none⟩), u5, u6, .bool true, .pointer (some ⟨g8, 0, none⟩), .pointer (some ⟨g9, 0, none⟩), .pointer (some ⟨g10, 0, none⟩), .pointer (some ⟨g11, 0, none⟩), .bool true, .bool true, .bool true, u15, u16, u17, u18, u19, u20, u21, u22, u23, u24, u25, u26, u27, u28, u29, u30, u31, u32, u33, u34, u35, u36, u37, u38, u39, u40, u41, u42, u43, u44, u45, u46, u47, u48, u49, u50, u51, u52, u53, u54, u55, u56, u57, u58, u59, u60, u61, u62, u63, u64, u65, u66, u67, u68, u69, u70, u71, u72, u73, u74, u75, u76, u77, u78, u79, u80, u81, u82, u83, u84, u85, u86, u87, u88, u89, u90, u91, u92, u93, u94, u95, u96, u97, u98, u99, u100, u101, u102, u103, u104, u105, u106, u107, u108, u109, u110, u111, u112, u113, u114, u115, u116, u117, u118, u119, u120, u121, u122, u123, u124, u125, u126, u127, u128, u129, u130, u131, u132, u133, u134, u135, u136, u137, u138, u139, u140, u141, u142, u143, u144, u145], []⟩ wr := by
  obtain ⟨kpt0, kpt1, _, _⟩ := two_cells pt
  show Code.wp Tryd.prog (Code.seq (head3 9) (tail3 10)) _ _ _
  conv => arg 2; arg 1; whnf
  go_wp2_with fail
  refine (to_any na _ la _ A _ (lt_.rd rA.ok (by omega))).mono ?_
  rintro e w2 ⟨rfl, hb2⟩
  rw [hva.out]
  obtain ⟨k, hx1⟩ : ∃ k, k = as64 va := ⟨_, rfl⟩
  obtain ⟨f, hx2⟩ : ∃ f, f = fits64 va := ⟨_, rfl⟩
  rw [← hx1, ← hx2]
  have hk := hid hx1
  have hf := hid hx2
  clear hx1 hx2
  go_wp2
  have hb3 := hb.trans (hb2.mono hb.size)
  exact FO_10 (rA) (rB) (zA) (zB) (sA) (sB) (hva) (hvb) (hn1) (hn2) (hxl) (hyl) (hg) (hk) (hf) (hb3) (pa.keep hb2) (pb.keep hb2) (px.keep hb2) (bx.keep hb2) (py.keep hb2) (b_y.keep hb2) (pt.keep hb2) (lt_.keep hb2) (pu.keep hb2) (lu.keep hb2)

set_option maxRecDepth 100000 in
set_option maxHeartbeats 4000000 in
theorem FO_8 {w wr : World} {na : Bool} {nb : Bool} {nx : Bool} {ny : Bool} {aa : Option Addr} {ab : Option Addr} {xo : Option Addr} {yo : Option Addr} {A : List Nat} {B : List Nat} {va : Int} {vb : Int} {n : Int} {la : Nat} {ca : Nat} {lb : Nat} {cb : Nat} {xl : Nat} {xc : Nat} {yl : Nat} {yc : Nat} {g3 : Nat} {g4 : Nat} {g8 : Nat} {g9 : Nat} {g10 : Nat} {g11 : Nat} {gt : Nat} {ct : Nat} {gu : Nat} {cu : Nat} {u0 u1 u5 u6 u14 u15 u16 u17 u18 u19 u20 u21 u22 u23 u24 u25 u26 u27 u28 u29 u30 u31 u32 u33 u34 u35 u36 u37 u38 u39 u40 u41 u42 u43 u44 u45 u46 u47 u48 u49 u50 u51 u52 u53 u54 u55 u56 u57 u58 u59 u60 u61 u62 u63 u64 u65 u66 u67 u68 u69 u70 u71 u72 u73 u74 u75 u76 u77 u78 u79 u80 u81 u82 u83 u84 u85 u86 u87 u88 u89 u90 u91 u92 u93 u94 u95 u96 u97 u98 u99 u100 u101 u102 u103 u104 u105 u106 u107 u108 u109 u110 u111 u112 u113 u114 u115 u116 u117 u118 u119 u120 u121 u122 u123 u124 u125 u126 u127 u128 u129 u130 u131 u132 u133 u134 u135 u136 u137 u138 u139 u140 u141 u142 u143 u144 u145 : Value}
    (rA : Rd w aa la ca A) (rB : Rd w ab lb cb B) (zA : Hid (aa = none → ca = 0)) (zB : Hid (ab = none → cb = 0)) (sA : la ≤ 1048576) (sB : lb ≤ 1048576) (hva : Hid (num na A = va)) (hvb : Hid (num nb B = vb)) (hn1 : Hid (-9223372036854775808 ≤ n)) (hn2 : Hid (n ≤ 9223372036854775807)) (hxl : xl ≤ 33554432) (hyl : yl ≤ 33554432) (hg : Hid (gt < gu))
    (hb : Below w.heap.size w wr)
    (pa : Pr wr g3 24 (.bool na) (.slice aa la ca)) (pb : Pr wr g4 24 (.bool nb) (.slice ab lb cb)) (px : Pr wr g8 28 (.bool nx) (.slice xo xl xc)) (bx : Big wr nx xo xl xc va) (py : Pr wr g9 28 (.bool ny) (.slice yo yl yc)) (b_y : Big wr ny yo yl yc vb) (pt : Pr wr g10 24 (.bool na) (.slice (some ⟨gt, 0, none⟩) la ct)) (lt_ : Lent w.heap.size wr gt la ct A) (pu : Pr wr g11 24 (.bool nb) (.slice (some ⟨gu, 0, none⟩) lb cu)) (lu : Lent w.heap.size wr gu lb cu B) :
    Code.wp Tryd.prog (tail3 8) (Q3 w) ⟨#[u0, u1, .int .i64 n, .pointer (some ⟨g3, 0, none⟩), .pointer (some ⟨g4, 0, none⟩), u5, u6, .bool true, .pointer (some ⟨g8, 0, none⟩), .pointer (some ⟨g9, 0, none⟩), .pointer (some ⟨g10, 0, none⟩), .pointer (some ⟨g11, 0, none⟩), .bool true, .bool true, u14, u15, u16, u17, u18, u19, u20, u21, u22, u23, u24, u25, u26, u27, u28, u29, u30, u31, u32, u33, u34, u35, u36, u37, u38, u39, u40, u41, u42, u43, u44, u45, u46, u47, u48, u49, u50, u51, u52, u53, u54, u55, u56, u57, u58, u59, u60, u61, u62, u63, u64, u65, u66, u67, u68, u69, u70, u71, u72, u73, u74, u75, u76, u77, u78, u79, u80, u81, u82, u83, u84, u85, u86, u87, u88, u89, u90, u91, u92, u93, u94, u95, u96, u97, u98, u99, u100, u101, u102, u103, u104, u105, u106, u107, u108, u109, u110, u111, u112, u113, u114, u115, u116, u117, u118, u119, u120, u121, u122, u123, u124, u125, u126, u127, u128, u129, u130, u131, u132, u133, u134, u135, u136, u137, u138, u139, u140, u141, u142, u143, u144, u145], []⟩ wr := by
  show Code.wp Tryd.prog (Code.seq (head3 8) (tail3 9)) _ _ _
  conv => arg 2; arg 1; whnf
  go_wp2_with (first
    | (go_at_call 24; refine (from_any n _ hn1.out hn2.out).mono ?_; rintro e w2 ⟨n1, ao1, len1, rfl, hN, hb2⟩; have hN1 := Nrm.of_num hN rfl)
    | (go_at_call 25; refine (smallR n _ hn1.out hn2.out).mono ?_; rintro e w3 ⟨n2, ao2, len2, cap2, rfl, hl2, hS, hbx⟩; have hN2 := hN1.keep hbx)
    | (go_at_call 21; refine (intN _ _ _ _ n _ hS (by omega)).mono ?_; rintro e w4 ⟨n3, ao3, len3, cap3, rfl, hI, hby⟩; have hN3 := hN2.keep hby)
    | (go_at_call 19; refine (sameV hN3 hI).mono ?_; rintro e w5 ⟨rfl, hbz⟩))
  have hall : Below wr.heap.size wr w5 := ((hb2.trans (hbx.mono hb2.size)).trans (hby.mono (hb2.trans (hbx.mono hb2.size)).size)).trans (hbz.mono ((hb2.trans (hbx.mono hb2.size)).trans (hby.mono (hb2.trans (hbx.mono hb2.size)).size)).size)
  exact FO_9 (rA) (rB) (zA) (zB) (sA) (sB) (hva) (hvb) (hn1) (hn2) (hxl) (hyl) (hg) (hb.trans (hall.mono hb.size)) (pa.keep hall) (pb.keep hall) (px.keep hall) (bx.keep hall) (py.keep hall) (b_y.keep hall) (pt.keep hall) (lt_.keep hall) (pu.keep hall) (lu.keep hall)

set_option maxRecDepth 100000 in
set_option maxHeartbeats 4000000 in
theorem FO_7 {w wr : World} {na : Bool} {nb : Bool} {nx : Bool} {ny : Bool} {aa : Option Addr} {ab : Option Addr} {xo : Option Addr} {yo : Option Addr} {A : List Nat} {B : List Nat} {va : Int} {vb : Int} {n : Int} {la : Nat} {ca : Nat} {lb : Nat} {cb : Nat} {xl : Nat} {xc : Nat} {yl : Nat} {yc : Nat} {g3 : Nat} {g4 : Nat} {g8 : Nat} {g9 : Nat} {g10 : Nat} {g11 : Nat} {gt : Nat} {ct : Nat} {gu : Nat} {cu : Nat} {u0 u1 u5 u6 u13 u14 u15 u16 u17 u18 u19 u20 u21 u22 u23 u24 u25 u26 u27 u28 u29 u30 u31 u32 u33 u34 u35 u36 u37 u38 u39 u40 u41 u42 u43 u44 u45 u46 u47 u48 u49 u50 u51 u52 u53 u54 u55 u56 u57 u58 u59 u60 u61 u62 u63 u64 u65 u66 u67 u68 u69 u70 u71 u72 u73 u74 u75 u76 u77 u78 u79 u80 u81 u82 u83 u84 u85 u86 u87 u88 u89 u90 u91 u92 u93 u94 u95 u96 u97 u98 u99 u100 u101 u102 u103 u104 u105 u106 u107 u108 u109 u110 u111 u112 u113 u114 u115 u116 u117 u118 u119 u120 u121 u122 u123 u124 u125 u126 u127 u128 u129 u130 u131 u132 u133 u134 u135 u136 u137 u138 u139 u140 u141 u142 u143 u144 u145 : Value}
    (rA : Rd w aa la ca A) (rB : Rd w ab lb cb B) (zA : Hid (aa = none → ca = 0)) (zB : Hid (ab = none → cb = 0)) (sA : la ≤ 1048576) (sB : lb ≤ 1048576) (hva : Hid (num na A = va)) (hvb : Hid (num nb B = vb)) (hn1 : Hid (-9223372036854775808 ≤ n)) (hn2 : Hid (n ≤ 9223372036854775807)) (hxl : xl ≤ 33554432) (hyl : yl ≤ 33554432) (hg : Hid (gt < gu))
    (hb : Below w.heap.size w wr)
    (pa : Pr wr g3 24 (.bool na) (.slice aa la ca)) (pb : Pr wr g4 24 (.bool nb) (.slice ab lb cb)) (px : Pr wr g8 28 (.bool nx) (.slice xo xl xc)) (bx : Big wr nx xo xl xc va) (py : Pr wr g9 28 (.bool ny) (.slice yo yl yc)) (b_y : Big wr ny yo yl yc vb) (pt : Pr wr g10 24 (.bool na) (.slice (some ⟨gt, 0, none⟩) la ct)) (lt_ : Lent w.heap.size wr gt la ct A) (pu : Pr wr g11 24 (.bool nb) (.slice (some ⟨gu, 0, none⟩) lb cu)) (lu : Lent w.heap.size wr gu lb cu B) :
    Code.wp Tryd.prog (tail3 7) (Q3 w) ⟨#[u0, u1, .int .i64 n, .pointer (some ⟨g3, 0, none⟩), .pointer (some ⟨g4, 0, none⟩), u5, u6, .bool true, .pointer (some ⟨g8, 0, none⟩), .pointer (some ⟨g9, 0, none⟩), .pointer (some ⟨g10, 0, none⟩), .pointer (some ⟨g11, 0, none⟩), .bool true, u13, u14, u15, u16, u17, u18, u19, u20, u21, u22, u23, u24, u25, u26, u27, u28, u29, u30, u31, u32, u33, u34, u35, u36, u37, u38, u39, u40, u41, u42, u43, u44, u45, u46, u47, u48, u49, u50, u51, u52, u53, u54, u55, u56, u57, u58, u59, u60, u61, u62, u63, u64, u65, u66, u67, u68, u69, u70, u71, u72, u73, u74, u75, u76, u77, u78, u79, u80, u81, u82, u83, u84, u85, u86, u87, u88, u89, u90, u91, u92, u93, u94, u95, u96, u97, u98, u99, u100, u101, u102, u103, u104, u105, u106, u107, u108, u109, u110, u111, u112, u113, u114, u115, u116, u117, u118, u119, u120, u121, u122, u123, u124, u125, u126, u127, u128, u129, u130, u131, u132, u133, u134, u135, u136, u137, u138, u139, u140, u141, u142, u143, u144, u145], []⟩ wr := by
  have d_pa := pa.drew
  have d_pb := pb.drew
  have d_px := px.drew
  have d_bx := bx.drew
  have d_py := py.drew
  have d_b_y := b_y.drew
  have d_pt := pt.drew
  have d_lt_ := lt_.drew
  have d_pu := pu.drew
  have d_lu := lu.drew
  have h_pt := hid d_pt
  have h_px := hid d_px
  clear d_pt d_px
  obtain ⟨kpt0, kpt1, _, _⟩ := two_cells pt
  obtain ⟨kpx0, kpx1, _, _⟩ := two_cells px
  have hacc : Below wr.heap.size wr wr.drew := (Below.refl _ _).drew
  show Code.wp Tryd.prog (Code.seq (head3 7) (tail3 8)) _ _ _
  conv => arg 2; arg 1; whnf
  go_wp2_with fail
  go_region_held3 (fun w' => w'.cell? ⟨g10, 0, none⟩ = some (.bool na) ∧ w'.cell? ⟨g10, 1, none⟩ = some (.slice (some ⟨gt, 0, none⟩) la ct) ∧ w'.cell? ⟨g8, 0, none⟩ = some (.bool nx) ∧ w'.cell? ⟨g8, 1, none⟩ = some (.slice xo xl xc))
    (first
      | go_keep
      | (with_reducible exact ⟨(two_cells h_pt.out).1, (two_cells h_pt.out).2.1, (two_cells h_px.out).1, (two_cells h_px.out).2.1⟩))
    (first
      | (go_at_call 22; (with_reducible refine (neg_any na _ la _ A _ (d_lt_.rd rA.ok (by omega))).mono ?_); rintro e w5 ⟨n1, ao1, len1, rfl, hN, hbk⟩; have h_pt := hid (heap_keep h_pt.out hbk); have h_px := hid (heap_keep h_px.out hbk); have d_pa := d_pa.keep hbk; have d_pb := d_pb.keep hbk; have d_bx := d_bx.keep hbk; have d_py := d_py.keep hbk; have d_b_y := d_b_y.keep hbk; have d_lt_ := d_lt_.keep hbk; have d_pu := d_pu.keep hbk; have d_lu := d_lu.keep hbk; have hacc := hacc.trans (hbk.mono hacc.size); (try have hM1 := hM1.keep hbk); (try have hI1 := hI1.keep hbk); have hN1 := Nrm.of_num hN (by rw [hva.out]))
      | (go_at_call 23; (with_reducible refine (minusR _ _ _ _ va _ d_bx).mono ?_); rintro e w5 ⟨n3, l3, rfl, hl3, hM, hbk⟩; have h_pt := hid (heap_keep h_pt.out hbk); have h_px := hid (heap_keep h_px.out hbk); have d_pa := d_pa.keep hbk; have d_pb := d_pb.keep hbk; have d_bx := d_bx.keep hbk; have d_py := d_py.keep hbk; have d_b_y := d_b_y.keep hbk; have d_lt_ := d_lt_.keep hbk; have d_pu := d_pu.keep hbk; have d_lu := d_lu.keep hbk; have hacc := hacc.trans (hbk.mono hacc.size); (try have hN1 := hN1.keep hbk); (try have hI1 := hI1.keep hbk); have hM1 := hM; have hM1l := hl3)
      | (go_at_call 21; (with_reducible refine (intN _ _ _ _ (-va) _ hM1 (by omega)).mono ?_); rintro e w5 ⟨n2, o2, l2, c2, rfl, hI, hbk⟩; have h_pt := hid (heap_keep h_pt.out hbk); have h_px := hid (heap_keep h_px.out hbk); have d_pa := d_pa.keep hbk; have d_pb := d_pb.keep hbk; have d_bx := d_bx.keep hbk; have d_py := d_py.keep hbk; have d_b_y := d_b_y.keep hbk; have d_lt_ := d_lt_.keep hbk; have d_pu := d_pu.keep hbk; have d_lu := d_lu.keep hbk; have hacc := hacc.trans (hbk.mono hacc.size); (try have hN1 := hN1.keep hbk); (try have hM1 := hM1.keep hbk); have hI1 := hI)
      | (go_at_call 19; (with_reducible refine (sameV hN1 hI1).mono ?_); rintro e w5 ⟨rfl, hbk⟩; have h_pt := hid (heap_keep h_pt.out hbk); have h_px := hid (heap_keep h_px.out hbk); have d_pa := d_pa.keep hbk; have d_pb := d_pb.keep hbk; have d_bx := d_bx.keep hbk; have d_py := d_py.keep hbk; have d_b_y := d_b_y.keep hbk; have d_lt_ := d_lt_.keep hbk; have d_pu := d_pu.keep hbk; have d_lu := d_lu.keep hbk; have hacc := hacc.trans (hbk.mono hacc.size); (try have hN1 := hN1.keep hbk); (try have hM1 := hM1.keep hbk); (try have hI1 := hI1.keep hbk)))
  all_goals
    go_wp2
    exact FO_8 (rA) (rB) (zA) (zB) (sA) (sB) (hva) (hvb) (hn1) (hn2) (hxl) (hyl) (hg) (hb.trans (hacc.mono hb.size)) (d_pa) (d_pb) (h_px.out) (d_bx) (d_py) (d_b_y) (h_pt.out) (d_lt_) (d_pu) (d_lu)

set_option maxRecDepth 100000 in
set_option maxHeartbeats 4000000 in
theorem FO_6 {w wr : World} {na : Bool} {nb : Bool} {nx : Bool} {ny : Bool} {aa : Option Addr} {ab : Option Addr} {xo : Option Addr} {yo : Option Addr} {A : List Nat} {B : List Nat} {va : Int} {vb : Int} {n : Int} {la : Nat} {ca : Nat} {lb : Nat} {cb : Nat} {xl : Nat} {xc : Nat} {yl : Nat} {yc : Nat} {g3 : Nat} {g4 : Nat} {g8 : Nat} {g9 : Nat} {g10 : Nat} {g11 : Nat} {gt : Nat} {ct : Nat} {gu : Nat} {cu : Nat} {u0 u1 u5 u6 u12 u13 u14 u15 u16 u17 u18 u19 u20 u21 u22 u23 u24 u25 u26 u27 u28 u29 u30 u31 u32 u33 u34 u35 u36 u37 u38 u39 u40 u41 u42 u43 u44 u45 u46 u47 u48 u49 u50 u51 u52 u53 u54 u55 u56 u57 u58 u59 u60 u61 u62 u63 u64 u65 u66 u67 u68 u69 u70 u71 u72 u73 u74 u75 u76 u77 u78 u79 u80 u81 u82 u83 u84 u85 u86 u87 u88 u89 u90 u91 u92 u93 u94 u95 u96 u97 u98 u99 u100 u101 u102 u103 u104 u105 u106 u107 u108 u109 u110 u111 u112 u113 u114 u115 u116 u117 u118 u119 u120 u121 u122 u123 u124 u125 u126 u127 u128 u129 u130 u131 u132 u133 u134 u135 u136 u137 u138 u139 u140 u141 u142 u143 u144 u145 : Value}
    (rA : Rd w aa la ca A) (rB : Rd w ab lb cb B) (zA : Hid (aa = none → ca = 0)) (zB : Hid (ab = none → cb = 0)) (sA : la ≤ 1048576) (sB : lb ≤ 1048576) (hva : Hid (num na A = va)) (hvb : Hid (num nb B = vb)) (hn1 : Hid (-9223372036854775808 ≤ n)) (hn2 : Hid (n ≤ 9223372036854775807)) (hxl : xl ≤ 33554432) (hyl : yl ≤ 33554432) (hg : Hid (gt < gu))
    (hb : Below w.heap.size w wr)
    (pa : Pr wr g3 24 (.bool na) (.slice aa la ca)) (pb : Pr wr g4 24 (.bool nb) (.slice ab lb cb)) (px : Pr wr g8 28 (.bool nx) (.slice xo xl xc)) (bx : Big wr nx xo xl xc va) (py : Pr wr g9 28 (.bool ny) (.slice yo yl yc)) (b_y : Big wr ny yo yl yc vb) (pt : Pr wr g10 24 (.bool na) (.slice (some ⟨gt, 0, none⟩) la ct)) (lt_ : Lent w.heap.size wr gt la ct A) (pu : Pr wr g11 24 (.bool nb) (.slice (some ⟨gu, 0, none⟩) lb cu)) (lu : Lent w.heap.size wr gu lb cu B) :
    Code.wp Tryd.prog (tail3 6) (Q3 w) ⟨#[u0, u1, .int .i64 n, .pointer (some ⟨g3, 0, none⟩), .pointer (some ⟨g4, 0, none⟩), u5, u6, .bool true, .pointer (some ⟨g8, 0, none⟩), .pointer (some ⟨g9, 0, none⟩), .pointer (some ⟨g10, 0, none⟩), .pointer (some ⟨g11, 0, none⟩), u12, u13, u14, u15, u16, u17, u18, u19, u20, u21, u22, u23, u24, u25, u26, u27, u28, u29, u30, u31, u32, u33, u34, u35, u36, u37, u38, u39, u40, u41, u42, u43, u44, u45, u46, u47, u48, u49, u50, u51, u52, u53, u54, u55, u56, u57, u58, u59, u60, u61, u62, u63, u64, u65, u66, u67, u68, u69, u70, u71, u72, u73, u74, u75, u76, u77, u78, u79, u80, u81, u82, u83, u84, u85, u86, u87, u88, u89, u90, u91, u92, u93, u94, u95, u96, u97, u98, u99, u100, u101, u102, u103, u104, u105, u106, u107, u108, u109, u110, u111, u112, u113, u114, u115, u116, u117, u118, u119, u120, u121, u122, u123, u124, u125, u126, u127, u128, u129, u130, u131, u132, u133, u134, u135, u136, u137, u138, u139, u140, u141, u142, u143, u144, u145], []⟩ wr := by
  have d_pa := pa.drew
  have d_pb := pb.drew
  have d_px := px.drew
  have d_bx := bx.drew
  have d_py := py.drew
  have d_b_y := b_y.drew
  have d_pt := pt.drew
  have d_lt_ := lt_.drew
  have d_pu := pu.drew
  have d_lu := lu.drew
  have h_pt := hid d_pt
  have h_px := hid d_px
  clear d_pt d_px
  obtain ⟨kpt0, kpt1, _, _⟩ := two_cells pt
  obtain ⟨kpx0, kpx1, _, _⟩ := two_cells px
  have hacc : Below wr.heap.size wr wr.drew := (Below.refl _ _).drew
  show Code.wp Tryd.prog (Code.seq (head3 6) (tail3 7)) _ _ _
  conv => arg 2; arg 1; whnf
  go_wp2_with fail
  go_region_held3 (fun w' => w'.cell? ⟨g10, 0, none⟩ = some (.bool na) ∧ w'.cell? ⟨g10, 1, none⟩ = some (.slice (some ⟨gt, 0, none⟩) la ct) ∧ w'.cell? ⟨g8, 0, none⟩ = some (.bool nx) ∧ w'.cell? ⟨g8, 1, none⟩ = some (.slice xo xl xc))
    (first
      | go_keep
      | (with_reducible exact ⟨(two_cells h_pt.out).1, (two_cells h_pt.out).2.1, (two_cells h_px.out).1, (two_cells h_px.out).2.1⟩))
    (first
      | (go_at_call 20; (with_reducible refine (norm_any na _ la _ A _ (d_lt_.rd rA.ok (by omega))).mono ?_); rintro e w5 ⟨n1, ao1, len1, rfl, hN, hbk⟩; have h_pt := hid (heap_keep h_pt.out hbk); have h_px := hid (heap_keep h_px.out hbk); have d_pa := d_pa.keep hbk; have d_pb := d_pb.keep hbk; have d_bx := d_bx.keep hbk; have d_py := d_py.keep hbk; have d_b_y := d_b_y.keep hbk; have d_lt_ := d_lt_.keep hbk; have d_pu := d_pu.keep hbk; have d_lu := d_lu.keep hbk; have hacc := hacc.trans (hbk.mono hacc.size); (try have hI1 := hI1.keep hbk); have hN1 := Nrm.of_num hN (hva.out))
      | (go_at_call 21; (with_reducible refine (intN _ _ _ _ va _ d_bx (by omega)).mono ?_); rintro e w5 ⟨n2, o2, l2, c2, rfl, hI, hbk⟩; have h_pt := hid (heap_keep h_pt.out hbk); have h_px := hid (heap_keep h_px.out hbk); have d_pa := d_pa.keep hbk; have d_pb := d_pb.keep hbk; have d_bx := d_bx.keep hbk; have d_py := d_py.keep hbk; have d_b_y := d_b_y.keep hbk; have d_lt_ := d_lt_.keep hbk; have d_pu := d_pu.keep hbk; have d_lu := d_lu.keep hbk; have hacc := hacc.trans (hbk.mono hacc.size); (try have hN1 := hN1.keep hbk); have hI1 := hI)
      | (go_at_call 19; (with_reducible refine (sameV hN1 hI1).mono ?_); rintro e w5 ⟨rfl, hbk⟩; have h_pt := hid (heap_keep h_pt.out hbk); have h_px := hid (heap_keep h_px.out hbk); have d_pa := d_pa.keep hbk; have d_pb := d_pb.keep hbk; have d_bx := d_bx.keep hbk; have d_py := d_py.keep hbk; have d_b_y := d_b_y.keep hbk; have d_lt_ := d_lt_.keep hbk; have d_pu := d_pu.keep hbk; have d_lu := d_lu.keep hbk; have hacc := hacc.trans (hbk.mono hacc.size); (try have hN1 := hN1.keep hbk); (try have hI1 := hI1.keep hbk)))
  all_goals
    go_wp2
    exact FO_7 (rA) (rB) (zA) (zB) (sA) (sB) (hva) (hvb) (hn1) (hn2) (hxl) (hyl) (hg) (hb.trans (hacc.mono hb.size)) (d_pa) (d_pb) (h_px.out) (d_bx) (d_py) (d_b_y) (h_pt.out) (d_lt_) (d_pu) (d_lu)

set_option maxRecDepth 100000 in
set_option maxHeartbeats 4000000 in
theorem FO_5 {w wr : World} {na : Bool} {nb : Bool} {nx : Bool} {ny : Bool} {aa : Option Addr} {ab : Option Addr} {xo : Option Addr} {yo : Option Addr} {A : List Nat} {B : List Nat} {va : Int} {vb : Int} {n : Int} {la : Nat} {ca : Nat} {lb : Nat} {cb : Nat} {xl : Nat} {xc : Nat} {yl : Nat} {yc : Nat} {g3 : Nat} {g4 : Nat} {g8 : Nat} {g9 : Nat} {g10 : Nat} {gt : Nat} {ct : Nat} {u0 u1 u5 u6 u11 u12 u13 u14 u15 u16 u17 u18 u19 u20 u21 u22 u23 u24 u25 u26 u27 u28 u29 u30 u31 u32 u33 u34 u35 u36 u37 u38 u39 u40 u41 u42 u43 u44 u45 u46 u47 u48 u49 u50 u51 u52 u53 u54 u55 u56 u57 u58 u59 u60 u61 u62 u63 u64 u65 u66 u67 u68 u69 u70 u71 u72 u73 u74 u75 u76 u77 u78 u79 u80 u81 u82 u83 u84 u85 u86 u87 u88 u89 u90 u91 u92 u93 u94 u95 u96 u97 u98 u99 u100 u101 u102 u103 u104 u105 u106 u107 u108 u109 u110 u111 u112 u113 u114 u115 u116 u117 u118 u119 u120 u121 u122 u123 u124 u125 u126 u127 u128 u129 u130 u131 u132 u133 u134 u135 u136 u137 u138 u139 u140 u141 u142 u143 u144 u145 : Value}
    (rA : Rd w aa la ca A) (rB : Rd w ab lb cb B) (zA : Hid (aa = none → ca = 0)) (zB : Hid (ab = none → cb = 0)) (sA : la ≤ 1048576) (sB : lb ≤ 1048576) (hva : Hid (num na A = va)) (hvb : Hid (num nb B = vb)) (hn1 : Hid (-9223372036854775808 ≤ n)) (hn2 : Hid (n ≤ 9223372036854775807)) (hxl : xl ≤ 33554432) (hyl : yl ≤ 33554432)
    (hb : Below w.heap.size w wr)
    (pa : Pr wr g3 24 (.bool na) (.slice aa la ca)) (pb : Pr wr g4 24 (.bool nb) (.slice ab lb cb)) (px : Pr wr g8 28 (.bool nx) (.slice xo xl xc)) (bx : Big wr nx xo xl xc va) (py : Pr wr g9 28 (.bool ny) (.slice yo yl yc)) (b_y : Big wr ny yo yl yc vb) (pt : Pr wr g10 24 (.bool na) (.slice (some ⟨gt, 0, none⟩) la ct)) (lt_ : Lent w.heap.size wr gt la ct A) :
    Code.wp Tryd.prog (tail3 5) (Q3 w) ⟨#[u0, u1, .int .i64 n, .pointer (some ⟨g3, 0, none⟩), .pointer (some ⟨g4, 0, none⟩), u5, u6, .bool true, .pointer (some ⟨g8, 0, none⟩), .pointer (some ⟨g9, 0, none⟩), .pointer (some ⟨g10, 0, none⟩), u11, u12, u13, u14, u15, u16, u17, u18, u19, u20, u21, u22, u23, u24, u25, u26, u27, u28, u29, u30, u31, u32, u33, u34, u35, u36, u37, u38, u39, u40, u41, u42, u43, u44, u45, u46, u47, u48, u49, u50, u51, u52, u53, u54, u55, u56, u57, u58, u59, u60, u61, u62, u63, u64, u65, u66, u67, u68, u69, u70, u71, u72, u73, u74, u75, u76, u77, u78, u79, u80, u81, u82, u83, u84, u85, u86, u87, u88, u89, u90, u91, u92, u93, u94, u95, u96, u97, u98, u99, u100, u101, u102, u103, u104, u105, u106, u107, u108, u109, u110, u111, u112, u113, u114, u115, u116, u117, u118, u119, u120, u121, u122, u123, u124, u125, u126, u127, u128, u129, u130, u131, u132, u133, u134, u135, u136, u137, u138, u139, u140, u141, u142, u143, u144, u145], []⟩ wr := by
  obtain ⟨kpb0, kpb1, _, _⟩ := two_cells pb
  show Code.wp Tryd.prog (Code.seq (head3 5) (tail3 6)) _ _ _
  conv => arg 2; arg 1; whnf
  go_wp2_with fail
  refine (lentR nb ab lb cb B _ (rB.keep hb) zB.out (by omega)).mono ?_
  rintro e w2 ⟨gu, cu, rfl, lu, hb2⟩
  have hgg := Nat.lt_of_lt_of_le lt_.ge.2 lu.ge.1
  go_wp2
  have hb3 := hb.trans (hb2.mono hb.size)
  exact FO_6 (rA) (rB) (zA) (zB) (sA) (sB) (hva) (hvb) (hn1) (hn2) (hxl) (hyl) (hid hgg) (hb3.alloc hb3.size _) ((pa.keep hb2).alloc _) ((pb.keep hb2).alloc _) ((px.keep hb2).alloc _) ((bx.keep hb2).alloc _) ((py.keep hb2).alloc _) ((b_y.keep hb2).alloc _) ((pt.keep hb2).alloc _) ((lt_.keep hb2).alloc _) (Pr.new _ _ _ _) ((lu.base hb.size).alloc _)

set_option maxRecDepth 100000 in
set_option maxHeartbeats 4000000 in
theorem FO_4 {w wr : World} {na : Bool} {nb : Bool} {nx : Bool} {ny : Bool} {aa : Option Addr} {ab : Option Addr} {xo : Option Addr} {yo : Option Addr} {A : List Nat} {B : List Nat} {va : Int} {vb : Int} {n : Int} {la : Nat} {ca : Nat} {lb : Nat} {cb : Nat} {xl : Nat} {xc : Nat} {yl : Nat} {yc : Nat} {g3 : Nat} {g4 : Nat} {g8 : Nat} {g9 : Nat} {u0 u1 u5 u6 u10 u11 u12 u13 u14 u15 u16 u17 u18 u19 u20 u21 u22 u23 u24 u25 u26 u27 u28 u29 u30 u31 u32 u33 u34 u35 u36 u37 u38 u39 u40 u41 u42 u43 u44 u45 u46 u47 u48 u49 u50 u51 u52 u53 u54 u55 u56 u57 u58 u59 u60 u61 u62 u63 u64 u65 u66 u67 u68 u69 u70 u71 u72 u73 u74 u75 u76 u77 u78 u79 u80 u81 u82 u83 u84 u85 u86 u87 u88 u89 u90 u91 u92 u93 u94 u95 u96 u97 u98 u99 u100 u101 u102 u103 u104 u105 u106 u107 u108 u109 u110 u111 u112 u113 u114 u115 u116 u117 u118 u119 u120 u121 u122 u123 u124 u125 u126 u127 u128 u129 u130 u131 u132 u133 u134 u135 u136 u137 u138 u139 u140 u141 u142 u143 u144 u145 : Value}
    (rA : Rd w aa la ca A) (rB : Rd w ab lb cb B) (zA : Hid (aa = none → ca = 0)) (zB : Hid (ab = none → cb = 0)) (sA : la ≤ 1048576) (sB : lb ≤ 1048576) (hva : Hid (num na A = va)) (hvb : Hid (num nb B = vb)) (hn1 : Hid (-9223372036854775808 ≤ n)) (hn2 : Hid (n ≤ 9223372036854775807)) (hxl : xl ≤ 33554432) (hyl : yl ≤ 33554432)
    (hb : Below w.heap.size w wr)
    (pa : Pr wr g3 24 (.bool na) (.slice aa la ca)) (pb : Pr wr g4 24 (.bool nb) (.slice ab lb cb)) (px : Pr wr g8 28 (.bool nx) (.slice xo xl xc)) (bx : Big wr nx xo xl xc va) (py : Pr wr g9 28 (.bool ny) (.slice yo yl yc)) (b_y : Big wr ny yo yl yc vb) :
    Code.wp Tryd.prog (tail3 4) (Q3 w) ⟨#[u0, u1, .int .i64 n, .pointer (some ⟨g3, 0, none⟩), .pointer (some ⟨g4, 0, none⟩), u5, u6, .bool true, .pointer (some ⟨g8, 0, none⟩), .pointer (some ⟨g9, 0, none⟩), u10, u11, u12, u13, u14, u15, u16, u17, u18, u19, u20, u21, u22, u23, u24, u25, u26, u27, u28, u29, u30, u31, u32, u33, u34, u35, u36, u37, u38, u39, u40, u41, u42, u43, u44, u45, u46, u47, u48, u49, u50, u51, u52, u53, u54, u55, u56, u57, u58, u59, u60, u61, u62, u63, u64, u65, u66, u67, u68, u69, u70, u71, u72, u73, u74, u75, u76, u77, u78, u79, u80, u81, u82, u83, u84, u85, u86, u87, u88, u89, u90, u91, u92, u93, u94, u95, u96, u97, u98, u99, u100, u101, u102, u103, u104, u105, u106, u107, u108, u109, u110, u111, u112, u113, u114, u115, u116, u117, u118, u119, u120, u121, u122, u123, u124, u125, u126, u127, u128, u129, u130, u131, u132, u133, u134, u135, u136, u137, u138, u139, u140, u141, u142, u143, u144, u145], []⟩ wr := by
  obtain ⟨kpa0, kpa1, _, _⟩ := two_cells pa
  show Code.wp Tryd.prog (Code.seq (head3 4) (tail3 5)) _ _ _
  conv => arg 2; arg 1; whnf
  go_wp2_with fail
  refine (lentR na aa la ca A _ (rA.keep hb) zA.out (by omega)).mono ?_
  rintro e w2 ⟨gt, ct, rfl, lt_, hb2⟩
  go_wp2
  have hb3 := hb.trans (hb2.mono hb.size)
  exact FO_5 (rA) (rB) (zA) (zB) (sA) (sB) (hva) (hvb) (hn1) (hn2) (hxl) (hyl) (hb3.alloc hb3.size _) ((pa.keep hb2).alloc _) ((pb.keep hb2).alloc _) ((px.keep hb2).alloc _) ((bx.keep hb2).alloc _) ((py.keep hb2).alloc _) ((b_y.keep hb2).alloc _) (Pr.new _ _ _ _) ((lt_.base hb.size).alloc _)

set_option maxRecDepth 100000 in
set_option maxHeartbeats 4000000 in
theorem FO_3 {w wr : World} {na : Bool} {nb : Bool} {nx : Bool} {aa : Option Addr} {ab : Option Addr} {xo : Option Addr} {A : List Nat} {B : List Nat} {va : Int} {vb : Int} {n : Int} {la : Nat} {ca : Nat} {lb : Nat} {cb : Nat} {xl : Nat} {xc : Nat} {g3 : Nat} {g4 : Nat} {g8 : Nat} {u0 u1 u5 u6 u9 u10 u11 u12 u13 u14 u15 u16 u17 u18 u19 u20 u21 u22 u23 u24 u25 u26 u27 u28 u29 u30 u31 u32 u33 u34 u35 u36 u37 u38 u39 u40 u41 u42 u43 u44 u45 u46 u47 u48 u49 u50 u51 u52 u53 u54 u55 u56 u57 u58 u59 u60 u61 u62 u63 u64 u65 u66 u67 u68 u69 u70 u71 u72 u73 u74 u75 u76 u77 u78 u79 u80 u81 u82 u83 u84 u85 u86 u87 u88 u89 u90 u91 u92 u93 u94 u95 u96 u97 u98 u99 u100 u101 u102 u103 u104 u105 u106 u107 u108 u109 u110 u111 u112 u113 u114 u115 u116 u117 u118 u119 u120 u121 u122 u123 u124 u125 u126 u127 u128 u129 u130 u131 u132 u133 u134 u135 u136 u137 u138 u139 u140 u141 u142 u143 u144 u145 : Value}
    (rA : Rd w aa la ca A) (rB : Rd w ab lb cb B) (zA : Hid (aa = none → ca = 0)) (zB : Hid (ab = none → cb = 0)) (sA : la ≤ 1048576) (sB : lb ≤ 1048576) (hva : Hid (num na A = va)) (hvb : Hid (num nb B = vb)) (hn1 : Hid (-9223372036854775808 ≤ n)) (hn2 : Hid (n ≤ 9223372036854775807)) (hxl : xl ≤ 33554432)
    (hb : Below w.heap.size w wr)
    (pa : Pr wr g3 24 (.bool na) (.slice aa la ca)) (pb : Pr wr g4 24 (.bool nb) (.slice ab lb cb)) (px : Pr wr g8 28 (.bool nx) (.slice xo xl xc)) (bx : Big wr nx xo xl xc va) :
    Code.wp Tryd.prog (tail3 3) (Q3 w) ⟨#[u0, u1, .int .i64 n, .pointer (some ⟨g3, 0, none⟩), .pointer (some ⟨g4, 0, none⟩), u5, u6, .bool true, .pointer (some ⟨g8, 0, none⟩), u9, u10, u11, u12, u13, u14, u15, u16, u17, u18, u19, u20, u21, u22, u23, u24, u25, u26, u27, u28, u29, u30, u31, u32, u33, u34, u35, u36, u37, u38, u39, u40, u41, u42, u43, u44, u45, u46, u47, u48, u49, u50, u51, u52, u53, u54, u55, u56, u57, u58, u59, u60, u61, u62, u63, u64, u65, u66, u67, u68, u69, u70, u71, u72, u73, u74, u75, u76, u77, u78, u79, u80, u81, u82, u83, u84, u85, u86, u87, u88, u89, u90, u91, u92, u93, u94, u95, u96, u97, u98, u99, u100, u101, u102, u103, u104, u105, u106, u107, u108, u109, u110, u111, u112, u113, u114, u115, u116, u117, u118, u119, u120, u121, u122, u123, u124, u125, u126, u127, u128, u129, u130, u131, u132, u133, u134, u135, u136, u137, u138, u139, u140, u141, u142, u143, u144, u145], []⟩ wr := by
  obtain ⟨kpb0, kpb1, _, _⟩ := two_cells pb
  show Code.wp Tryd.prog (Code.seq (head3 3) (tail3 4)) _ _ _
  conv => arg 2; arg 1; whnf
  go_wp2_with fail
  refine (ofR nb ab lb cb B _ (rB.keep hb) (by omega)).mono ?_
  rintro e w2 ⟨ny, yo, yl, yc, rfl, hl, b_y, hb2⟩
  go_wp2
  have hb3 := hb.trans (hb2.mono hb.size)
  exact FO_4 (rA) (rB) (zA) (zB) (sA) (sB) (hva) (hvb) (hn1) (hn2) (hxl) (by omega) (hb3.alloc hb3.size _) ((pa.keep hb2).alloc _) ((pb.keep hb2).alloc _) ((px.keep hb2).alloc _) ((bx.keep hb2).alloc _) (Pr.new _ _ _ _) ((b_y.cast hvb.out).alloc _)

set_option maxRecDepth 100000 in
set_option maxHeartbeats 4000000 in
theorem FO_2 {w wr : World} {na : Bool} {nb : Bool} {aa : Option Addr} {ab : Option Addr} {A : List Nat} {B : List Nat} {va : Int} {vb : Int} {n : Int} {la : Nat} {ca : Nat} {lb : Nat} {cb : Nat} {g3 : Nat} {g4 : Nat} {u0 u1 u5 u6 u8 u9 u10 u11 u12 u13 u14 u15 u16 u17 u18 u19 u20 u21 u22 u23 u24 u25 u26 u27 u28 u29 u30 u31 u32 u33 u34 u35 u36 u37 u38 u39 u40 u41 u42 u43 u44 u45 u46 u47 u48 u49 u50 u51 u52 u53 u54 u55 u56 u57 u58 u59 u60 u61 u62 u63 u64 u65 u66 u67 u68 u69 u70 u71 u72 u73 u74 u75 u76 u77 u78 u79 u80 u81 u82 u83 u84 u85 u86 u87 u88 u89 u90 u91 u92 u93 u94 u95 u96 u97 u98 u99 u100 u101 u102 u103 u104 u105 u106 u107 u108 u109 u110 u111 u112 u113 u114 u115 u116 u117 u118 u119 u120 u121 u122 u123 u124 u125 u126 u127 u128 u129 u130 u131 u132 u133 u134 u135 u136 u137 u138 u139 u140 u141 u142 u143 u144 u145 : Value}
    (rA : Rd w aa la ca A) (rB : Rd w ab lb cb B) (zA : Hid (aa = none → ca = 0)) (zB : Hid (ab = none → cb = 0)) (sA : la ≤ 1048576) (sB : lb ≤ 1048576) (hva : Hid (num na A = va)) (hvb : Hid (num nb B = vb)) (hn1 : Hid (-9223372036854775808 ≤ n)) (hn2 : Hid (n ≤ 9223372036854775807))
    (hb : Below w.heap.size w wr)
    (pa : Pr wr g3 24 (.bool na) (.slice aa la ca)) (pb : Pr wr g4 24 (.bool nb) (.slice ab lb cb)) :
    Code.wp Tryd.prog (tail3 2) (Q3 w) ⟨#[u0, u1, .int .i64 n, .pointer (some ⟨g3, 0, none⟩), .pointer (some ⟨g4, 0, none⟩), u5, u6, .bool true, u8, u9, u10, u11, u12, u13, u14, u15, u16, u17, u18, u19, u20, u21, u22, u23, u24, u25, u26, u27, u28, u29, u30, u31, u32, u33, u34, u35, u36, u37, u38, u39, u40, u41, u42, u43, u44, u45, u46, u47, u48, u49, u50, u51, u52, u53, u54, u55, u56, u57, u58, u59, u60, u61, u62, u63, u64, u65, u66, u67, u68, u69, u70, u71, u72, u73, u74, u75, u76, u77, u78, u79, u80, u81, u82, u83, u84, u85, u86, u87, u88, u89, u90, u91, u92, u93, u94, u95, u96, u97, u98, u99, u100, u101, u102, u103, u104, u105, u106, u107, u108, u109, u110, u111, u112, u113, u114, u115, u116, u117, u118, u119, u120, u121, u122, u123, u124, u125, u126, u127, u128, u129, u130, u131, u132, u133, u134, u135, u136, u137, u138, u139, u140, u141, u142, u143, u144, u145], []⟩ wr := by
  obtain ⟨kpa0, kpa1, _, _⟩ := two_cells pa
  show Code.wp Tryd.prog (Code.seq (head3 2) (tail3 3)) _ _ _
  conv => arg 2; arg 1; whnf
  go_wp2_with fail
  refine (ofR na aa la ca A _ (rA.keep hb) (by omega)).mono ?_
  rintro e w2 ⟨nx, xo, xl, xc, rfl, hl, bx, hb2⟩
  go_wp2
  have hb3 := hb.trans (hb2.mono hb.size)
  exact FO_3 (rA) (rB) (zA) (zB) (sA) (sB) (hva) (hvb) (hn1) (hn2) (by omega) (hb3.alloc hb3.size _) ((pa.keep hb2).alloc _) ((pb.keep hb2).alloc _) (Pr.new _ _ _ _) ((bx.cast hva.out).alloc _)

set_option maxRecDepth 100000 in
set_option maxHeartbeats 2000000 in
theorem forms_yes {na : Bool} {aa : Option Addr} {la ca : Nat} {A : List Nat} {nb : Bool} {ab : Option Addr} {lb cb : Nat} {B : List Nat} (n : Int) (w : World) (hA : Rd w aa la ca A) (sA : la ≤ 1048576) (zA : aa = none → ca = 0) (hB : Rd w ab lb cb B) (sB : lb ≤ 1048576) (zB : ab = none → cb = 0) (hn : -9223372036854775808 ≤ n ∧ n ≤ 9223372036854775807) :
    Calls Tryd.prog 3 #[.agg #[.bool na, .slice aa la ca], .agg #[.bool nb, .slice ab lb cb], .int .i64 n] w fun e w' => e = .returned (.bool true) ∧ Below w.heap.size w w' := by
  have X0 := (Pr.new w 24 (.bool na) (.slice aa la ca)).alloc (.cells #[.bool nb, .slice ab lb cb] 24)
  have X1 := Pr.new (w.alloc (.cells #[.bool na, .slice aa la ca] 24)) 24 (.bool nb) (.slice ab lb cb)
  rw [show (w.alloc (.cells #[.bool na, .slice aa la ca] 24)).heap.size = w.heap.size + 1 by simp] at X1
  have hb := ((Below.refl w.heap.size w).alloc (Nat.le_refl _) (.cells #[.bool na, .slice aa la ca] 24)).alloc (by simp) (.cells #[.bool nb, .slice ab lb cb] 24)
  have h1 := hid hn.1
  have h2 := hid hn.2
  have z1 := hid zA
  have z2 := hid zB
  clear hn zA zB
  go_enter Tryd.func3, Tryd.ntmps3
  change Code.wp Tryd.prog (Code.seq (head3 0) (tail3 1)) (Q3 w) _ _
  conv => arg 2; arg 1; whnf
  go_wp2
  show Code.wp Tryd.prog (Code.seq (head3 1) (tail3 2)) _ _ _
  conv => arg 2; arg 1; whnf
  go_wp2_with fail
  refine (awake_yes _).mono ?_
  rintro e w2 ⟨rfl, hb2⟩
  go_wp2
  exact FO_2 hA hB z1 z2 sA sB (hid rfl) (hid rfl) h1 h2 (hb.trans (hb2.mono hb.size)) (X0.keep hb2) (X1.keep hb2)

end Go.Proofs.YtldafoojkimdeaaDoor
