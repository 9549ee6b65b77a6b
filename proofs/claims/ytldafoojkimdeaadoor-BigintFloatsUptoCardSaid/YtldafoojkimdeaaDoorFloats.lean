/- For every input of bulk at most 1048576 (values and letters together; beyond 2^45 limbs the law's own lists of bits would be longer than a slice can be) the law BigintFloats answers true and leaves its arguments alone: no other condition; the package-level tables that its row lists are tied to the program's text by the given tie. -/
import Derived.Test.YtldafoojkimdeaaDoorR27m
import Derived.Test.YtldafoojkimdeaaDoorRefdm
import Derived.Test.YtldafoojkimdeaaDoorR12m
namespace Go.Proofs.YtldafoojkimdeaaDoor
open Go.RowKit Lm

noncomputable def tail9 (n : Nat) : Code := seqDrop n (Tryd.f9.body.getD .skip)
noncomputable def head9 (n : Nat) : Code := seqHead (tail9 n)
noncomputable def Q9 (w : World) : Exit → Act → World → Prop := bodyPost Tryd.prog Tryd.f9 fun e w' => e = .returned (.bool true) ∧ Below w.heap.size w w'


set_option maxRecDepth 100000 in
set_option maxHeartbeats 8000000 in
theorem FT_12 {w wk wr : World}  {u0 u1 u2 u3 u4 u6 u7 u8 u9 u12 u13 u14 u15 u16 u17 u19 u20 u21 u22 u23 u24 u25 u26 u27 u28 u29 u30 u31 u32 u33 u34 u35 u36 u37 u38 u39 u40 u41 u42 u43 u44 u45 u46 u47 u48 u49 u50 u51 u52 u53 u54 u55 u56 u57 u58 u59 u60 u61 u62 u63 u64 u65 u66 u67 u68 u69 u70 u71 u72 u73 u74 u75 u76 u77 u78 u79 u80 u81 u82 u83 u84 u85 u86 u87 u88 u89 u90 u91 u92 u93 u94 u95 u96 u97 u98 u99 u100 u101 u102 u103 u104 u105 u106 u107 u108 u109 : Value}
    (hbk : Below w.heap.size w wk)
    (hk : Below wk.heap.size wk wr) :
    Code.wp Tryd.prog (tail9 12) (Q9 w) ⟨#[u0, u1, u2, u3, u4, .bool true, u6, u7, u8, u9, .bool true, .bool true, u12, u13, u14, u15, u16, u17, .bool true, u19, u20, u21, u22, u23, u24, u25, u26, u27, u28, u29, u30, u31, u32, u33, u34, u35, u36, u37, u38, u39, u40, u41, u42, u43, u44, u45, u46, u47, u48, u49, u50, u51, u52, u53, u54, u55, u56, u57, u58, u59, u60, u61, u62, u63, u64, u65, u66, u67, u68, u69, u70, u71, u72, u73, u74, u75, u76, u77, u78, u79, u80, u81, u82, u83, u84, u85, u86, u87, u88, u89, u90, u91, u92, u93, u94, u95, u96, u97, u98, u99, u100, u101, u102, u103, u104, u105, u106, u107, u108, u109], []⟩ wr := by
  conv => arg 2; whnf
  unfold Q9
  go_wp2
  go_ret
  exact ⟨rfl, hbk.trans (hk.mono hbk.size)⟩

set_option maxRecDepth 100000 in
set_option maxHeartbeats 8000000 in
theorem FT_11 {w wk wr : World} {n4 : Bool} {o4 : Option Addr} {nb : Bool} {ob : Option Addr} {c4 : Int} {F : Nat} {g14 : Nat} {g16 : Nat} {l4 : Nat} {lb : Nat} {cb : Nat} {u0 u1 u2 u3 u4 u6 u7 u8 u9 u12 u13 u17 u18 u19 u20 u21 u22 u23 u24 u25 u26 u27 u28 u29 u30 u31 u32 u33 u34 u35 u36 u37 u38 u39 u40 u41 u42 u43 u44 u45 u46 u47 u48 u49 u50 u51 u52 u53 u54 u55 u56 u57 u58 u59 u60 u61 u62 u63 u64 u65 u66 u67 u68 u69 u70 u71 u72 u73 u74 u75 u76 u77 u78 u79 u80 u81 u82 u83 u84 u85 u86 u87 u88 u89 u90 u91 u92 u93 u94 u95 u96 u97 u98 u99 u100 u101 u102 u103 u104 u105 u106 u107 u108 u109 : Value}
    (hbk : Below w.heap.size w wk)
    (hk : Below wk.heap.size wk wr)
    (d4 : Aw wk.heap.size wr g14 n4 o4 l4 c4 0 (ofv F))
    (pw : Pr wr g16 28 (.bool nb) (.slice ob lb cb))
    (bw : Big wr nb ob lb cb (ofv F)) :
    Code.wp Tryd.prog (tail9 11) (Q9 w) ⟨#[u0, u1, u2, u3, u4, .bool true, u6, u7, u8, u9, .bool true, .bool true, u12, u13, .pointer (some ⟨g14, 0, none⟩), .int .i64 c4, .pointer (some ⟨g16, 0, none⟩), u17, u18, u19, u20, u21, u22, u23, u24, u25, u26, u27, u28, u29, u30, u31, u32, u33, u34, u35, u36, u37, u38, u39, u40, u41, u42, u43, u44, u45, u46, u47, u48, u49, u50, u51, u52, u53, u54, u55, u56, u57, u58, u59, u60, u61, u62, u63, u64, u65, u66, u67, u68, u69, u70, u71, u72, u73, u74, u75, u76, u77, u78, u79, u80, u81, u82, u83, u84, u85, u86, u87, u88, u89, u90, u91, u92, u93, u94, u95, u96, u97, u98, u99, u100, u101, u102, u103, u104, u105, u106, u107, u108, u109], []⟩ wr := by
  obtain ⟨kc0, kc1, _, _⟩ := two_cells d4.box
  obtain ⟨kv0, kv1, _, _⟩ := two_cells pw
  show Code.wp Tryd.prog (Code.seq (head9 11) (tail9 12)) _ _ _
  conv => arg 2; arg 1; whnf
  go_wp2_with (go_at_call 38; (with_reducible refine (isA hk d4.ans bw (fun _ => rfl)).mono ?_); rintro r w5 ⟨rfl, hbW, hst, hsz⟩)
  exact FT_12 (hbk) (hbW)

set_option maxRecDepth 100000 in
set_option maxHeartbeats 8000000 in
theorem FT_10 {w wk wr : World} {n4 : Bool} {o4 : Option Addr} {nb : Bool} {ob : Option Addr} {c4 : Int} {F : Nat} {g14 : Nat} {g16 : Nat} {l4 : Nat} {lb : Nat} {cb : Nat} {u0 u1 u2 u3 u4 u6 u7 u8 u9 u12 u13 u18 u19 u20 u21 u22 u23 u24 u25 u26 u27 u28 u29 u30 u31 u32 u33 u34 u35 u36 u37 u38 u39 u40 u41 u42 u43 u44 u45 u46 u47 u48 u49 u50 u51 u52 u53 u54 u55 u56 u57 u58 u59 u60 u61 u62 u63 u64 u65 u66 u67 u68 u69 u70 u71 u72 u73 u74 u75 u76 u77 u78 u79 u80 u81 u82 u83 u84 u85 u86 u87 u88 u89 u90 u91 u92 u93 u94 u95 u96 u97 u98 u99 u100 u101 u102 u103 u104 u105 u106 u107 u108 u109 : Value}
    (hbk : Below w.heap.size w wk)
    (hk : Below wk.heap.size wk wr)
    (d4 : Aw wk.heap.size wr g14 n4 o4 l4 c4 0 (ofv F))
    (pw : Pr wr g16 28 (.bool nb) (.slice ob lb cb))
    (bw : Big wr nb ob lb cb (ofv F)) :
    Code.wp Tryd.prog (tail9 10) (Q9 w) ⟨#[u0, u1, u2, u3, u4, .bool true, u6, u7, u8, u9, .bool true, .bool true, u12, u13, .pointer (some ⟨g14, 0, none⟩), .int .i64 c4, .pointer (some ⟨g16, 0, none⟩), .bool true, u18, u19, u20, u21, u22, u23, u24, u25, u26, u27, u28, u29, u30, u31, u32, u33, u34, u35, u36, u37, u38, u39, u40, u41, u42, u43, u44, u45, u46, u47, u48, u49, u50, u51, u52, u53, u54, u55, u56, u57, u58, u59, u60, u61, u62, u63, u64, u65, u66, u67, u68, u69, u70, u71, u72, u73, u74, u75, u76, u77, u78, u79, u80, u81, u82, u83, u84, u85, u86, u87, u88, u89, u90, u91, u92, u93, u94, u95, u96, u97, u98, u99, u100, u101, u102, u103, u104, u105, u106, u107, u108, u109], []⟩ wr := by
  show Code.wp Tryd.prog (Code.seq (head9 10) (tail9 11)) _ _ _
  conv => arg 2; arg 1; whnf
  go_wp2
  exact FT_11 (hbk) (hk) (d4) (pw) (bw)

set_option maxRecDepth 100000 in
set_option maxHeartbeats 8000000 in
theorem FT_9 {w wk wr : World} {n4 : Bool} {o4 : Option Addr} {c4 : Int} {e4 : Int} {F : Nat} {g14 : Nat} {l4 : Nat} {u0 u2 u3 u4 u6 u7 u8 u9 u12 u13 u16 u17 u18 u19 u20 u21 u22 u23 u24 u25 u26 u27 u28 u29 u30 u31 u32 u33 u34 u35 u36 u37 u38 u39 u40 u41 u42 u43 u44 u45 u46 u47 u48 u49 u50 u51 u52 u53 u54 u55 u56 u57 u58 u59 u60 u61 u62 u63 u64 u65 u66 u67 u68 u69 u70 u71 u72 u73 u74 u75 u76 u77 u78 u79 u80 u81 u82 u83 u84 u85 u86 u87 u88 u89 u90 u91 u92 u93 u94 u95 u96 u97 u98 u99 u100 u101 u102 u103 u104 u105 u106 u107 u108 u109 : Value}
    (hF : Hid (F < 18446744073709551616))
    (he4 : Hid (e4 = if F / 4503599627370496 % 2048 = 2047 then 14 else 0))
    (hbk : Below w.heap.size w wk)
    (hk : Below wk.heap.size wk wr)
    (d4 : Aw wk.heap.size wr g14 n4 o4 l4 c4 e4 (ofv F)) :
    Code.wp Tryd.prog (tail9 9) (Q9 w) ⟨#[u0, .int .u64 (F : Int), u2, u3, u4, .bool true, u6, u7, u8, u9, .bool true, .bool true, u12, u13, .pointer (some ⟨g14, 0, none⟩), .int .i64 c4, u16, u17, u18, u19, u20, u21, u22, u23, u24, u25, u26, u27, u28, u29, u30, u31, u32, u33, u34, u35, u36, u37, u38, u39, u40, u41, u42, u43, u44, u45, u46, u47, u48, u49, u50, u51, u52, u53, u54, u55, u56, u57, u58, u59, u60, u61, u62, u63, u64, u65, u66, u67, u68, u69, u70, u71, u72, u73, u74, u75, u76, u77, u78, u79, u80, u81, u82, u83, u84, u85, u86, u87, u88, u89, u90, u91, u92, u93, u94, u95, u96, u97, u98, u99, u100, u101, u102, u103, u104, u105, u106, u107, u108, u109], []⟩ wr := by
  by_cases h1 : F / 4503599627370496 % 2048 = 2047
  · have hE : e4 = 14 := by rw [he4.out, if_pos h1]
    subst hE
    have HX0 := hid (show (F : Int) / 4503599627370496 = ((F / 4503599627370496 : Nat) : Int) by omega)
    have HX2 := hid (show F / 4503599627370496 < 4096 by have := hF.out; omega)
    have HX1 := hid (show ((F / 4503599627370496 : Nat) : Int) % 2048 = 2047 by omega)
    have D4 := hid d4.box
    obtain ⟨h2, hc, hn, ho, hl⟩ | ⟨h2, _⟩ := d4.ans
    · subst hc hn ho hl
      show Code.wp Tryd.prog (Code.seq (head9 9) (Code.seq (head9 10) (tail9 11))) _ _ _
      conv => arg 2; arg 1; whnf
      conv => arg 2; arg 2; arg 1; whnf
      clear h1 he4
      unfold Q9
      go_wp2_with (go_at_call 64; refine (ofFloatR_inf F _ _ HX0.out HX2.out HX1.out).mono ?_; rintro e_ w3 ⟨rfl, hb3⟩; have hk3 := hk.trans (hb3.mono hk.size); obtain ⟨b0, b1, _, _⟩ := two_cells ((Pr.keep (t := 24) D4.out hb3).alloc (.cells #[.bool false, .slice none 0 0] 28)))
      go_ret
      exact ⟨rfl, hbk.trans ((hk3.alloc hk3.size _).mono hbk.size)⟩
    · exact absurd h2 (by decide)
  · have hE : e4 = 0 := by rw [he4.out, if_neg h1]
    subst hE
    have H1 := hid h1
    clear h1 he4
    show Code.wp Tryd.prog (Code.seq (head9 9) (tail9 10)) _ _ _
    conv => arg 2; arg 1; whnf
    go_wp2_with (go_at_call 64; refine (ofFloatR F _ hF.out H1.out).mono ?_; rintro e_ w3 ⟨nb, ob, lb, cb, rfl, hbig, hb3⟩; have hk3 := hk.trans (hb3.mono hk.size))
    exact FT_10 (hbk) (hk3.alloc hk3.size _) ((d4.keep hb3).alloc _) (Pr.new _ _ _ _) (hbig.alloc _)

set_option maxRecDepth 100000 in
set_option maxHeartbeats 8000000 in
theorem FT_8 {w wk wr : World} {F : Nat} {u0 u2 u3 u4 u6 u7 u8 u9 u12 u13 u14 u15 u16 u17 u18 u19 u20 u21 u22 u23 u24 u25 u26 u27 u28 u29 u30 u31 u32 u33 u34 u35 u36 u37 u38 u39 u40 u41 u42 u43 u44 u45 u46 u47 u48 u49 u50 u51 u52 u53 u54 u55 u56 u57 u58 u59 u60 u61 u62 u63 u64 u65 u66 u67 u68 u69 u70 u71 u72 u73 u74 u75 u76 u77 u78 u79 u80 u81 u82 u83 u84 u85 u86 u87 u88 u89 u90 u91 u92 u93 u94 u95 u96 u97 u98 u99 u100 u101 u102 u103 u104 u105 u106 u107 u108 u109 : Value}
    (hF : Hid (F < 18446744073709551616))
    (hbk : Below w.heap.size w wk)
    (hk : Below wk.heap.size wk wr) :
    Code.wp Tryd.prog (tail9 8) (Q9 w) ⟨#[u0, .int .u64 (F : Int), u2, u3, u4, .bool true, u6, u7, u8, u9, .bool true, .bool true, u12, u13, u14, u15, u16, u17, u18, u19, u20, u21, u22, u23, u24, u25, u26, u27, u28, u29, u30, u31, u32, u33, u34, u35, u36, u37, u38, u39, u40, u41, u42, u43, u44, u45, u46, u47, u48, u49, u50, u51, u52, u53, u54, u55, u56, u57, u58, u59, u60, u61, u62, u63, u64, u65, u66, u67, u68, u69, u70, u71, u72, u73, u74, u75, u76, u77, u78, u79, u80, u81, u82, u83, u84, u85, u86, u87, u88, u89, u90, u91, u92, u93, u94, u95, u96, u97, u98, u99, u100, u101, u102, u103, u104, u105, u106, u107, u108, u109], []⟩ wr := by
  obtain ⟨e4, hq4⟩ : ∃ e4 : Int, e4 = if F / 4503599627370496 % 2048 = 2047 then 14 else 0 := ⟨_, rfl⟩
  have he4 := hid hq4
  clear hq4
  show Code.wp Tryd.prog (Code.seq (head9 8) (tail9 9)) _ _ _
  conv => arg 2; arg 1; whnf
  go_wp2_with fail
  refine (ofFloatE hF.out he4.out hk.size).mono ?_
  rintro e_ w2 ⟨n1, o1, l1, c1, rfl, hA1, hb2⟩
  have hkk := hk.trans (hb2.mono hk.size)
  go_wp2
  exact FT_9 (hF) (he4) (hbk) (hkk.alloc hkk.size _) (Aw.new hA1.1)

set_option maxRecDepth 100000 in
set_option maxHeartbeats 8000000 in
theorem FT_7 {w wk wr : World} {nx : Bool} {xo : Option Addr} {va : Int} {cq : Int} {xl : Nat} {xc : Nat} {F : Nat} {g6 : Nat} {gq : Nat} {u0 u2 u3 u4 u7 u12 u13 u14 u15 u16 u17 u18 u19 u20 u21 u22 u23 u24 u25 u26 u27 u28 u29 u30 u31 u32 u33 u34 u35 u36 u37 u38 u39 u40 u41 u42 u43 u44 u45 u46 u47 u48 u49 u50 u51 u52 u53 u54 u55 u56 u57 u58 u59 u60 u61 u62 u63 u64 u65 u66 u67 u68 u69 u70 u71 u72 u73 u74 u75 u76 u77 u78 u79 u80 u81 u82 u83 u84 u85 u86 u87 u88 u89 u90 u91 u92 u93 u94 u95 u96 u97 u98 u99 u100 u101 u102 u103 u104 u105 u106 u107 u108 u109 : Value}
    (hF : Hid (F < 18446744073709551616))
    (hxl : xl ≤ 33554432)
    (hq1 : Hid (bl va.natAbs ≤ 4096 → gq = fout va ∧ cq = if fin va then 0 else 14))
    (hq2 : Hid (4096 < bl va.natAbs → gq = 0 ∧ cq = 10))
    (hbk : Below w.heap.size w wk)
    (px : Pr wk g6 28 (.bool nx) (.slice xo xl xc))
    (bx : Big wk nx xo xl xc va)
    (hk : Below wk.heap.size wk wr) :
    Code.wp Tryd.prog (tail9 7) (Q9 w) ⟨#[u0, .int .u64 (F : Int), u2, u3, u4, .bool true, .pointer (some ⟨g6, 0, none⟩), u7, .int .u64 (gq : Int), .int .i64 cq, .bool true, .bool false, u12, u13, u14, u15, u16, u17, u18, u19, u20, u21, u22, u23, u24, u25, u26, u27, u28, u29, u30, u31, u32, u33, u34, u35, u36, u37, u38, u39, u40, u41, u42, u43, u44, u45, u46, u47, u48, u49, u50, u51, u52, u53, u54, u55, u56, u57, u58, u59, u60, u61, u62, u63, u64, u65, u66, u67, u68, u69, u70, u71, u72, u73, u74, u75, u76, u77, u78, u79, u80, u81, u82, u83, u84, u85, u86, u87, u88, u89, u90, u91, u92, u93, u94, u95, u96, u97, u98, u99, u100, u101, u102, u103, u104, u105, u106, u107, u108, u109], []⟩ wr := by
  obtain ⟨x0, x1, _, _⟩ := two_cells (px.keep hk)
  have hlen := hid bx.len
  have PX := hid px
  show Code.wp Tryd.prog (Code.seq (head9 7) (tail9 8)) _ _ _
  conv => arg 2; arg 1; whnf
  by_cases hl : 4096 < xl
  · obtain ⟨rfl, rfl⟩ := hq2.out (by rw [← hlen.out]; exact hl)
    have hd : decide (4096 < xl) = true := decide_eq_true hl
    clear hl
    go_wp2_with (go_at_call 45; refine (longR1 nx xo xl xc _).mono ?_; rintro e_ w2 ⟨rfl, hb2⟩; rw [hd])
    exact FT_8 (hF) (hbk) (hk.trans (hb2.mono hk.size))
  · obtain ⟨rfl, rfl⟩ := hq1.out (by rw [← hlen.out]; omega)
    have hd : decide (4096 < xl) = false := decide_eq_false hl
    have hx6 : xl ≤ 1000000 := by omega
    clear hl
    cases hfin : fin va with
    | true =>
      go_wp2_with (first
        | (go_at_call 45; refine (longR1 nx xo xl xc _).mono ?_; rintro e_ w2 ⟨rfl, hb2⟩; rw [hd]; have hk2 := hk.trans (hb2.mono hk.size); obtain ⟨y0, y1, _, _⟩ := two_cells (PX.out.keep hk2))
        | (go_at_call 62; refine (floatR nx xo xl xc va _ (bx.keep hk2) hx6).mono ?_; rintro e_ w3 ⟨rfl, hb3⟩; rw [hfin]))
      exact FT_8 (hF) (hbk) (hk2.trans (hb3.mono hk2.size))
    | false =>
      have hz0 : fout va = 0 := by unfold fout; rw [hfin]; rfl
      go_wp2_with (first
        | (go_at_call 45; refine (longR1 nx xo xl xc _).mono ?_; rintro e_ w2 ⟨rfl, hb2⟩; rw [hd]; have hk2 := hk.trans (hb2.mono hk.size); obtain ⟨y0, y1, _, _⟩ := two_cells (PX.out.keep hk2))
        | (go_at_call 62; refine (floatR nx xo xl xc va _ (bx.keep hk2) hx6).mono ?_; rintro e_ w3 ⟨rfl, hb3⟩; rw [hfin]))
      exact FT_8 (hF) (hbk) (hk2.trans (hb3.mono hk2.size))

set_option maxRecDepth 100000 in
set_option maxHeartbeats 8000000 in
theorem FT_6 {w wk wr : World} {nx : Bool} {xo : Option Addr} {va : Int} {cq : Int} {xl : Nat} {xc : Nat} {F : Nat} {g6 : Nat} {gq : Nat} {u0 u2 u3 u4 u7 u11 u12 u13 u14 u15 u16 u17 u18 u19 u20 u21 u22 u23 u24 u25 u26 u27 u28 u29 u30 u31 u32 u33 u34 u35 u36 u37 u38 u39 u40 u41 u42 u43 u44 u45 u46 u47 u48 u49 u50 u51 u52 u53 u54 u55 u56 u57 u58 u59 u60 u61 u62 u63 u64 u65 u66 u67 u68 u69 u70 u71 u72 u73 u74 u75 u76 u77 u78 u79 u80 u81 u82 u83 u84 u85 u86 u87 u88 u89 u90 u91 u92 u93 u94 u95 u96 u97 u98 u99 u100 u101 u102 u103 u104 u105 u106 u107 u108 u109 : Value}
    (hF : Hid (F < 18446744073709551616))
    (hxl : xl ≤ 33554432)
    (hq1 : Hid (bl va.natAbs ≤ 4096 → gq = fout va ∧ cq = if fin va then 0 else 14))
    (hq2 : Hid (4096 < bl va.natAbs → gq = 0 ∧ cq = 10))
    (hbk : Below w.heap.size w wk)
    (px : Pr wk g6 28 (.bool nx) (.slice xo xl xc))
    (bx : Big wk nx xo xl xc va)
    (hk : Below wk.heap.size wk wr) :
    Code.wp Tryd.prog (tail9 6) (Q9 w) ⟨#[u0, .int .u64 (F : Int), u2, u3, u4, .bool true, .pointer (some ⟨g6, 0, none⟩), u7, .int .u64 (gq : Int), .int .i64 cq, .bool true, u11, u12, u13, u14, u15, u16, u17, u18, u19, u20, u21, u22, u23, u24, u25, u26, u27, u28, u29, u30, u31, u32, u33, u34, u35, u36, u37, u38, u39, u40, u41, u42, u43, u44, u45, u46, u47, u48, u49, u50, u51, u52, u53, u54, u55, u56, u57, u58, u59, u60, u61, u62, u63, u64, u65, u66, u67, u68, u69, u70, u71, u72, u73, u74, u75, u76, u77, u78, u79, u80, u81, u82, u83, u84, u85, u86, u87, u88, u89, u90, u91, u92, u93, u94, u95, u96, u97, u98, u99, u100, u101, u102, u103, u104, u105, u106, u107, u108, u109], []⟩ wr := by
  show Code.wp Tryd.prog (Code.seq (head9 6) (tail9 7)) _ _ _
  conv => arg 2; arg 1; whnf
  go_wp2
  exact FT_7 (hF) (hxl) (hq1) (hq2) (hbk) (px) (bx) (hk)

set_option maxRecDepth 100000 in
set_option maxHeartbeats 8000000 in
theorem FT_5 {w wk wr : World} {na : Bool} {nx : Bool} {aa : Option Addr} {xo : Option Addr} {A : List Nat} {va : Int} {cq : Int} {la : Nat} {ca : Nat} {xl : Nat} {xc : Nat} {F : Nat} {g2 : Nat} {g6 : Nat} {g7 : Nat} {gt : Nat} {ct : Nat} {gq : Nat} {u0 u3 u4 u10 u11 u12 u13 u14 u15 u16 u17 u18 u19 u20 u21 u22 u23 u24 u25 u26 u27 u28 u29 u30 u31 u32 u33 u34 u35 u36 u37 u38 u39 u40 u41 u42 u43 u44 u45 u46 u47 u48 u49 u50 u51 u52 u53 u54 u55 u56 u57 u58 u59 u60 u61 u62 u63 u64 u65 u66 u67 u68 u69 u70 u71 u72 u73 u74 u75 u76 u77 u78 u79 u80 u81 u82 u83 u84 u85 u86 u87 u88 u89 u90 u91 u92 u93 u94 u95 u96 u97 u98 u99 u100 u101 u102 u103 u104 u105 u106 u107 u108 u109 : Value}
    (rA : Rd w aa la ca A)
    (zA : Hid (aa = none → ca = 0))
    (sA : la ≤ 1048576)
    (hva : Hid (num na A = va))
    (hF : Hid (F < 18446744073709551616))
    (hxl : xl ≤ 33554432)
    (hq1 : Hid (bl va.natAbs ≤ 4096 → gq = fout va ∧ cq = if fin va then 0 else 14))
    (hq2 : Hid (4096 < bl va.natAbs → gq = 0 ∧ cq = 10))
    (hbk : Below w.heap.size w wk)
    (pa : Pr wk g2 24 (.bool na) (.slice aa la ca))
    (px : Pr wk g6 28 (.bool nx) (.slice xo xl xc))
    (bx : Big wk nx xo xl xc va)
    (hk : Below wk.heap.size wk wr)
    (pt : Pr wr g7 24 (.bool na) (.slice (some ⟨gt, 0, none⟩) la ct))
    (lt_ : Lent wk.heap.size wr gt la ct A) :
    Code.wp Tryd.prog (tail9 5) (Q9 w) ⟨#[u0, .int .u64 (F : Int), .pointer (some ⟨g2, 0, none⟩), u3, u4, .bool true, .pointer (some ⟨g6, 0, none⟩), .pointer (some ⟨g7, 0, none⟩), .int .u64 (gq : Int), .int .i64 cq, u10, u11, u12, u13, u14, u15, u16, u17, u18, u19, u20, u21, u22, u23, u24, u25, u26, u27, u28, u29, u30, u31, u32, u33, u34, u35, u36, u37, u38, u39, u40, u41, u42, u43, u44, u45, u46, u47, u48, u49, u50, u51, u52, u53, u54, u55, u56, u57, u58, u59, u60, u61, u62, u63, u64, u65, u66, u67, u68, u69, u70, u71, u72, u73, u74, u75, u76, u77, u78, u79, u80, u81, u82, u83, u84, u85, u86, u87, u88, u89, u90, u91, u92, u93, u94, u95, u96, u97, u98, u99, u100, u101, u102, u103, u104, u105, u106, u107, u108, u109], []⟩ wr := by
  have pa' := pa.keep hk
  obtain ⟨a0, a1, _, _⟩ := two_cells pa'
  obtain ⟨t0, t1, _, _⟩ := two_cells pt
  show Code.wp Tryd.prog (Code.seq (head9 5) (tail9 6)) _ _ _
  conv => arg 2; arg 1; whnf
  go_wp2_with fail
  refine (heldR na gt ct aa la ca A wk _ (rA.keep hbk) hk lt_ (by omega)).mono ?_
  rintro e_ w6 ⟨rfl, hb6, hst⟩
  go_wp2
  exact FT_6 (hF) (hxl) (hq1) (hq2) (hbk) (px) (bx) (hb6)

set_option maxRecDepth 100000 in
set_option maxHeartbeats 8000000 in
theorem FT_4 {w wk wr : World} {na : Bool} {nx : Bool} {aa : Option Addr} {xo : Option Addr} {A : List Nat} {va : Int} {la : Nat} {ca : Nat} {xl : Nat} {xc : Nat} {F : Nat} {g2 : Nat} {g6 : Nat} {g7 : Nat} {gt : Nat} {ct : Nat} {u0 u3 u4 u8 u9 u10 u11 u12 u13 u14 u15 u16 u17 u18 u19 u20 u21 u22 u23 u24 u25 u26 u27 u28 u29 u30 u31 u32 u33 u34 u35 u36 u37 u38 u39 u40 u41 u42 u43 u44 u45 u46 u47 u48 u49 u50 u51 u52 u53 u54 u55 u56 u57 u58 u59 u60 u61 u62 u63 u64 u65 u66 u67 u68 u69 u70 u71 u72 u73 u74 u75 u76 u77 u78 u79 u80 u81 u82 u83 u84 u85 u86 u87 u88 u89 u90 u91 u92 u93 u94 u95 u96 u97 u98 u99 u100 u101 u102 u103 u104 u105 u106 u107 u108 u109 : Value}
    (rA : Rd w aa la ca A)
    (zA : Hid (aa = none → ca = 0))
    (sA : la ≤ 1048576)
    (hva : Hid (num na A = va))
    (hF : Hid (F < 18446744073709551616))
    (hxl : xl ≤ 33554432)
    (hbk : Below w.heap.size w wk)
    (pa : Pr wk g2 24 (.bool na) (.slice aa la ca))
    (px : Pr wk g6 28 (.bool nx) (.slice xo xl xc))
    (bx : Big wk nx xo xl xc va)
    (hk : Below wk.heap.size wk wr)
    (pt : Pr wr g7 24 (.bool na) (.slice (some ⟨gt, 0, none⟩) la ct))
    (lt_ : Lent wk.heap.size wr gt la ct A) :
    Code.wp Tryd.prog (tail9 4) (Q9 w) ⟨#[u0, .int .u64 (F : Int), .pointer (some ⟨g2, 0, none⟩), u3, u4, .bool true, .pointer (some ⟨g6, 0, none⟩), .pointer (some ⟨g7, 0, none⟩), u8, u9, u10, u11, u12, u13, u14, u15, u16, u17, u18, u19, u20, u21, u22, u23, u24, u25, u26, u27, u28, u29, u30, u31, u32, u33, u34, u35, u36, u37, u38, u39, u40, u41, u42, u43, u44, u45, u46, u47, u48, u49, u50, u51, u52, u53, u54, u55, u56, u57, u58, u59, u60, u61, u62, u63, u64, u65, u66, u67, u68, u69, u70, u71, u72, u73, u74, u75, u76, u77, u78, u79, u80, u81, u82, u83, u84, u85, u86, u87, u88, u89, u90, u91, u92, u93, u94, u95, u96, u97, u98, u99, u100, u101, u102, u103, u104, u105, u106, u107, u108, u109], []⟩ wr := by
  obtain ⟨kpt0, kpt1, _, _⟩ := two_cells pt
  obtain ⟨gq, cq, hq1, hq2⟩ : ∃ (gq : Nat) (cq : Int), (bl va.natAbs ≤ 4096 → gq = fout va ∧ cq = if fin va then 0 else 14) ∧ (4096 < bl va.natAbs → gq = 0 ∧ cq = 10) := by
    by_cases h : 4096 < bl va.natAbs
    · exact ⟨0, 10, fun h2 => absurd h (by omega), fun _ => ⟨rfl, rfl⟩⟩
    · exact ⟨_, _, fun _ => ⟨rfl, rfl⟩, fun h2 => absurd h2 h⟩
  have hq1 := hid hq1
  have hq2 := hid hq2
  show Code.wp Tryd.prog (Code.seq (head9 4) (tail9 5)) _ _ _
  conv => arg 2; arg 1; whnf
  go_wp2_with fail
  refine (toFloatE (lt_.rd rA.ok (by omega)) hva.out hq1 hq2).mono ?_
  rintro e_ w2 ⟨rfl, hb2⟩
  go_wp2
  exact FT_5 (rA) (zA) (sA) (hva) (hF) (hxl) (hq1) (hq2) (hbk) (pa) (px) (bx) (hk.trans (hb2.mono hk.size)) (pt.keep hb2) (lt_.keep hb2)

set_option maxRecDepth 100000 in
set_option maxHeartbeats 8000000 in
theorem FT_3 {w wr : World} {na : Bool} {nx : Bool} {aa : Option Addr} {xo : Option Addr} {A : List Nat} {va : Int} {la : Nat} {ca : Nat} {xl : Nat} {xc : Nat} {F : Nat} {g2 : Nat} {g6 : Nat} {u0 u3 u4 u7 u8 u9 u10 u11 u12 u13 u14 u15 u16 u17 u18 u19 u20 u21 u22 u23 u24 u25 u26 u27 u28 u29 u30 u31 u32 u33 u34 u35 u36 u37 u38 u39 u40 u41 u42 u43 u44 u45 u46 u47 u48 u49 u50 u51 u52 u53 u54 u55 u56 u57 u58 u59 u60 u61 u62 u63 u64 u65 u66 u67 u68 u69 u70 u71 u72 u73 u74 u75 u76 u77 u78 u79 u80 u81 u82 u83 u84 u85 u86 u87 u88 u89 u90 u91 u92 u93 u94 u95 u96 u97 u98 u99 u100 u101 u102 u103 u104 u105 u106 u107 u108 u109 : Value}
    (rA : Rd w aa la ca A)
    (zA : Hid (aa = none → ca = 0))
    (sA : la ≤ 1048576)
    (hva : Hid (num na A = va))
    (hF : Hid (F < 18446744073709551616))
    (hxl : xl ≤ 33554432)
    (hb : Below w.heap.size w wr)
    (pa : Pr wr g2 24 (.bool na) (.slice aa la ca))
    (px : Pr wr g6 28 (.bool nx) (.slice xo xl xc))
    (bx : Big wr nx xo xl xc va) :
    Code.wp Tryd.prog (tail9 3) (Q9 w) ⟨#[u0, .int .u64 (F : Int), .pointer (some ⟨g2, 0, none⟩), u3, u4, .bool true, .pointer (some ⟨g6, 0, none⟩), u7, u8, u9, u10, u11, u12, u13, u14, u15, u16, u17, u18, u19, u20, u21, u22, u23, u24, u25, u26, u27, u28, u29, u30, u31, u32, u33, u34, u35, u36, u37, u38, u39, u40, u41, u42, u43, u44, u45, u46, u47, u48, u49, u50, u51, u52, u53, u54, u55, u56, u57, u58, u59, u60, u61, u62, u63, u64, u65, u66, u67, u68, u69, u70, u71, u72, u73, u74, u75, u76, u77, u78, u79, u80, u81, u82, u83, u84, u85, u86, u87, u88, u89, u90, u91, u92, u93, u94, u95, u96, u97, u98, u99, u100, u101, u102, u103, u104, u105, u106, u107, u108, u109], []⟩ wr := by
  obtain ⟨kpa0, kpa1, _, _⟩ := two_cells pa
  show Code.wp Tryd.prog (Code.seq (head9 3) (tail9 4)) _ _ _
  conv => arg 2; arg 1; whnf
  go_wp2_with fail
  refine (lentR na aa la ca A _ (rA.keep hb) zA.out (by omega)).mono ?_
  rintro e_ w2 ⟨gt, ct, rfl, lu, hb2⟩
  go_wp2
  exact FT_4 (rA) (zA) (sA) (hva) (hF) (hxl) (hb) (pa) (px) (bx) (hb2.alloc hb2.size _) (Pr.new _ _ _ _) (lu.alloc _)

set_option maxRecDepth 100000 in
set_option maxHeartbeats 8000000 in
theorem FT_2 {w wr : World} {na : Bool} {aa : Option Addr} {A : List Nat} {va : Int} {la : Nat} {ca : Nat} {F : Nat} {g2 : Nat} {u0 u3 u4 u6 u7 u8 u9 u10 u11 u12 u13 u14 u15 u16 u17 u18 u19 u20 u21 u22 u23 u24 u25 u26 u27 u28 u29 u30 u31 u32 u33 u34 u35 u36 u37 u38 u39 u40 u41 u42 u43 u44 u45 u46 u47 u48 u49 u50 u51 u52 u53 u54 u55 u56 u57 u58 u59 u60 u61 u62 u63 u64 u65 u66 u67 u68 u69 u70 u71 u72 u73 u74 u75 u76 u77 u78 u79 u80 u81 u82 u83 u84 u85 u86 u87 u88 u89 u90 u91 u92 u93 u94 u95 u96 u97 u98 u99 u100 u101 u102 u103 u104 u105 u106 u107 u108 u109 : Value}
    (rA : Rd w aa la ca A)
    (zA : Hid (aa = none → ca = 0))
    (sA : la ≤ 1048576)
    (hva : Hid (num na A = va))
    (hF : Hid (F < 18446744073709551616))
    (hb : Below w.heap.size w wr)
    (pa : Pr wr g2 24 (.bool na) (.slice aa la ca)) :
    Code.wp Tryd.prog (tail9 2) (Q9 w) ⟨#[u0, .int .u64 (F : Int), .pointer (some ⟨g2, 0, none⟩), u3, u4, .bool true, u6, u7, u8, u9, u10, u11, u12, u13, u14, u15, u16, u17, u18, u19, u20, u21, u22, u23, u24, u25, u26, u27, u28, u29, u30, u31, u32, u33, u34, u35, u36, u37, u38, u39, u40, u41, u42, u43, u44, u45, u46, u47, u48, u49, u50, u51, u52, u53, u54, u55, u56, u57, u58, u59, u60, u61, u62, u63, u64, u65, u66, u67, u68, u69, u70, u71, u72, u73, u74, u75, u76, u77, u78, u79, u80, u81, u82, u83, u84, u85, u86, u87, u88, u89, u90, u91, u92, u93, u94, u95, u96, u97, u98, u99, u100, u101, u102, u103, u104, u105, u106, u107, u108, u109], []⟩ wr := by
  obtain ⟨kpa0, kpa1, _, _⟩ := two_cells pa
  show Code.wp Tryd.prog (Code.seq (head9 2) (tail9 3)) _ _ _
  conv => arg 2; arg 1; whnf
  go_wp2_with fail
  refine (ofR na aa la ca A _ (rA.keep hb) (by omega)).mono ?_
  rintro e w2 ⟨nx, xo, xl, xc, rfl, hl, bnew, hb2⟩
  go_wp2
  have hb3 := hb.trans (hb2.mono hb.size)
  exact FT_3 (rA) (zA) (sA) (hva) (hF) (by omega) (hb3.alloc hb3.size _) ((pa.keep hb2).alloc _) (Pr.new _ _ _ _) ((bnew.cast hva.out).alloc _)

set_option maxRecDepth 100000 in
set_option maxHeartbeats 2000000 in
theorem floats_yes {na : Bool} {aa : Option Addr} {la ca : Nat} {A : List Nat} {F : Nat} (w : World) (hA : Rd w aa la ca A) (sA : la ≤ 1048576) (zA : aa = none → ca = 0) (hF : Hid (F < 18446744073709551616)) :
    Calls Tryd.prog 9 #[.agg #[.bool na, .slice aa la ca], .int .u64 (F : Int)] w fun e w' => e = .returned (.bool true) ∧ Below w.heap.size w w' := by
  have X0 := Pr.new w 24 (.bool na) (.slice aa la ca)
  have hb := (Below.refl w.heap.size w).alloc (Nat.le_refl _) (.cells #[.bool na, .slice aa la ca] 24)
  have z1 := hid zA
  clear zA
  go_enter Tryd.func9, Tryd.ntmps9
  change Code.wp Tryd.prog (Code.seq (head9 0) (tail9 1)) (Q9 w) _ _
  conv => arg 2; arg 1; whnf
  go_wp2
  show Code.wp Tryd.prog (Code.seq (head9 1) (tail9 2)) _ _ _
  conv => arg 2; arg 1; whnf
  go_wp2_with fail
  refine (awake_yes _).mono ?_
  rintro e w2 ⟨rfl, hb2⟩
  go_wp2
  exact FT_2 hA z1 sA (hid rfl) hF (hb.trans (hb2.mono hb.size)) (X0.keep hb2)

end Go.Proofs.YtldafoojkimdeaaDoor

namespace Go.Proofs.YtldafoojkimdeaaDoor
open Go.ChangeShapes Go.WideShapes Go.ChangeAt Go.RowKit Go.Joins Lm

theorem reads68 : Tryd.prog.readableRec 68 = true ∧ 68 < Tryd.prog.types.size := ⟨by kernel_rfl, of_decide_eq_true (by kernel_rfl)⟩
theorem floats_params : ∀ t ∈ Tryd.f9.params.toList, Tryd.prog.readableRec t = true ∧ t < Tryd.prog.types.size := by
  intro t ht
  rw [Tryd.params9] at ht
  simp at ht
  rcases ht with rfl | rfl
  · exact reads24
  · exact reads68

set_option maxRecDepth 100000 in
theorem floats_contract (H : Type) (enc : TypeId × Value → H) (W : World) (base : Nat) (args : Array Value) (ds gs : List (DataW H)) (before : List MemPlace)
    (hval : ∀ (j : Nat) t v, Tryd.f9.params[j]? = some t → args[j]? = some v → Value.okWide Tryd.prog W .any base t v)
    (hW : DataW.Whole enc Tryd.prog Tryd.f9.params.toList Rows.bigintFloatsSpec.vars false W args.toList ds gs before)
    (hsz : (DataW.weightsEach Tryd.prog (Tryd.f9.params.toList ++ (OpenSpec.ofChange Rows.bigintFloatsSpec).bare.plain.varTypes Tryd.prog) (ds ++ gs)).all (· ≤ reachBytes) = true) (hk : Rows.uptoBulkAll (ds ++ gs) ≤ 1048576) :
    Calls Tryd.prog 9 args W fun e W' => ∃ v, e = .returned v ∧ Rows.bigintFloatsSpec.post enc Tryd.prog Tryd.f9 false true false false W args v W' := by
  have hW' := hW
  obtain ⟨p, q, hA0, hV, rfl, hfz, hnd⟩ := hW
  have hA : DataW.TrodAll enc Tryd.prog W 0 (fun _ => true) true Tryd.f9.params.toList args.toList ds p := hA0
  rw [Tryd.params9] at hA hval hsz
  obtain ⟨v0, vs0, d0, ds0, p0, q0, hargs, rfl, rfl, h0, r0⟩ := trodAll_cons hA
  obtain ⟨v1, vs1, d1, ds1, p1, q1, rfl, rfl, rfl, h1, r1⟩ := trodAll_cons r0
  obtain ⟨rfl, rfl, rfl⟩ := trodAll_nil r1
  obtain rfl : args = #[v0, v1] := by cases args; simp_all
  obtain ⟨n0, a0, l0, c0, A0, rfl, w0, s0, z0⟩ := open_num2 rfl hsz (j := 0) rfl rfl (hval 0 24 v0 rfl rfl) h0 hk
  obtain ⟨x1, rfl, rfl, rfl, wf1⟩ := open_int Tryd.underlying68 (hval 1 68 v1 rfl rfl) h1
  have w1 := bounds_u64 wf1
  obtain ⟨F, rfl⟩ : ∃ F : Nat, x1 = (F : Int) := ⟨x1.toNat, by omega⟩
  refine (floats_yes W w0 s0 z0 (hid (by omega))).mono fun e W' ⟨he, hb⟩ => ⟨_, he, ?_⟩
  exact law_post floats_params rfl rfl rfl rfl rfl hW' hb

/-- The world of the witness. -/
noncomputable def floatsWorld (os : Os) : World := World.laidAll Tryd.prog os Rows.bigintFloatsUptoRow.laid
noncomputable def floatsArgs : Array Value := #[.agg #[.bool false, .slice none 0 0], .int .u64 0]
set_option maxRecDepth 100000 in
theorem floats_laid (os : Os) : laidMet Tryd.prog Rows.bigintFloatsUptoRow.laid ((floatsWorld os).forCall (fun _ _ => 0) ⟨#[], floatsArgs, []⟩).memory :=
  laidMet_laidAll _ (by kernel_rfl) (by kernel_rfl)
set_option maxRecDepth 100000 in
theorem floats_reads (os : Os) {H : Type} (enc : TypeId × Value → H) : ∃ places, DataW.whole enc Tryd.prog ((floatsWorld os).forCall (fun _ _ => 0) ⟨#[], floatsArgs, []⟩).memory Tryd.f9.params.toList Rows.bigintFloatsSpec.vars false floatsArgs.toList 8 =
    some ([.agg [.lit (.bool false), .nil], .lit (.int .u64 0)], [], places) :=
  ⟨[], by kernel_rfl⟩

set_option maxRecDepth 100000 in
theorem floats_lifted (os : Os) (started : os.Started) (H : Type) (enc : TypeId × Value → H) (F : Stop.Interp) :
    ReturnsInHanded {} Tryd.checked os 9 .any ((Rows.OpenSpec.upto Rows.bigintFloatsSpec).preRow enc Tryd.prog Tryd.f9 Rows.bigintFloatsUptoRow.domain false Rows.bigintFloatsUptoRow.laid) (((Rows.OpenSpec.upto Rows.bigintFloatsSpec).at F).post enc Tryd.prog Tryd.f9 false true false false) := by
  obtain ⟨places, hx⟩ := floats_reads os enc
  refine returnsInHanded_of_row (C := Tryd.checked) (s := Rows.OpenSpec.upto Rows.bigintFloatsSpec) own started (by kernel_rfl) Tryd.func9
    (witness_row_at (enc := enc) (C := Tryd.checked) false (floatsWorld os) floatsArgs (World.laidAll_os _ _ _) (by kernel_rfl) (by kernel_rfl) (by kernel_rfl)
      (OpenSpec.preRow_of_cond 8 hx (by kernel_rfl) (fun k hk => by cases hk; kernel_rfl) (by kernel_rfl) (floats_laid os))) ?_
  intro W base args ds gs before hval hW _ hcond hsz hL _ _
  exact floats_contract H enc W base args ds gs before hval hW hsz (of_decide_eq_true (hcond _ rfl))

set_option maxRecDepth 100000 in
theorem floats_said : Rows.BigintFloatsUptoSaid :=
  OpenClaim.holds_of_cond 9 Tryd.f9 rfl rfl rfl rfl rfl rfl rfl ⟨rfl, rfl, rfl, rfl, rfl⟩ rfl rfl rfl rfl rfl (by kernel_rfl) Tryd.func9 (by kernel_rfl)
    (of_decide_eq_true (by kernel_rfl)) (by unfold Func.isWrapper; first | (rw [if_pos (by decide +kernel)]; kernel_rfl) | (rw [if_neg (by decide +kernel)]; exact ⟨rfl, rfl⟩))
    (fun os started H enc _ F => by rw [OpenClaim.pre_eq_preRow]; exact floats_lifted os started H enc F)

set_option maxRecDepth 100000 in
theorem floats_plain (f : FuncId) (fn : Func) (hf : Tryd.pinned.checked.prog.funcNamed "hornbeam/hornbeamlaw01.BigintFloats" = some f) (hfn : Tryd.pinned.checked.prog.funcs[f]? = some fn) :
    false = Tryd.pinned.checked.prog.looks [] ∧ ∀ (j : Nat) t, fn.params[j]? = some t → Tryd.pinned.checked.prog.wantsStandIn t = false := by
  obtain rfl : f = 9 := Option.some.inj ((show Tryd.prog.funcNamed "hornbeam/hornbeamlaw01.BigintFloats" = some 9 by kernel_rfl).symm.trans hf) |>.symm
  obtain rfl : fn = Tryd.f9 := (Option.some.inj (Tryd.func9.symm.trans hfn)).symm
  refine ⟨by kernel_rfl, fun j t ht => ?_⟩
  rw [Tryd.params9] at ht
  have hm := Array.mem_of_getElem? ht
  simp at hm
  rcases hm with rfl | rfl
  · exact (show Tryd.prog.wantsStandIn 24 = false by kernel_rfl)
  · exact (show Tryd.prog.wantsStandIn 68 = false by kernel_rfl)

set_option maxRecDepth 100000 in
theorem floats_card : Rows.BigintFloatsUptoCardSaid :=
  Claim7.holds_tied_plain_at .later [] _ _ _ _ floats_said (fun _ h => by cases h) (by kernel_rfl) (fun _ h => by cases h) bigintFloatsUpto_row_tie rfl ⟨rfl, rfl⟩ (by kernel_rfl) rfl floats_plain (by kernel_rfl)
end Go.Proofs.YtldafoojkimdeaaDoor
