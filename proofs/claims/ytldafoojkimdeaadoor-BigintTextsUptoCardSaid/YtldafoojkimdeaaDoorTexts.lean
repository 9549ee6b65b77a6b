/- For every input of bulk at most 1048576 (values and letters together; beyond 2^45 limbs the law's own lists of bits would be longer than a slice can be) the law BigintTexts answers true and leaves its arguments alone: no other condition; the package-level tables that its row lists are tied to the program's text by the given tie. -/
import Derived.Test.YtldafoojkimdeaaDoorX6m
import Derived.Test.YtldafoojkimdeaaDoorX5m
import Derived.Test.YtldafoojkimdeaaDoorRefdm
import Derived.Test.YtldafoojkimdeaaDoorW34
import Derived.Test.YtldafoojkimdeaaDoorR12m
namespace Go.Proofs.YtldafoojkimdeaaDoor
open Go.RowKit Lm

theorem parseR (s : ByteArray) (R : Int) (w : World) (hs : s.size ≤ 1048576) : Calls Tryd.prog 58 #[.string s, .int .i64 R] w (ParsedR w s R) := by
  by_cases h : R < 2 ∨ 36 < R
  · exact parseR_radix s R w h
  · obtain ⟨r, rfl⟩ : ∃ r : Nat, R = (r : Int) := ⟨R.toNat, by omega⟩
    exact parseR_in s r w (by omega) (by omega) hs
theorem text_cases (va R : Int) : ∃ (uS : ByteArray) (cq : Int), Hid (4096 < bl va.natAbs → uS = ⟨#[]⟩ ∧ cq = 10) ∧ Hid (¬ 4096 < bl va.natAbs → (R < 2 ∨ 36 < R) → uS = ⟨#[]⟩ ∧ cq = 13) ∧ Hid (¬ 4096 < bl va.natAbs → ¬ (R < 2 ∨ 36 < R) → uS = tx R.toNat va ∧ cq = 0) := by
  by_cases h : 4096 < bl va.natAbs
  · exact ⟨⟨#[]⟩, 10, hid (fun _ => ⟨rfl, rfl⟩), hid (fun h2 => absurd h h2), hid (fun h2 => absurd h h2)⟩
  · by_cases h2 : R < 2 ∨ 36 < R
    · exact ⟨⟨#[]⟩, 13, hid (fun h3 => absurd h3 h), hid (fun _ _ => ⟨rfl, rfl⟩), hid (fun _ h3 => absurd h2 h3)⟩
    · exact ⟨_, 0, hid (fun h3 => absurd h3 h), hid (fun _ h3 => absurd h3 h2), hid (fun _ _ => ⟨rfl, rfl⟩)⟩
theorem textE {na : Bool} {aa : Option Addr} {la ca : Nat} {A : List Nat} {va R : Int} {w : World} (hA : Rd w aa la ca A) (ea : num na A = va) {uS : ByteArray} {cq : Int} (h1 : Hid (4096 < bl va.natAbs → uS = ⟨#[]⟩ ∧ cq = 10)) (h2 : Hid (¬ 4096 < bl va.natAbs → (R < 2 ∨ 36 < R) → uS = ⟨#[]⟩ ∧ cq = 13)) (h3 : Hid (¬ 4096 < bl va.natAbs → ¬ (R < 2 ∨ 36 < R) → uS = tx R.toNat va ∧ cq = 0)) :
    Calls Tryd.prog 59 #[.agg #[.bool na, .slice aa la ca], .int .i64 R] w fun e w' => e = .returned (.tuple #[.string uS, .int .i64 cq]) ∧ Below w.heap.size w w' := by
  have htl : tooLong A = decide (4096 < bl va.natAbs) := by subst ea; unfold tooLong; rw [num_abs]
  by_cases h : 4096 < bl va.natAbs
  · obtain ⟨rfl, rfl⟩ := h1.out h
    exact text_long na aa la ca A R w hA (by rw [htl]; exact decide_eq_true h)
  · have hf : tooLong A = false := by rw [htl]; exact decide_eq_false h
    by_cases hR : R < 2 ∨ 36 < R
    · obtain ⟨rfl, rfl⟩ := h2.out h hR
      exact text_radix na aa la ca A R w hA hf hR
    · obtain ⟨hu, rfl⟩ := h3.out h hR
      obtain ⟨r, rfl⟩ : ∃ r : Nat, R = (r : Int) := ⟨R.toNat, by omega⟩
      rw [Int.toNat_natCast] at hu
      subst hu
      have := text_good na aa la ca A r w hA (by omega) (by omega) hf
      rw [tx_num, ea] at this
      exact this

noncomputable def tail8 (n : Nat) : Code := seqDrop n (Tryd.f8.body.getD .skip)
noncomputable def head8 (n : Nat) : Code := seqHead (tail8 n)
noncomputable def Q8 (w : World) : Exit → Act → World → Prop := bodyPost Tryd.prog Tryd.f8 fun e w' => e = .returned (.bool true) ∧ Below w.heap.size w w'


set_option maxRecDepth 100000 in
set_option maxHeartbeats 8000000 in
theorem TX_9 {w wk wr : World} {uS : ByteArray} {R : Int} {nx : Bool} {xo : Option Addr} {va : Int} {cq : Int} {xl : Nat} {xc : Nat} {g13 : Nat} {u0 u1 u3 u4 u5 u6 u8 u9 u10 u11 u14 u18 u19 u20 u21 u22 u23 u24 u25 u26 u27 u28 u29 u30 u31 u32 u33 u34 u35 u36 u37 u38 u39 u40 u41 u42 u43 u44 u45 u46 u47 u48 u49 u50 u51 u52 u53 u54 u55 u56 u57 u58 u59 u60 u61 u62 u63 u64 u65 u66 u67 u68 u69 u70 u71 u72 u73 u74 u75 u76 u77 u78 u79 u80 u81 u82 u83 u84 u85 u86 u87 u88 u89 u90 u91 u92 u93 u94 u95 u96 u97 u98 u99 u100 u101 u102 u103 u104 u105 u106 : Value}
    (hxl : xl ≤ 33554432)
    (hq1 : Hid (4096 < bl va.natAbs → uS = ⟨#[]⟩ ∧ cq = 10))
    (hq2 : Hid (¬ 4096 < bl va.natAbs → (R < 2 ∨ 36 < R) → uS = ⟨#[]⟩ ∧ cq = 13))
    (hq3 : Hid (¬ 4096 < bl va.natAbs → ¬ (R < 2 ∨ 36 < R) → uS = tx R.toNat va ∧ cq = 0))
    (hbk : Below w.heap.size w wk)
    (px : Pr wk g13 28 (.bool nx) (.slice xo xl xc))
    (bx : Big wk nx xo xl xc va)
    (hk : Below wk.heap.size wk wr) :
    Code.wp Tryd.prog (tail8 9) (Q8 w) ⟨#[u0, u1, .int .i64 R, u3, u4, u5, u6, .bool true, u8, u9, u10, u11, .bool true, .pointer (some ⟨g13, 0, none⟩), u14, .string uS, .int .i64 cq, .bool true, u18, u19, u20, u21, u22, u23, u24, u25, u26, u27, u28, u29, u30, u31, u32, u33, u34, u35, u36, u37, u38, u39, u40, u41, u42, u43, u44, u45, u46, u47, u48, u49, u50, u51, u52, u53, u54, u55, u56, u57, u58, u59, u60, u61, u62, u63, u64, u65, u66, u67, u68, u69, u70, u71, u72, u73, u74, u75, u76, u77, u78, u79, u80, u81, u82, u83, u84, u85, u86, u87, u88, u89, u90, u91, u92, u93, u94, u95, u96, u97, u98, u99, u100, u101, u102, u103, u104, u105, u106], []⟩ wr := by
  obtain ⟨x0, x1, _, _⟩ := two_cells (px.keep hk)
  have hlen := hid bx.len
  have PX := hid px
  conv => arg 2; whnf
  unfold Q8
  by_cases hl : 4096 < xl
  · obtain ⟨rfl, rfl⟩ := hq1.out (by rw [← hlen.out]; exact hl)
    have hd : decide (4096 < xl) = true := decide_eq_true hl
    clear hl
    go_wp2_with (go_at_call 45; refine (longR1 nx xo xl xc _).mono ?_; rintro e_ w2 ⟨rfl, hb2⟩; rw [hd]; have hk2 := hk.trans (hb2.mono hk.size))
    go_ret
    exact ⟨rfl, hbk.trans (hk2.mono hbk.size)⟩
  · have hl2 : ¬ 4096 < bl va.natAbs := by rw [← hlen.out]; exact hl
    have hd : decide (4096 < xl) = false := decide_eq_false hl
    have hx4 : xl ≤ 4096 := by omega
    by_cases hR : R < 2 ∨ 36 < R
    · obtain ⟨rfl, rfl⟩ := hq2.out hl2 hR
      clear hl hl2
      rcases hR with hR | hR
      all_goals
        (try have hR2 : ¬ R < 2 := by omega)
        go_wp2_with (go_at_call 45; refine (longR1 nx xo xl xc _).mono ?_; rintro e_ w2 ⟨rfl, hb2⟩; rw [hd]; have hk2 := hk.trans (hb2.mono hk.size))
        go_ret
        exact ⟨rfl, hbk.trans (hk2.mono hbk.size)⟩
    · obtain ⟨hu, rfl⟩ := hq3.out hl2 hR
      obtain ⟨r, rfl⟩ : ∃ r : Nat, R = (r : Int) := ⟨R.toNat, by omega⟩
      rw [Int.toNat_natCast] at hu
      subst hu
      have h2 : 2 ≤ r := by omega
      have h36 : r ≤ 36 := by omega
      have n1 : ¬ (r : Int) < 2 := by omega
      have n2 : ¬ 36 < (r : Int) := by omega
      clear hl hl2 hR
      go_wp2_with (first
        | (go_at_call 45; refine (longR1 nx xo xl xc _).mono ?_; rintro e_ w2 ⟨rfl, hb2⟩; rw [hd]; have hk2 := hk.trans (hb2.mono hk.size); obtain ⟨y0, y1, _, _⟩ := two_cells (PX.out.keep hk2))
        | (go_at_call 60; refine (textR nx xo xl xc va r _ (bx.keep hk2) hx4 h2 h36).mono ?_; rintro e_ w3 ⟨rfl, hb3⟩; have hk3 := hk2.trans (hb3.mono hk2.size)))
      go_ret
      exact ⟨by simp, hbk.trans (hk3.mono hbk.size)⟩

set_option maxRecDepth 100000 in
set_option maxHeartbeats 8000000 in
theorem TX_8 {w wk wr : World} {uS : ByteArray} {R : Int} {na : Bool} {nx : Bool} {aa : Option Addr} {xo : Option Addr} {A : List Nat} {va : Int} {cq : Int} {la : Nat} {ca : Nat} {xl : Nat} {xc : Nat} {g4 : Nat} {g13 : Nat} {g14 : Nat} {gt : Nat} {ct : Nat} {u0 u1 u3 u5 u6 u8 u9 u10 u11 u17 u18 u19 u20 u21 u22 u23 u24 u25 u26 u27 u28 u29 u30 u31 u32 u33 u34 u35 u36 u37 u38 u39 u40 u41 u42 u43 u44 u45 u46 u47 u48 u49 u50 u51 u52 u53 u54 u55 u56 u57 u58 u59 u60 u61 u62 u63 u64 u65 u66 u67 u68 u69 u70 u71 u72 u73 u74 u75 u76 u77 u78 u79 u80 u81 u82 u83 u84 u85 u86 u87 u88 u89 u90 u91 u92 u93 u94 u95 u96 u97 u98 u99 u100 u101 u102 u103 u104 u105 u106 : Value}
    (rA : Rd w aa la ca A)
    (zA : Hid (aa = none → ca = 0))
    (sA : la ≤ 1048576)
    (hva : Hid (num na A = va))
    (hxl : xl ≤ 33554432)
    (hq1 : Hid (4096 < bl va.natAbs → uS = ⟨#[]⟩ ∧ cq = 10))
    (hq2 : Hid (¬ 4096 < bl va.natAbs → (R < 2 ∨ 36 < R) → uS = ⟨#[]⟩ ∧ cq = 13))
    (hq3 : Hid (¬ 4096 < bl va.natAbs → ¬ (R < 2 ∨ 36 < R) → uS = tx R.toNat va ∧ cq = 0))
    (hbk : Below w.heap.size w wk)
    (pa : Pr wk g4 24 (.bool na) (.slice aa la ca))
    (px : Pr wk g13 28 (.bool nx) (.slice xo xl xc))
    (bx : Big wk nx xo xl xc va)
    (hk : Below wk.heap.size wk wr)
    (pt : Pr wr g14 24 (.bool na) (.slice (some ⟨gt, 0, none⟩) la ct))
    (lt_ : Lent wk.heap.size wr gt la ct A) :
    Code.wp Tryd.prog (tail8 8) (Q8 w) ⟨#[u0, u1, .int .i64 R, u3, .pointer (some ⟨g4, 0, none⟩), u5, u6, .bool true, u8, u9, u10, u11, .bool true, .pointer (some ⟨g13, 0, none⟩), .pointer (some ⟨g14, 0, none⟩), .string uS, .int .i64 cq, u17, u18, u19, u20, u21, u22, u23, u24, u25, u26, u27, u28, u29, u30, u31, u32, u33, u34, u35, u36, u37, u38, u39, u40, u41, u42, u43, u44, u45, u46, u47, u48, u49, u50, u51, u52, u53, u54, u55, u56, u57, u58, u59, u60, u61, u62, u63, u64, u65, u66, u67, u68, u69, u70, u71, u72, u73, u74, u75, u76, u77, u78, u79, u80, u81, u82, u83, u84, u85, u86, u87, u88, u89, u90, u91, u92, u93, u94, u95, u96, u97, u98, u99, u100, u101, u102, u103, u104, u105, u106], []⟩ wr := by
  have pa' := pa.keep hk
  obtain ⟨a0, a1, _, _⟩ := two_cells pa'
  obtain ⟨t0, t1, _, _⟩ := two_cells pt
  show Code.wp Tryd.prog (Code.seq (head8 8) (tail8 9)) _ _ _
  conv => arg 2; arg 1; whnf
  go_wp2_with fail
  refine (heldR na gt ct aa la ca A wk _ (rA.keep hbk) hk lt_ (by omega)).mono ?_
  rintro e_ w6 ⟨rfl, hb6, hst⟩
  go_wp2
  exact TX_9 (hxl) (hq1) (hq2) (hq3) (hbk) (px) (bx) (hb6)

set_option maxRecDepth 100000 in
set_option maxHeartbeats 8000000 in
theorem TX_7 {w wk wr : World} {R : Int} {na : Bool} {nx : Bool} {aa : Option Addr} {xo : Option Addr} {A : List Nat} {va : Int} {la : Nat} {ca : Nat} {xl : Nat} {xc : Nat} {g4 : Nat} {g13 : Nat} {g14 : Nat} {gt : Nat} {ct : Nat} {u0 u1 u3 u5 u6 u8 u9 u10 u11 u15 u16 u17 u18 u19 u20 u21 u22 u23 u24 u25 u26 u27 u28 u29 u30 u31 u32 u33 u34 u35 u36 u37 u38 u39 u40 u41 u42 u43 u44 u45 u46 u47 u48 u49 u50 u51 u52 u53 u54 u55 u56 u57 u58 u59 u60 u61 u62 u63 u64 u65 u66 u67 u68 u69 u70 u71 u72 u73 u74 u75 u76 u77 u78 u79 u80 u81 u82 u83 u84 u85 u86 u87 u88 u89 u90 u91 u92 u93 u94 u95 u96 u97 u98 u99 u100 u101 u102 u103 u104 u105 u106 : Value}
    (rA : Rd w aa la ca A)
    (zA : Hid (aa = none → ca = 0))
    (sA : la ≤ 1048576)
    (hva : Hid (num na A = va))
    (hxl : xl ≤ 33554432)
    (hbk : Below w.heap.size w wk)
    (pa : Pr wk g4 24 (.bool na) (.slice aa la ca))
    (px : Pr wk g13 28 (.bool nx) (.slice xo xl xc))
    (bx : Big wk nx xo xl xc va)
    (hk : Below wk.heap.size wk wr)
    (pt : Pr wr g14 24 (.bool na) (.slice (some ⟨gt, 0, none⟩) la ct))
    (lt_ : Lent wk.heap.size wr gt la ct A) :
    Code.wp Tryd.prog (tail8 7) (Q8 w) ⟨#[u0, u1, .int .i64 R, u3, .pointer (some ⟨g4, 0, none⟩), u5, u6, .bool true, u8, u9, u10, u11, .bool true, .pointer (some ⟨g13, 0, none⟩), .pointer (some ⟨g14, 0, none⟩), u15, u16, u17, u18, u19, u20, u21, u22, u23, u24, u25, u26, u27, u28, u29, u30, u31, u32, u33, u34, u35, u36, u37, u38, u39, u40, u41, u42, u43, u44, u45, u46, u47, u48, u49, u50, u51, u52, u53, u54, u55, u56, u57, u58, u59, u60, u61, u62, u63, u64, u65, u66, u67, u68, u69, u70, u71, u72, u73, u74, u75, u76, u77, u78, u79, u80, u81, u82, u83, u84, u85, u86, u87, u88, u89, u90, u91, u92, u93, u94, u95, u96, u97, u98, u99, u100, u101, u102, u103, u104, u105, u106], []⟩ wr := by
  obtain ⟨kpt0, kpt1, _, _⟩ := two_cells pt
  obtain ⟨uS, cq, hq1, hq2, hq3⟩ := text_cases va R
  show Code.wp Tryd.prog (Code.seq (head8 7) (tail8 8)) _ _ _
  conv => arg 2; arg 1; whnf
  go_wp2_with fail
  refine (textE (lt_.rd rA.ok (by omega)) hva.out hq1 hq2 hq3).mono ?_
  rintro e_ w2 ⟨rfl, hb2⟩
  go_wp2
  exact TX_8 (rA) (zA) (sA) (hva) (hxl) (hq1) (hq2) (hq3) (hbk) (pa) (px) (bx) (hk.trans (hb2.mono hk.size)) (pt.keep hb2) (lt_.keep hb2)

set_option maxRecDepth 100000 in
set_option maxHeartbeats 8000000 in
theorem TX_6 {w wr : World} {R : Int} {na : Bool} {nx : Bool} {aa : Option Addr} {xo : Option Addr} {A : List Nat} {va : Int} {la : Nat} {ca : Nat} {xl : Nat} {xc : Nat} {g4 : Nat} {g13 : Nat} {u0 u1 u3 u5 u6 u8 u9 u10 u11 u14 u15 u16 u17 u18 u19 u20 u21 u22 u23 u24 u25 u26 u27 u28 u29 u30 u31 u32 u33 u34 u35 u36 u37 u38 u39 u40 u41 u42 u43 u44 u45 u46 u47 u48 u49 u50 u51 u52 u53 u54 u55 u56 u57 u58 u59 u60 u61 u62 u63 u64 u65 u66 u67 u68 u69 u70 u71 u72 u73 u74 u75 u76 u77 u78 u79 u80 u81 u82 u83 u84 u85 u86 u87 u88 u89 u90 u91 u92 u93 u94 u95 u96 u97 u98 u99 u100 u101 u102 u103 u104 u105 u106 : Value}
    (rA : Rd w aa la ca A)
    (zA : Hid (aa = none → ca = 0))
    (sA : la ≤ 1048576)
    (hva : Hid (num na A = va))
    (hxl : xl ≤ 33554432)
    (hb : Below w.heap.size w wr)
    (pa : Pr wr g4 24 (.bool na) (.slice aa la ca))
    (px : Pr wr g13 28 (.bool nx) (.slice xo xl xc))
    (bx : Big wr nx xo xl xc va) :
    Code.wp Tryd.prog (tail8 6) (Q8 w) ⟨#[u0, u1, .int .i64 R, u3, .pointer (some ⟨g4, 0, none⟩), u5, u6, .bool true, u8, u9, u10, u11, .bool true, .pointer (some ⟨g13, 0, none⟩), u14, u15, u16, u17, u18, u19, u20, u21, u22, u23, u24, u25, u26, u27, u28, u29, u30, u31, u32, u33, u34, u35, u36, u37, u38, u39, u40, u41, u42, u43, u44, u45, u46, u47, u48, u49, u50, u51, u52, u53, u54, u55, u56, u57, u58, u59, u60, u61, u62, u63, u64, u65, u66, u67, u68, u69, u70, u71, u72, u73, u74, u75, u76, u77, u78, u79, u80, u81, u82, u83, u84, u85, u86, u87, u88, u89, u90, u91, u92, u93, u94, u95, u96, u97, u98, u99, u100, u101, u102, u103, u104, u105, u106], []⟩ wr := by
  obtain ⟨kpa0, kpa1, _, _⟩ := two_cells pa
  show Code.wp Tryd.prog (Code.seq (head8 6) (tail8 7)) _ _ _
  conv => arg 2; arg 1; whnf
  go_wp2_with fail
  refine (lentR na aa la ca A _ (rA.keep hb) zA.out (by omega)).mono ?_
  rintro e_ w2 ⟨gt, ct, rfl, lu, hb2⟩
  go_wp2
  exact TX_7 (rA) (zA) (sA) (hva) (hxl) (hb) (pa) (px) (bx) (hb2.alloc hb2.size _) (Pr.new _ _ _ _) (lu.alloc _)

set_option maxRecDepth 100000 in
set_option maxHeartbeats 8000000 in
theorem TX_5 {w wr : World} {R : Int} {na : Bool} {aa : Option Addr} {A : List Nat} {va : Int} {la : Nat} {ca : Nat} {g4 : Nat} {u0 u1 u3 u5 u6 u8 u9 u10 u11 u13 u14 u15 u16 u17 u18 u19 u20 u21 u22 u23 u24 u25 u26 u27 u28 u29 u30 u31 u32 u33 u34 u35 u36 u37 u38 u39 u40 u41 u42 u43 u44 u45 u46 u47 u48 u49 u50 u51 u52 u53 u54 u55 u56 u57 u58 u59 u60 u61 u62 u63 u64 u65 u66 u67 u68 u69 u70 u71 u72 u73 u74 u75 u76 u77 u78 u79 u80 u81 u82 u83 u84 u85 u86 u87 u88 u89 u90 u91 u92 u93 u94 u95 u96 u97 u98 u99 u100 u101 u102 u103 u104 u105 u106 : Value}
    (rA : Rd w aa la ca A)
    (zA : Hid (aa = none → ca = 0))
    (sA : la ≤ 1048576)
    (hva : Hid (num na A = va))
    (hb : Below w.heap.size w wr)
    (pa : Pr wr g4 24 (.bool na) (.slice aa la ca)) :
    Code.wp Tryd.prog (tail8 5) (Q8 w) ⟨#[u0, u1, .int .i64 R, u3, .pointer (some ⟨g4, 0, none⟩), u5, u6, .bool true, u8, u9, u10, u11, .bool true, u13, u14, u15, u16, u17, u18, u19, u20, u21, u22, u23, u24, u25, u26, u27, u28, u29, u30, u31, u32, u33, u34, u35, u36, u37, u38, u39, u40, u41, u42, u43, u44, u45, u46, u47, u48, u49, u50, u51, u52, u53, u54, u55, u56, u57, u58, u59, u60, u61, u62, u63, u64, u65, u66, u67, u68, u69, u70, u71, u72, u73, u74, u75, u76, u77, u78, u79, u80, u81, u82, u83, u84, u85, u86, u87, u88, u89, u90, u91, u92, u93, u94, u95, u96, u97, u98, u99, u100, u101, u102, u103, u104, u105, u106], []⟩ wr := by
  obtain ⟨kpa0, kpa1, _, _⟩ := two_cells pa
  show Code.wp Tryd.prog (Code.seq (head8 5) (tail8 6)) _ _ _
  conv => arg 2; arg 1; whnf
  go_wp2_with fail
  refine (ofR na aa la ca A _ (rA.keep hb) (by omega)).mono ?_
  rintro e w2 ⟨nx, xo, xl, xc, rfl, hl, bnew, hb2⟩
  go_wp2
  have hb3 := hb.trans (hb2.mono hb.size)
  exact TX_6 (rA) (zA) (sA) (hva) (by omega) (hb3.alloc hb3.size _) ((pa.keep hb2).alloc _) (Pr.new _ _ _ _) ((bnew.cast hva.out).alloc _)

set_option maxRecDepth 100000 in
set_option maxHeartbeats 8000000 in
theorem TX_4 {w wk wr : World} {s : ByteArray} {R : Int} {na : Bool} {nw : Bool} {n8 : Bool} {aa : Option Addr} {ow : Option Addr} {o8 : Option Addr} {A : List Nat} {va : Int} {vw : Int} {c8 : Int} {la : Nat} {ca : Nat} {g4 : Nat} {g8 : Nat} {g10 : Nat} {l8 : Nat} {lw : Nat} {cw : Nat} {u1 u3 u5 u6 u12 u13 u14 u15 u16 u17 u18 u19 u20 u21 u22 u23 u24 u25 u26 u27 u28 u29 u30 u31 u32 u33 u34 u35 u36 u37 u38 u39 u40 u41 u42 u43 u44 u45 u46 u47 u48 u49 u50 u51 u52 u53 u54 u55 u56 u57 u58 u59 u60 u61 u62 u63 u64 u65 u66 u67 u68 u69 u70 u71 u72 u73 u74 u75 u76 u77 u78 u79 u80 u81 u82 u83 u84 u85 u86 u87 u88 u89 u90 u91 u92 u93 u94 u95 u96 u97 u98 u99 u100 u101 u102 u103 u104 u105 u106 : Value}
    (rA : Rd w aa la ca A)
    (zA : Hid (aa = none → ca = 0))
    (sA : la ≤ 1048576)
    (hva : Hid (num na A = va))
    (hs : s.size ≤ 1048576)
    (hvw : Hid (pbad s R = 0 → vw = pval s R))
    (hbk : Below w.heap.size w wk)
    (pa : Pr wk g4 24 (.bool na) (.slice aa la ca))
    (hk : Below wk.heap.size wk wr)
    (d8 : Aw wk.heap.size wr g8 n8 o8 l8 c8 (pbad s R) (pval s R))
    (pw : Pr wr g10 28 (.bool nw) (.slice ow lw cw))
    (bw : Big wr nw ow lw cw vw) :
    Code.wp Tryd.prog (tail8 4) (Q8 w) ⟨#[.string s, u1, .int .i64 R, u3, .pointer (some ⟨g4, 0, none⟩), u5, u6, .bool true, .pointer (some ⟨g8, 0, none⟩), .int .i64 c8, .pointer (some ⟨g10, 0, none⟩), .int .i64 (pbad s R), u12, u13, u14, u15, u16, u17, u18, u19, u20, u21, u22, u23, u24, u25, u26, u27, u28, u29, u30, u31, u32, u33, u34, u35, u36, u37, u38, u39, u40, u41, u42, u43, u44, u45, u46, u47, u48, u49, u50, u51, u52, u53, u54, u55, u56, u57, u58, u59, u60, u61, u62, u63, u64, u65, u66, u67, u68, u69, u70, u71, u72, u73, u74, u75, u76, u77, u78, u79, u80, u81, u82, u83, u84, u85, u86, u87, u88, u89, u90, u91, u92, u93, u94, u95, u96, u97, u98, u99, u100, u101, u102, u103, u104, u105, u106], []⟩ wr := by
  obtain ⟨kc0, kc1, _, _⟩ := two_cells d8.box
  obtain ⟨kv0, kv1, _, _⟩ := two_cells pw
  show Code.wp Tryd.prog (Code.seq (head8 4) (tail8 5)) _ _ _
  conv => arg 2; arg 1; whnf
  go_wp2_with (go_at_call 38; (with_reducible refine (isA hk d8.ans bw (fun h => hvw.out h)).mono ?_); rintro r w5 ⟨rfl, hbW, hst, hsz⟩)
  exact TX_5 (rA) (zA) (sA) (hva) (hbk.trans (hbW.mono hbk.size)) (pa.keep hbW)

set_option maxRecDepth 100000 in
set_option maxHeartbeats 8000000 in
theorem TX_3 {w wk wr : World} {s : ByteArray} {R : Int} {na : Bool} {n8 : Bool} {aa : Option Addr} {o8 : Option Addr} {A : List Nat} {va : Int} {c8 : Int} {la : Nat} {ca : Nat} {g4 : Nat} {g8 : Nat} {l8 : Nat} {u1 u3 u5 u6 u10 u11 u12 u13 u14 u15 u16 u17 u18 u19 u20 u21 u22 u23 u24 u25 u26 u27 u28 u29 u30 u31 u32 u33 u34 u35 u36 u37 u38 u39 u40 u41 u42 u43 u44 u45 u46 u47 u48 u49 u50 u51 u52 u53 u54 u55 u56 u57 u58 u59 u60 u61 u62 u63 u64 u65 u66 u67 u68 u69 u70 u71 u72 u73 u74 u75 u76 u77 u78 u79 u80 u81 u82 u83 u84 u85 u86 u87 u88 u89 u90 u91 u92 u93 u94 u95 u96 u97 u98 u99 u100 u101 u102 u103 u104 u105 u106 : Value}
    (rA : Rd w aa la ca A)
    (zA : Hid (aa = none → ca = 0))
    (sA : la ≤ 1048576)
    (hva : Hid (num na A = va))
    (hs : s.size ≤ 1048576)
    (hbk : Below w.heap.size w wk)
    (pa : Pr wk g4 24 (.bool na) (.slice aa la ca))
    (hk : Below wk.heap.size wk wr)
    (d8 : Aw wk.heap.size wr g8 n8 o8 l8 c8 (pbad s R) (pval s R)) :
    Code.wp Tryd.prog (tail8 3) (Q8 w) ⟨#[.string s, u1, .int .i64 R, u3, .pointer (some ⟨g4, 0, none⟩), u5, u6, .bool true, .pointer (some ⟨g8, 0, none⟩), .int .i64 c8, u10, u11, u12, u13, u14, u15, u16, u17, u18, u19, u20, u21, u22, u23, u24, u25, u26, u27, u28, u29, u30, u31, u32, u33, u34, u35, u36, u37, u38, u39, u40, u41, u42, u43, u44, u45, u46, u47, u48, u49, u50, u51, u52, u53, u54, u55, u56, u57, u58, u59, u60, u61, u62, u63, u64, u65, u66, u67, u68, u69, u70, u71, u72, u73, u74, u75, u76, u77, u78, u79, u80, u81, u82, u83, u84, u85, u86, u87, u88, u89, u90, u91, u92, u93, u94, u95, u96, u97, u98, u99, u100, u101, u102, u103, u104, u105, u106], []⟩ wr := by
  show Code.wp Tryd.prog (Code.seq (head8 3) (tail8 4)) _ _ _
  conv => arg 2; arg 1; whnf
  go_wp2_with fail
  refine (parseR s R _ hs).mono ?_
  rintro e_ w2 ⟨nw, ow, lw, cw, vw, rfl, hbig, hv, hb2⟩
  have hvw := hid hv
  clear hv
  have hkk := hk.trans (hb2.mono hk.size)
  go_wp2
  exact TX_4 (rA) (zA) (sA) (hva) (hs) (hvw) (hbk) (pa) (hkk.alloc hkk.size _) ((d8.keep hb2).alloc _) (Pr.new _ _ _ _) (hbig.alloc _)

set_option maxRecDepth 100000 in
set_option maxHeartbeats 8000000 in
theorem TX_2 {w wk wr : World} {s : ByteArray} {R : Int} {na : Bool} {aa : Option Addr} {A : List Nat} {va : Int} {la : Nat} {ca : Nat} {g4 : Nat} {u1 u3 u5 u6 u8 u9 u10 u11 u12 u13 u14 u15 u16 u17 u18 u19 u20 u21 u22 u23 u24 u25 u26 u27 u28 u29 u30 u31 u32 u33 u34 u35 u36 u37 u38 u39 u40 u41 u42 u43 u44 u45 u46 u47 u48 u49 u50 u51 u52 u53 u54 u55 u56 u57 u58 u59 u60 u61 u62 u63 u64 u65 u66 u67 u68 u69 u70 u71 u72 u73 u74 u75 u76 u77 u78 u79 u80 u81 u82 u83 u84 u85 u86 u87 u88 u89 u90 u91 u92 u93 u94 u95 u96 u97 u98 u99 u100 u101 u102 u103 u104 u105 u106 : Value}
    (rA : Rd w aa la ca A)
    (zA : Hid (aa = none → ca = 0))
    (sA : la ≤ 1048576)
    (hva : Hid (num na A = va))
    (hs : s.size ≤ 1048576)
    (hbk : Below w.heap.size w wk)
    (pa : Pr wk g4 24 (.bool na) (.slice aa la ca))
    (hk : Below wk.heap.size wk wr) :
    Code.wp Tryd.prog (tail8 2) (Q8 w) ⟨#[.string s, u1, .int .i64 R, u3, .pointer (some ⟨g4, 0, none⟩), u5, u6, .bool true, u8, u9, u10, u11, u12, u13, u14, u15, u16, u17, u18, u19, u20, u21, u22, u23, u24, u25, u26, u27, u28, u29, u30, u31, u32, u33, u34, u35, u36, u37, u38, u39, u40, u41, u42, u43, u44, u45, u46, u47, u48, u49, u50, u51, u52, u53, u54, u55, u56, u57, u58, u59, u60, u61, u62, u63, u64, u65, u66, u67, u68, u69, u70, u71, u72, u73, u74, u75, u76, u77, u78, u79, u80, u81, u82, u83, u84, u85, u86, u87, u88, u89, u90, u91, u92, u93, u94, u95, u96, u97, u98, u99, u100, u101, u102, u103, u104, u105, u106], []⟩ wr := by
  show Code.wp Tryd.prog (Code.seq (head8 2) (tail8 3)) _ _ _
  conv => arg 2; arg 1; whnf
  go_wp2_with fail
  refine (parseE s R _ hs hk.size).mono ?_
  rintro e_ w2 ⟨n1, o1, l1, c1, rfl, hA1, hb2⟩
  have hkk := hk.trans (hb2.mono hk.size)
  go_wp2
  exact TX_3 (rA) (zA) (sA) (hva) (hs) (hbk) (pa) (hkk.alloc hkk.size _) (Aw.new hA1.1)

set_option maxRecDepth 100000 in
set_option maxHeartbeats 2000000 in
theorem texts_yes {s : ByteArray} {na : Bool} {aa : Option Addr} {la ca : Nat} {A : List Nat} {R : Int} (w : World) (hs : s.size ≤ 1048576) (hA : Rd w aa la ca A) (sA : la ≤ 1048576) (zA : aa = none → ca = 0) :
    Calls Tryd.prog 8 #[.string s, .agg #[.bool na, .slice aa la ca], .int .i64 R] w fun e w' => e = .returned (.bool true) ∧ Below w.heap.size w w' := by
  have X0 := Pr.new w 24 (.bool na) (.slice aa la ca)
  have hb := (Below.refl w.heap.size w).alloc (Nat.le_refl _) (.cells #[.bool na, .slice aa la ca] 24)
  have z1 := hid zA
  clear zA
  go_enter Tryd.func8, Tryd.ntmps8
  change Code.wp Tryd.prog (Code.seq (head8 0) (tail8 1)) (Q8 w) _ _
  conv => arg 2; arg 1; whnf
  go_wp2
  show Code.wp Tryd.prog (Code.seq (head8 1) (tail8 2)) _ _ _
  conv => arg 2; arg 1; whnf
  go_wp2_with fail
  refine (awake_yes _).mono ?_
  rintro e w2 ⟨rfl, hb2⟩
  go_wp2
  exact TX_2 hA z1 sA (hid rfl) hs (hb.trans (hb2.mono hb.size)) (X0.keep hb2) (Below.refl _ _)

end Go.Proofs.YtldafoojkimdeaaDoor

namespace Go.Proofs.YtldafoojkimdeaaDoor
open Go.ChangeShapes Go.WideShapes Go.ChangeAt Go.RowKit Go.Joins Lm

theorem reads9 : Tryd.prog.readableRec 9 = true ∧ 9 < Tryd.prog.types.size := ⟨by kernel_rfl, of_decide_eq_true (by kernel_rfl)⟩
theorem texts_params : ∀ t ∈ Tryd.f8.params.toList, Tryd.prog.readableRec t = true ∧ t < Tryd.prog.types.size := by
  intro t ht
  rw [Tryd.params8] at ht
  simp at ht
  rcases ht with rfl | rfl | rfl
  · exact reads9
  · exact reads24
  · exact reads3

set_option maxRecDepth 100000 in
theorem texts_contract (H : Type) (enc : TypeId × Value → H) (W : World) (base : Nat) (args : Array Value) (ds gs : List (DataW H)) (before : List MemPlace)
    (hval : ∀ (j : Nat) t v, Tryd.f8.params[j]? = some t → args[j]? = some v → Value.okWide Tryd.prog W .any base t v)
    (hW : DataW.Whole enc Tryd.prog Tryd.f8.params.toList Rows.bigintTextsSpec.vars false W args.toList ds gs before)
    (hsz : (DataW.weightsEach Tryd.prog (Tryd.f8.params.toList ++ (OpenSpec.ofChange Rows.bigintTextsSpec).bare.plain.varTypes Tryd.prog) (ds ++ gs)).all (· ≤ reachBytes) = true) (hk : Rows.uptoBulkAll (ds ++ gs) ≤ 1048576) :
    Calls Tryd.prog 8 args W fun e W' => ∃ v, e = .returned v ∧ Rows.bigintTextsSpec.post enc Tryd.prog Tryd.f8 false true false false W args v W' := by
  have hW' := hW
  obtain ⟨p, q, hA0, hV, rfl, hfz, hnd⟩ := hW
  have hA : DataW.TrodAll enc Tryd.prog W 0 (fun _ => true) true Tryd.f8.params.toList args.toList ds p := hA0
  rw [Tryd.params8] at hA hval hsz
  obtain ⟨v0, vs0, d0, ds0, p0, q0, hargs, rfl, rfl, h0, r0⟩ := trodAll_cons hA
  obtain ⟨v1, vs1, d1, ds1, p1, q1, rfl, rfl, rfl, h1, r1⟩ := trodAll_cons r0
  obtain ⟨v2, vs2, d2, ds2, p2, q2, rfl, rfl, rfl, h2, r2⟩ := trodAll_cons r1
  obtain ⟨rfl, rfl, rfl⟩ := trodAll_nil r2
  obtain rfl : args = #[v0, v1, v2] := by cases args; simp_all
  obtain ⟨s0, rfl, rfl, rfl, ws0⟩ := Go.ChangeMaps.open_string Tryd.underlying9 (hval 0 9 v0 rfl rfl) h0
  have hb0 := Nat.le_trans (bulk_mem (d := (.lit (.string s0.data.toList) : DataW H)) (by simp)) hk
  have hs0 : s0.size ≤ 1048576 := by
    have h1 : s0.data.toList.length = s0.size := by simp
    simp only [Rows.uptoBulk] at hb0
    omega
  obtain ⟨n1, a1, l1, c1, A1, rfl, w1, s1, z1⟩ := open_num2 rfl hsz (j := 1) rfl rfl (hval 1 24 v1 rfl rfl) h1 hk
  obtain ⟨x2, rfl, rfl, rfl, wf2⟩ := open_int Tryd.underlying3 (hval 2 3 v2 rfl rfl) h2
  have w2 := bounds_i64 wf2
  refine (texts_yes W hs0 w1 s1 z1).mono fun e W' ⟨he, hb⟩ => ⟨_, he, ?_⟩
  exact law_post texts_params rfl rfl rfl rfl rfl hW' hb

/-- The world of the witness. -/
noncomputable def textsWorld (os : Os) : World := World.laidAll Tryd.prog os Rows.bigintTextsUptoRow.laid
noncomputable def textsArgs : Array Value := #[.string ⟨#[]⟩, .agg #[.bool false, .slice none 0 0], .int .i64 0]
set_option maxRecDepth 100000 in
theorem texts_laid (os : Os) : laidMet Tryd.prog Rows.bigintTextsUptoRow.laid ((textsWorld os).forCall (fun _ _ => 0) ⟨#[], textsArgs, []⟩).memory :=
  laidMet_laidAll _ (by kernel_rfl) (by kernel_rfl)
set_option maxRecDepth 100000 in
theorem texts_reads (os : Os) {H : Type} (enc : TypeId × Value → H) : ∃ places, DataW.whole enc Tryd.prog ((textsWorld os).forCall (fun _ _ => 0) ⟨#[], textsArgs, []⟩).memory Tryd.f8.params.toList Rows.bigintTextsSpec.vars false textsArgs.toList 8 =
    some ([.lit (.string []), .agg [.lit (.bool false), .nil], .lit (.int .i64 0)], [], places) :=
  ⟨[], by kernel_rfl⟩

set_option maxRecDepth 100000 in
theorem texts_lifted (os : Os) (started : os.Started) (H : Type) (enc : TypeId × Value → H) (F : Stop.Interp) :
    ReturnsInHanded {} Tryd.checked os 8 .any ((Rows.OpenSpec.upto Rows.bigintTextsSpec).preRow enc Tryd.prog Tryd.f8 Rows.bigintTextsUptoRow.domain false Rows.bigintTextsUptoRow.laid) (((Rows.OpenSpec.upto Rows.bigintTextsSpec).at F).post enc Tryd.prog Tryd.f8 false true false false) := by
  obtain ⟨places, hx⟩ := texts_reads os enc
  refine returnsInHanded_of_row (C := Tryd.checked) (s := Rows.OpenSpec.upto Rows.bigintTextsSpec) own started (by kernel_rfl) Tryd.func8
    (witness_row_at (enc := enc) (C := Tryd.checked) false (textsWorld os) textsArgs (World.laidAll_os _ _ _) (by kernel_rfl) (by kernel_rfl) (by kernel_rfl)
      (OpenSpec.preRow_of_cond 8 hx (by kernel_rfl) (fun k hk => by cases hk; kernel_rfl) (by kernel_rfl) (texts_laid os))) ?_
  intro W base args ds gs before hval hW _ hcond hsz hL _ _
  exact texts_contract H enc W base args ds gs before hval hW hsz (of_decide_eq_true (hcond _ rfl))

set_option maxRecDepth 100000 in
theorem texts_said : Rows.BigintTextsUptoSaid :=
  OpenClaim.holds_of_cond 8 Tryd.f8 rfl rfl rfl rfl rfl rfl rfl ⟨rfl, rfl, rfl, rfl, rfl⟩ rfl rfl rfl rfl rfl (by kernel_rfl) Tryd.func8 (by kernel_rfl)
    (of_decide_eq_true (by kernel_rfl)) (by unfold Func.isWrapper; first | (rw [if_pos (by decide +kernel)]; kernel_rfl) | (rw [if_neg (by decide +kernel)]; exact ⟨rfl, rfl⟩))
    (fun os started H enc _ F => by rw [OpenClaim.pre_eq_preRow]; exact texts_lifted os started H enc F)

set_option maxRecDepth 100000 in
theorem texts_plain (f : FuncId) (fn : Func) (hf : Tryd.pinned.checked.prog.funcNamed "hornbeam/hornbeamlaw01.BigintTexts" = some f) (hfn : Tryd.pinned.checked.prog.funcs[f]? = some fn) :
    false = Tryd.pinned.checked.prog.looks [] ∧ ∀ (j : Nat) t, fn.params[j]? = some t → Tryd.pinned.checked.prog.wantsStandIn t = false := by
  obtain rfl : f = 8 := Option.some.inj ((show Tryd.prog.funcNamed "hornbeam/hornbeamlaw01.BigintTexts" = some 8 by kernel_rfl).symm.trans hf) |>.symm
  obtain rfl : fn = Tryd.f8 := (Option.some.inj (Tryd.func8.symm.trans hfn)).symm
  refine ⟨by kernel_rfl, fun j t ht => ?_⟩
  rw [Tryd.params8] at ht
  have hm := Array.mem_of_getElem? ht
  simp at hm
  rcases hm with rfl | rfl | rfl
  · exact (show Tryd.prog.wantsStandIn 9 = false by kernel_rfl)
  · exact (show Tryd.prog.wantsStandIn 24 = false by kernel_rfl)
  · exact (show Tryd.prog.wantsStandIn 3 = false by kernel_rfl)

set_option maxRecDepth 100000 in
theorem texts_card : Rows.BigintTextsUptoCardSaid :=
  Claim7.holds_tied_plain_at .later [] _ _ _ _ texts_said (fun _ h => by cases h) (by kernel_rfl) (fun _ h => by cases h) bigintTextsUpto_row_tie rfl ⟨rfl, rfl⟩ (by kernel_rfl) rfl texts_plain (by kernel_rfl)
end Go.Proofs.YtldafoojkimdeaaDoor
