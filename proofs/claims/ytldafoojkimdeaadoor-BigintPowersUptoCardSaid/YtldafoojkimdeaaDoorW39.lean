/- The law BigintReads, region by region. -/
import Derived.Test.YtldafoojkimdeaaDoorW34
import Derived.Test.YtldafoojkimdeaaDoorW38
namespace Go.Proofs.YtldafoojkimdeaaDoor
open Go.RowKit Lm

abbrev EE : Obj := .cells #[] 43
abbrev ZZ : Obj := .cells #[.int .u32 0, .int .u32 0] 43
theorem Grow.base {B B' : Nat} {w : World} {v : Value} {L : List Nat} (h : Grow B w v L) (hb : B' ≤ B) : Grow B' w v L :=
  ⟨h.1, h.2.imp id fun ⟨g, cap, cur, e, hg, r⟩ => ⟨g, cap, cur, e, Nat.le_trans hb hg, r⟩⟩
theorem Grow.alloc {B : Nat} {w : World} {v : Value} {L : List Nat} (h : Grow B w v L) (o : Obj) : Grow B (w.alloc o) v L := World.ownsRow.alloc h o
theorem made_alloc (w : World) : Grow w.heap.size ((w.alloc EE).alloc ZZ).drew (.slice (some ⟨w.heap.size, 0, none⟩) 0 0) [] :=
  World.ownsRow.drew (World.ownsRow.alloc (World.ownsRow_made (base := w.heap.size) (e := 43) (size := 1) w #[] 0 (by simp) (by unfold maxLen; omega) rfl) ZZ)
theorem alloc_made (w : World) : Grow w.heap.size ((w.alloc ZZ).alloc EE).drew (.slice (some ⟨w.heap.size + 1, 0, none⟩) 0 0) [] := by
  have h := Grow.base (L := []) (B' := w.heap.size) (few_made (w.alloc ZZ)) (by simp)
  rw [show (w.alloc ZZ).heap.size = w.heap.size + 1 by simp] at h
  exact h
theorem grown_far {w w' : World} {row : Option Nat} (h : w.grownBy w' row) {k : Nat} {o : Obj} (hk : w.heap[k]? = some o) (hr : some k ≠ row) : w'.heap[k]? = some o := by
  rw [← hk]
  exact h.block k (lt_of_block hk) hr
/-- A box whose number has so many limbs at most. -/
def BxL (m : Nat) (w : World) (g : Nat) (v : Int) : Prop := ∃ n ao len cap A, w.heap[g]? = some (.cells #[.bool n, .slice ao len cap] 24 (0, 0)) ∧ Rd w ao len cap A ∧ num n A = v ∧ len ≤ m
theorem BxL.bx {m : Nat} {w : World} {g : Nat} {v : Int} (h : BxL m w g v) : Bx w g v := by
  obtain ⟨n, ao, len, cap, A, h1, h2, h3, _⟩ := h
  exact ⟨n, ao, len, cap, A, h1, h2, h3⟩
theorem BxL.lt {m : Nat} {w : World} {g : Nat} {v : Int} (h : BxL m w g v) : g < w.heap.size := h.bx.lt
theorem BxL.keep {m : Nat} {w w' : World} {g : Nat} {v : Int} (h : BxL m w g v) (hb : Below w.heap.size w w') : BxL m w' g v := by
  obtain ⟨n, ao, len, cap, A, h1, h2, h3, h4⟩ := h
  exact ⟨n, ao, len, cap, A, heap_keep h1 hb, h2.keep hb, h3, h4⟩
theorem BxL.alloc {m : Nat} {w : World} {g : Nat} {v : Int} (h : BxL m w g v) (o : Obj) : BxL m (w.alloc o) g v := h.keep ((Below.refl _ _).alloc (Nat.le_refl _) _)
theorem BxL.put_other {m : Nat} {w : World} {g b : Nat} {v u : Int} (h : BxL m w g v) (hb : Bx w b u) (hg : g ≠ b) (x' y' : Value) : BxL m ((w.setCell ⟨b, 0, none⟩ x').setCell ⟨b, 1, none⟩ y') g v := by
  obtain ⟨n, ao, len, cap, A, h1, h2, h3, h4⟩ := h
  exact ⟨n, ao, len, cap, A, heap_set (heap_set h1 hg) hg, hb.read_put h2 _ _, h3, h4⟩
theorem Bx.putL {m : Nat} {w : World} {b : Nat} {u : Int} (hb : Bx w b u) {n : Bool} {ao : Option Addr} {len cap : Nat} {A : List Nat} {v : Int} (h : Rd w ao len cap A) (e : num n A = v) (hl : len ≤ m) :
    BxL m ((w.setCell ⟨b, 0, none⟩ (.bool n)).setCell ⟨b, 1, none⟩ (.slice ao len cap)) b v := by
  have h0 := hb.read_put h (.bool n) (.slice ao len cap)
  obtain ⟨n', ao', len', cap', A', k1, _⟩ := hb
  exact ⟨n, ao, len, cap, A, set_pair k1 _ _, h0, e, hl⟩

theorem eq_same {r : Nat} {S8 S10 : ByteArray} {va vb : Int} (h2 : 2 ≤ r) (h36 : r ≤ 36) (la : Lt 4096 va) (lb : Lt 4096 vb) (s8 : Hid (tx r va = S8)) (s10 : Hid (tx r vb = S10)) : ((S8.toList == S10.toList) == ((va - vb).sign == 0)) = true := by
  have k := tx_same h2 h36 la lb
  rw [s8.out, s10.out] at k
  by_cases e : va = vb
  · have e2 := k.2 e
    rw [e2, e, Int.sub_self]
    simp
  · have e2 : S8.toList ≠ S10.toList := fun h => e (k.1 (by
      rw [ByteArray.toList_eq, ByteArray.toList_eq] at h
      exact ByteArray.ext (Array.ext' h)))
    have e3 : (va - vb).sign ≠ 0 := by
      intro h
      exact e (by have := Int.sign_eq_zero_iff_zero.1 h; omega)
    rw [beq_eq_false_iff_ne.2 e2, beq_eq_false_iff_ne.2 e3]
    rfl

theorem len_noughts (A : List Nat) : (A ++ [0, 0]).length = A.length + 2 := by simp
noncomputable def tail12 (n : Nat) : Code := seqDrop n (Tryd.f12.body.getD .skip)
noncomputable def head12 (n : Nat) : Code := seqHead (tail12 n)
noncomputable def Q12 (w : World) : Exit → Act → World → Prop := bodyPost Tryd.prog Tryd.f12 fun e w' => e = .returned (.bool true) ∧ Below w.heap.size w w'

set_option maxRecDepth 100000 in
set_option maxHeartbeats 2000000 in
theorem RD_10 {r : Nat} {S8 S10 : ByteArray} {w wr : World} {g3 g4 g14 : Nat} {u0 u1 u5 u6 u16 u17 u18 u19 u20 u21 u22 u23 u24 u25 u26 u27 u28 u29 u30 u31 u32 u33 u34 u35 u36 u37 u38 u39 u40 u41 u42 u43 u44 u45 u46 u47 u48 u49 u50 u51 u52 u53 u54 u55 u56 u57 u58 u59 u60 u61 u62 u63 u64 u65 u66 u67 u68 u69 u70 u71 u72 u73 u74 u75 u76 u77 u78 u79 u80 u81 u82 u83 u84 u85 u86 u87 u88 u89 u90 u91 u92 u93 u94 u95 u96 u97 u98 : Value} {va vb : Int}
    (h2 : 2 ≤ r) (h36 : r ≤ 36) (la : Lt 4096 va) (lb : Lt 4096 vb) (s8 : Hid (tx r va = S8)) (s10 : Hid (tx r vb = S10))
    (hb : Below w.heap.size w wr) (_h0 : w.heap.size ≤ g3)
    (_o4 : g3 < g4) (_o14 : g4 < g14)
    (b3 : BxL 128 wr g3 (va)) (b4 : Bx wr g4 (vb)) (b14 : Bx wr g14 (va)) :
    Code.wp Tryd.prog (tail12 10) (Q12 w) ⟨#[u0, u1, .int .i64 (r : Int), .pointer (some ⟨g3, 0, none⟩), .pointer (some ⟨g4, 0, none⟩), u5, u6, .bool true, .string S8, .int .i64 0, .string S10, .int .i64 0, .string S8, .int .i64 0, .pointer (some ⟨g14, 0, none⟩), .int .i64 0, u16, u17, u18, u19, u20, u21, u22, u23, u24, u25, u26, u27, u28, u29, u30, u31, u32, u33, u34, u35, u36, u37, u38, u39, u40, u41, u42, u43, u44, u45, u46, u47, u48, u49, u50, u51, u52, u53, u54, u55, u56, u57, u58, u59, u60, u61, u62, u63, u64, u65, u66, u67, u68, u69, u70, u71, u72, u73, u74, u75, u76, u77, u78, u79, u80, u81, u82, u83, u84, u85, u86, u87, u88, u89, u90, u91, u92, u93, u94, u95, u96, u97, u98], []⟩ wr := by
  have b3' := b3
  obtain ⟨nA, aA, lA, cA, A, hHA, hRA, hEA, hLA⟩ := b3'
  obtain ⟨kA0, kA1, _, _⟩ := two_cells hHA
  have HEA := hid hEA
  have HHA := hid hHA
  clear hEA hHA
  have b4' := b4
  obtain ⟨nB, aB, lB, cB, B, hHB, hRB, hEB⟩ := b4'
  obtain ⟨kB0, kB1, _, _⟩ := two_cells hHB
  have HEB := hid hEB
  have HHB := hid hHB
  clear hEB hHB
  have b14' := b14
  obtain ⟨nX, aX, lX, cX, X, hHX, hRX, hEX⟩ := b14'
  obtain ⟨kX0, kX1, _, _⟩ := two_cells hHX
  have HEX := hid hEX
  have HHX := hid hHX
  clear hEX hHX
  conv => arg 2; whnf
  go_wp2_with fail
  refine (cmp_any nX aX lX cX X nA aA lA cA A _ hRX hRA).mono ?_
  rintro e w2 ⟨rfl, hb2⟩
  rw [HEX.out, HEA.out, Int.sub_self]
  obtain ⟨qA0, qA1, _, _⟩ := two_cells (heap_keep HHA.out hb2)
  obtain ⟨qB0, qB1, _, _⟩ := two_cells (heap_keep HHB.out hb2)
  go_wp2_with fail
  refine (cmp_any nA aA lA cA A nB aB lB cB B _ (hRA.keep hb2) (hRB.keep hb2)).mono ?_
  rintro e w3 ⟨rfl, hb3⟩
  rw [HEA.out, HEB.out]
  have hd := eq_same h2 h36 la lb s8 s10
  go_wp2
  unfold Q12
  go_ret
  exact ⟨rfl, (hb.trans (hb2.mono hb.size)).trans (hb3.mono (hb.trans (hb2.mono hb.size)).size)⟩

set_option maxRecDepth 100000 in
set_option maxHeartbeats 2000000 in
theorem RD_9 {r : Nat} {S8 S10 : ByteArray} {w wr : World} {g3 g4 : Nat} {u0 u1 u5 u6 u14 u15 u16 u17 u18 u19 u20 u21 u22 u23 u24 u25 u26 u27 u28 u29 u30 u31 u32 u33 u34 u35 u36 u37 u38 u39 u40 u41 u42 u43 u44 u45 u46 u47 u48 u49 u50 u51 u52 u53 u54 u55 u56 u57 u58 u59 u60 u61 u62 u63 u64 u65 u66 u67 u68 u69 u70 u71 u72 u73 u74 u75 u76 u77 u78 u79 u80 u81 u82 u83 u84 u85 u86 u87 u88 u89 u90 u91 u92 u93 u94 u95 u96 u97 u98 : Value} {va vb : Int}
    (h2 : 2 ≤ r) (h36 : r ≤ 36) (la : Lt 4096 va) (lb : Lt 4096 vb) (s8 : Hid (tx r va = S8)) (s10 : Hid (tx r vb = S10))
    (hb : Below w.heap.size w wr) (h0 : w.heap.size ≤ g3)
    (o4 : g3 < g4)
    (b3 : BxL 128 wr g3 (va)) (b4 : Bx wr g4 (vb)) :
    Code.wp Tryd.prog (tail12 9) (Q12 w) ⟨#[u0, u1, .int .i64 (r : Int), .pointer (some ⟨g3, 0, none⟩), .pointer (some ⟨g4, 0, none⟩), u5, u6, .bool true, .string S8, .int .i64 0, .string S10, .int .i64 0, .string S8, .int .i64 0, u14, u15, u16, u17, u18, u19, u20, u21, u22, u23, u24, u25, u26, u27, u28, u29, u30, u31, u32, u33, u34, u35, u36, u37, u38, u39, u40, u41, u42, u43, u44, u45, u46, u47, u48, u49, u50, u51, u52, u53, u54, u55, u56, u57, u58, u59, u60, u61, u62, u63, u64, u65, u66, u67, u68, u69, u70, u71, u72, u73, u74, u75, u76, u77, u78, u79, u80, u81, u82, u83, u84, u85, u86, u87, u88, u89, u90, u91, u92, u93, u94, u95, u96, u97, u98], []⟩ wr := by
  show Code.wp Tryd.prog (Code.seq (head12 9) (tail12 10)) _ _ _
  conv => arg 2; arg 1; whnf
  go_wp2_with fail
  have hp := parse_canon r va wr h2 h36 la
  rw [s8.out] at hp
  refine hp.mono ?_
  rintro e w2 ⟨n2, ao2, len2, C2, rfl, hR2, hE2, hb2⟩
  have HE2 := hid hE2
  clear hE2
  go_wp2
  have hlast : g4 < w2.heap.size := (b4.keep hb2).lt
  have hb3 := hb.trans (hb2.mono hb.size)
  exact RD_10 h2 h36 la lb s8 s10 (hb3.alloc hb3.size _) h0 o4 hlast ((b3.keep hb2).alloc _) ((b4.keep hb2).alloc _) (Bx.new hR2 HE2.out)

set_option maxRecDepth 100000 in
set_option maxHeartbeats 2000000 in
theorem RD_8 {r : Nat} {S8 S10 : ByteArray} {w wr : World} {g3 g4 : Nat} {u0 u1 u5 u6 u12 u13 u14 u15 u16 u17 u18 u19 u20 u21 u22 u23 u24 u25 u26 u27 u28 u29 u30 u31 u32 u33 u34 u35 u36 u37 u38 u39 u40 u41 u42 u43 u44 u45 u46 u47 u48 u49 u50 u51 u52 u53 u54 u55 u56 u57 u58 u59 u60 u61 u62 u63 u64 u65 u66 u67 u68 u69 u70 u71 u72 u73 u74 u75 u76 u77 u78 u79 u80 u81 u82 u83 u84 u85 u86 u87 u88 u89 u90 u91 u92 u93 u94 u95 u96 u97 u98 : Value} {va vb : Int}
    (h2 : 2 ≤ r) (h36 : r ≤ 36) (la : Lt 4096 va) (lb : Lt 4096 vb) (s8 : Hid (tx r va = S8)) (s10 : Hid (tx r vb = S10))
    (hb : Below w.heap.size w wr) (h0 : w.heap.size ≤ g3)
    (o4 : g3 < g4)
    (b3 : BxL 128 wr g3 (va)) (b4 : Bx wr g4 (vb)) :
    Code.wp Tryd.prog (tail12 8) (Q12 w) ⟨#[u0, u1, .int .i64 (r : Int), .pointer (some ⟨g3, 0, none⟩), .pointer (some ⟨g4, 0, none⟩), u5, u6, .bool true, .string S8, .int .i64 0, .string S10, .int .i64 0, u12, u13, u14, u15, u16, u17, u18, u19, u20, u21, u22, u23, u24, u25, u26, u27, u28, u29, u30, u31, u32, u33, u34, u35, u36, u37, u38, u39, u40, u41, u42, u43, u44, u45, u46, u47, u48, u49, u50, u51, u52, u53, u54, u55, u56, u57, u58, u59, u60, u61, u62, u63, u64, u65, u66, u67, u68, u69, u70, u71, u72, u73, u74, u75, u76, u77, u78, u79, u80, u81, u82, u83, u84, u85, u86, u87, u88, u89, u90, u91, u92, u93, u94, u95, u96, u97, u98], []⟩ wr := by
  have b3' := b3
  obtain ⟨nA, aA, lA, cA, A, hHA, hRA, hEA, hlA⟩ := b3'
  obtain ⟨kA0, kA1, _, _⟩ := two_cells hHA
  have HHA := hid hHA
  have HE3 : Hid (num nA (A ++ [0, 0]) = va) := hid (by rw [← hEA]; unfold num; rw [val_noughts])
  clear hEA hHA
  have hs := hb.size
  have hg3 := b3.lt
  have hsA := hRA.size
  have hAl : A.length ≤ 1000 := by omega
  have hla : lA ≤ 1000 := by omega
  have hok3 : Ok (A ++ [0, 0]) := hRA.ok.append (Ok.zeros 2)
  have hl3 : (A ++ [0, 0]).length ≤ 70368744177664 := by rw [List.length_append]; simp; omega
  clear hsA
  have hG1 := hid (few_made wr)
  have hG2 := hid (alloc_made wr)
  have hG3 := hid (made_alloc wr)
  have hR1 : Rd (wr.alloc EE).drew aA lA cA A := (hRA.alloc _).drew
  have hR2 : Rd ((wr.alloc ZZ).alloc EE).drew aA lA cA A := ((hRA.alloc _).alloc _).drew
  have hR3 : Rd ((wr.alloc EE).alloc ZZ).drew aA lA cA A := ((hRA.alloc _).alloc _).drew
  have Q1 : Hid ((wr.alloc EE).drew.heap[g3]? = some (.cells #[.bool nA, .slice aA lA cA] 24 (0, 0))) := hid (hpS EE HHA.out)
  have Q2 : Hid (((wr.alloc ZZ).alloc EE).drew.heap[g3]? = some (.cells #[.bool nA, .slice aA lA cA] 24 (0, 0))) := hid (hpS EE (hpS ZZ HHA.out))
  have Q3 : Hid (((wr.alloc EE).alloc ZZ).drew.heap[g3]? = some (.cells #[.bool nA, .slice aA lA cA] 24 (0, 0))) := hid (hpS ZZ (hpS EE HHA.out))
  have Z2 : Hid (((wr.alloc ZZ).alloc EE).drew.heap[wr.heap.size]? = some ZZ) := hid (hpS EE (heap_alloc_new wr ZZ))
  have Z3 : Hid (((wr.alloc EE).alloc ZZ).drew.heap[wr.heap.size + 1]? = some ZZ) := hid (heap_new2 wr EE ZZ)
  have hx1 : Below wr.heap.size wr (wr.alloc EE).drew := ((Below.refl _ _).alloc (Nat.le_refl _) _).drew
  have hx2 : Below wr.heap.size wr ((wr.alloc ZZ).alloc EE).drew := (((Below.refl _ _).alloc (Nat.le_refl _) _).alloc (by simp) _).drew
  have hx3 : Below wr.heap.size wr ((wr.alloc EE).alloc ZZ).drew := (((Below.refl _ _).alloc (Nat.le_refl _) _).alloc (by simp) _).drew
  show Code.wp Tryd.prog (Code.seq (head12 8) (tail12 9)) _ _ _
  conv => arg 2; arg 1; whnf
  go_wp2_with fail
  go_region_held3 (fun w' => w'.cell? ⟨g3, 0, none⟩ = some (.bool nA) ∧ w'.cell? ⟨g3, 1, none⟩ = some (.slice aA lA cA))
    (first
      | go_keep
      | (with_reducible exact ⟨(two_cells K.out).1, (two_cells K.out).2.1⟩)
      | (with_reducible exact ⟨(two_cells J.out).1, (two_cells J.out).2.1⟩)
      | (with_reducible exact ⟨(two_cells I.out).1, (two_cells I.out).2.1⟩))
    ((first
      | ( (refine step_app0 (w := (wr.alloc EE).drew) (by rfl) _ _ (by rfl) wr.heap.size (some ⟨wr.heap.size, 0, none⟩) (by rfl) hG1.out (by simp; try omega) aA lA cA A (by rfl) hR1 hla ?_); intro v2 w2 hGv hgr; have I := hid (grown_far hgr Q1.out (by simp [Value.ownBlock]; omega)); have hy2 := hx1.grown hgr (by simp; try omega) (fun k hk => by simp [Value.ownBlock] at hk; omega); have hz2 := hy2.size)
      | ( (refine step_app0 (w := ((wr.alloc ZZ).alloc EE).drew) (by rfl) _ _ (by rfl) wr.heap.size (some ⟨wr.heap.size + 1, 0, none⟩) (by rfl) hG2.out (by simp; try omega) aA lA cA A (by rfl) hR2 hla ?_); intro v2 w2 hGv hgr; have I := hid (grown_far hgr Q2.out (by simp [Value.ownBlock]; omega)); have hy2 := hx2.grown hgr (by simp; try omega) (fun k hk => by simp [Value.ownBlock] at hk; omega); have hz2 := hy2.size; have HZ := hid (grown_far hgr Z2.out (by simp [Value.ownBlock])))
      | ( (refine step_app0 (w := ((wr.alloc EE).alloc ZZ).drew) (by rfl) _ _ (by rfl) wr.heap.size (some ⟨wr.heap.size, 0, none⟩) (by rfl) hG3.out (by simp; try omega) aA lA cA A (by rfl) hR3 hla ?_); intro v2 w2 hGv hgr; have I := hid (grown_far hgr Q3.out (by simp [Value.ownBlock]; omega)); have hy2 := hx3.grown hgr (by simp; try omega) (fun k hk => by simp [Value.ownBlock] at hk; omega); have hz2 := hy2.size; have HZ := hid (grown_far hgr Z3.out (by simp [Value.ownBlock])))
      | ((refine step_app2 (w := w2) (by rfl) _ _ (by rfl) wr.heap.size v2 A (by rfl) hGv hz2 hAl _ HZ.out (by rfl) ?_); intro v3 w3 hGw hgs; have J := hid (grown_far hgs I.out (by intro e; have := hGv.le _ e.symm; omega)); have hy3 := hy2.grown hgs (by first | omega | (simp; omega)) hGv.le; obtain ⟨ao3, cap3, rfl, hRw⟩ := hGw.rd hok3 hl3; rw [len_noughts] at hRw)
      | ((refine step_app2 (w := w2.alloc ZZ) (by rfl) _ _ (by rfl) wr.heap.size v2 A (by rfl) (Grow.alloc hGv ZZ) (by simp; omega) hAl w2.heap.size (heap_alloc_new w2 ZZ) (by rfl) ?_); intro v3 w3 hGw hgs; have J := hid (grown_far hgs (hpS ZZ I.out) (by intro e; have := hGv.le _ e.symm; omega)); have hy3 := (hy2.alloc hz2 ZZ).grown hgs (by first | omega | (simp; omega)) hGv.le; obtain ⟨ao3, cap3, rfl, hRw⟩ := hGw.rd hok3 hl3; rw [len_noughts] at hRw)
      | (go_at_call 59; (with_reducible refine (text_canon r w3 hRw HE3.out h2 h36 la).mono ?_); rintro e w4 ⟨rfl, hb4⟩; rw [s8.out]; have K := hid (heap_keep J.out hb4); have hy4 := hy3.trans (hb4.mono hy3.size))))
  all_goals
    go_wp2
    have hy4' := hb.trans (hy4.mono hb.size)
    exact RD_9 h2 h36 la lb s8 s10 (hy4') h0 o4 (b3.keep hy4) (b4.keep hy4)

set_option maxRecDepth 100000 in
set_option maxHeartbeats 2000000 in
theorem RD_7 {r : Nat} {S8 : ByteArray} {w wr : World} {g3 g4 : Nat} {u0 u1 u5 u6 u10 u11 u12 u13 u14 u15 u16 u17 u18 u19 u20 u21 u22 u23 u24 u25 u26 u27 u28 u29 u30 u31 u32 u33 u34 u35 u36 u37 u38 u39 u40 u41 u42 u43 u44 u45 u46 u47 u48 u49 u50 u51 u52 u53 u54 u55 u56 u57 u58 u59 u60 u61 u62 u63 u64 u65 u66 u67 u68 u69 u70 u71 u72 u73 u74 u75 u76 u77 u78 u79 u80 u81 u82 u83 u84 u85 u86 u87 u88 u89 u90 u91 u92 u93 u94 u95 u96 u97 u98 : Value} {va vb : Int}
    (h2 : 2 ≤ r) (h36 : r ≤ 36) (la : Lt 4096 va) (lb : Lt 4096 vb) (s8 : Hid (tx r va = S8))
    (hb : Below w.heap.size w wr) (h0 : w.heap.size ≤ g3)
    (o4 : g3 < g4)
    (b3 : BxL 128 wr g3 (va)) (b4 : Bx wr g4 (vb)) :
    Code.wp Tryd.prog (tail12 7) (Q12 w) ⟨#[u0, u1, .int .i64 (r : Int), .pointer (some ⟨g3, 0, none⟩), .pointer (some ⟨g4, 0, none⟩), u5, u6, .bool true, .string S8, .int .i64 0, u10, u11, u12, u13, u14, u15, u16, u17, u18, u19, u20, u21, u22, u23, u24, u25, u26, u27, u28, u29, u30, u31, u32, u33, u34, u35, u36, u37, u38, u39, u40, u41, u42, u43, u44, u45, u46, u47, u48, u49, u50, u51, u52, u53, u54, u55, u56, u57, u58, u59, u60, u61, u62, u63, u64, u65, u66, u67, u68, u69, u70, u71, u72, u73, u74, u75, u76, u77, u78, u79, u80, u81, u82, u83, u84, u85, u86, u87, u88, u89, u90, u91, u92, u93, u94, u95, u96, u97, u98], []⟩ wr := by
  have b4' := b4
  obtain ⟨nA, aA, lA, cA, A, hHA, hRA, hEA⟩ := b4'
  obtain ⟨kA0, kA1, _, _⟩ := two_cells hHA
  have HEA := hid hEA
  clear hEA hHA
  show Code.wp Tryd.prog (Code.seq (head12 7) (tail12 8)) _ _ _
  conv => arg 2; arg 1; whnf
  go_wp2_with fail
  refine (text_canon r _ hRA HEA.out h2 h36 lb).mono ?_
  rintro e w2 ⟨rfl, hb2⟩
  generalize hS : tx r vb = S10
  have HS := hid hS
  clear hS
  go_wp2
  exact RD_8 h2 h36 la lb s8 HS (hb.trans (hb2.mono hb.size)) h0 o4 (b3.keep hb2) (b4.keep hb2)

set_option maxRecDepth 100000 in
set_option maxHeartbeats 2000000 in
theorem RD_6 {r : Nat} {w wr : World} {g3 g4 : Nat} {u0 u1 u5 u6 u8 u9 u10 u11 u12 u13 u14 u15 u16 u17 u18 u19 u20 u21 u22 u23 u24 u25 u26 u27 u28 u29 u30 u31 u32 u33 u34 u35 u36 u37 u38 u39 u40 u41 u42 u43 u44 u45 u46 u47 u48 u49 u50 u51 u52 u53 u54 u55 u56 u57 u58 u59 u60 u61 u62 u63 u64 u65 u66 u67 u68 u69 u70 u71 u72 u73 u74 u75 u76 u77 u78 u79 u80 u81 u82 u83 u84 u85 u86 u87 u88 u89 u90 u91 u92 u93 u94 u95 u96 u97 u98 : Value} {va vb : Int}
    (h2 : 2 ≤ r) (h36 : r ≤ 36) (la : Lt 4096 va) (lb : Lt 4096 vb)
    (hb : Below w.heap.size w wr) (h0 : w.heap.size ≤ g3)
    (o4 : g3 < g4)
    (b3 : BxL 128 wr g3 (va)) (b4 : Bx wr g4 (vb)) :
    Code.wp Tryd.prog (tail12 6) (Q12 w) ⟨#[u0, u1, .int .i64 (r : Int), .pointer (some ⟨g3, 0, none⟩), .pointer (some ⟨g4, 0, none⟩), u5, u6, .bool true, u8, u9, u10, u11, u12, u13, u14, u15, u16, u17, u18, u19, u20, u21, u22, u23, u24, u25, u26, u27, u28, u29, u30, u31, u32, u33, u34, u35, u36, u37, u38, u39, u40, u41, u42, u43, u44, u45, u46, u47, u48, u49, u50, u51, u52, u53, u54, u55, u56, u57, u58, u59, u60, u61, u62, u63, u64, u65, u66, u67, u68, u69, u70, u71, u72, u73, u74, u75, u76, u77, u78, u79, u80, u81, u82, u83, u84, u85, u86, u87, u88, u89, u90, u91, u92, u93, u94, u95, u96, u97, u98], []⟩ wr := by
  have b3' := b3
  obtain ⟨nA, aA, lA, cA, A, hHA, hRA, hEA, hLA⟩ := b3'
  obtain ⟨kA0, kA1, _, _⟩ := two_cells hHA
  have HEA := hid hEA
  clear hEA hHA
  show Code.wp Tryd.prog (Code.seq (head12 6) (tail12 7)) _ _ _
  conv => arg 2; arg 1; whnf
  go_wp2_with fail
  refine (text_canon r _ hRA HEA.out h2 h36 la).mono ?_
  rintro e w2 ⟨rfl, hb2⟩
  generalize hS : tx r va = S8
  have HS := hid hS
  clear hS
  go_wp2
  exact RD_7 h2 h36 la lb HS (hb.trans (hb2.mono hb.size)) h0 o4 (b3.keep hb2) (b4.keep hb2)

set_option maxRecDepth 100000 in
set_option maxHeartbeats 2000000 in
theorem RD_5 {w wr : World} {g3 g4 : Nat} {u0 u1 u5 u6 u8 u9 u10 u11 u12 u13 u14 u15 u16 u17 u18 u19 u20 u21 u22 u23 u24 u25 u26 u27 u28 u29 u30 u31 u32 u33 u34 u35 u36 u37 u38 u39 u40 u41 u42 u43 u44 u45 u46 u47 u48 u49 u50 u51 u52 u53 u54 u55 u56 u57 u58 u59 u60 u61 u62 u63 u64 u65 u66 u67 u68 u69 u70 u71 u72 u73 u74 u75 u76 u77 u78 u79 u80 u81 u82 u83 u84 u85 u86 u87 u88 u89 u90 u91 u92 u93 u94 u95 u96 u97 u98 : Value} {va vb x : Int}
    (hx : 0 ≤ x ∧ x ≤ 9223372036854775807) (la : Lt 4096 va) (lb : Lt 4096 vb)
    (hb : Below w.heap.size w wr) (h0 : w.heap.size ≤ g3)
    (o4 : g3 < g4)
    (b3 : BxL 128 wr g3 (va)) (b4 : Bx wr g4 (vb)) :
    Code.wp Tryd.prog (tail12 5) (Q12 w) ⟨#[u0, u1, .int .i64 x, .pointer (some ⟨g3, 0, none⟩), .pointer (some ⟨g4, 0, none⟩), u5, u6, .bool true, u8, u9, u10, u11, u12, u13, u14, u15, u16, u17, u18, u19, u20, u21, u22, u23, u24, u25, u26, u27, u28, u29, u30, u31, u32, u33, u34, u35, u36, u37, u38, u39, u40, u41, u42, u43, u44, u45, u46, u47, u48, u49, u50, u51, u52, u53, u54, u55, u56, u57, u58, u59, u60, u61, u62, u63, u64, u65, u66, u67, u68, u69, u70, u71, u72, u73, u74, u75, u76, u77, u78, u79, u80, u81, u82, u83, u84, u85, u86, u87, u88, u89, u90, u91, u92, u93, u94, u95, u96, u97, u98], []⟩ wr := by
  show Code.wp Tryd.prog (Code.seq (head12 5) (tail12 6)) _ _ _
  conv => arg 2; arg 1; whnf
  have h1 := hx.1
  have h2 := hx.2
  clear hx
  obtain ⟨m, rfl⟩ : ∃ m : Nat, x = (m : Int) := ⟨x.toNat, by omega⟩
  go_wp2
  exact RD_6 (r := 2 + m % 35) (by omega) (by omega) la lb hb h0 o4 b3 b4

set_option maxRecDepth 100000 in
set_option maxHeartbeats 2000000 in
theorem RD_4 {w wr : World} {g3 g4 : Nat} {u0 u1 u5 u6 u8 u9 u10 u11 u12 u13 u14 u15 u16 u17 u18 u19 u20 u21 u22 u23 u24 u25 u26 u27 u28 u29 u30 u31 u32 u33 u34 u35 u36 u37 u38 u39 u40 u41 u42 u43 u44 u45 u46 u47 u48 u49 u50 u51 u52 u53 u54 u55 u56 u57 u58 u59 u60 u61 u62 u63 u64 u65 u66 u67 u68 u69 u70 u71 u72 u73 u74 u75 u76 u77 u78 u79 u80 u81 u82 u83 u84 u85 u86 u87 u88 u89 u90 u91 u92 u93 u94 u95 u96 u97 u98 : Value} {va vb x : Int}
    (hx : -9223372036854775808 ≤ x ∧ x ≤ 9223372036854775807) (la : Lt 4096 va) (lb : Lt 4096 vb)
    (hb : Below w.heap.size w wr) (h0 : w.heap.size ≤ g3)
    (o4 : g3 < g4)
    (b3 : BxL 128 wr g3 (va)) (b4 : Bx wr g4 (vb)) :
    Code.wp Tryd.prog (tail12 4) (Q12 w) ⟨#[u0, u1, .int .i64 x, .pointer (some ⟨g3, 0, none⟩), .pointer (some ⟨g4, 0, none⟩), u5, u6, .bool true, u8, u9, u10, u11, u12, u13, u14, u15, u16, u17, u18, u19, u20, u21, u22, u23, u24, u25, u26, u27, u28, u29, u30, u31, u32, u33, u34, u35, u36, u37, u38, u39, u40, u41, u42, u43, u44, u45, u46, u47, u48, u49, u50, u51, u52, u53, u54, u55, u56, u57, u58, u59, u60, u61, u62, u63, u64, u65, u66, u67, u68, u69, u70, u71, u72, u73, u74, u75, u76, u77, u78, u79, u80, u81, u82, u83, u84, u85, u86, u87, u88, u89, u90, u91, u92, u93, u94, u95, u96, u97, u98], []⟩ wr := by
  show Code.wp Tryd.prog (Code.seq (head12 4) (tail12 5)) _ _ _
  conv => arg 2; arg 1; whnf
  have h1 := hx.1
  have h2 := hx.2
  clear hx
  go_wp2
  all_goals exact RD_5 (by omega) la lb hb h0 o4 b3 b4

set_option maxRecDepth 100000 in
set_option maxHeartbeats 2000000 in
theorem RD_3 {w wr : World} {g3 g4 : Nat} {u0 u1 u5 u6 u8 u9 u10 u11 u12 u13 u14 u15 u16 u17 u18 u19 u20 u21 u22 u23 u24 u25 u26 u27 u28 u29 u30 u31 u32 u33 u34 u35 u36 u37 u38 u39 u40 u41 u42 u43 u44 u45 u46 u47 u48 u49 u50 u51 u52 u53 u54 u55 u56 u57 u58 u59 u60 u61 u62 u63 u64 u65 u66 u67 u68 u69 u70 u71 u72 u73 u74 u75 u76 u77 u78 u79 u80 u81 u82 u83 u84 u85 u86 u87 u88 u89 u90 u91 u92 u93 u94 u95 u96 u97 u98 : Value} {va vb x : Int}
    (hx : -9223372036854775808 ≤ x ∧ x ≤ 9223372036854775807) (la : Lt 4096 va)
    (hb : Below w.heap.size w wr) (h0 : w.heap.size ≤ g3)
    (o4 : g3 < g4)
    (b3 : BxL 128 wr g3 (va)) (b4 : Bx wr g4 (vb)) :
    Code.wp Tryd.prog (tail12 3) (Q12 w) ⟨#[u0, u1, .int .i64 x, .pointer (some ⟨g3, 0, none⟩), .pointer (some ⟨g4, 0, none⟩), u5, u6, .bool true, u8, u9, u10, u11, u12, u13, u14, u15, u16, u17, u18, u19, u20, u21, u22, u23, u24, u25, u26, u27, u28, u29, u30, u31, u32, u33, u34, u35, u36, u37, u38, u39, u40, u41, u42, u43, u44, u45, u46, u47, u48, u49, u50, u51, u52, u53, u54, u55, u56, u57, u58, u59, u60, u61, u62, u63, u64, u65, u66, u67, u68, u69, u70, u71, u72, u73, u74, u75, u76, u77, u78, u79, u80, u81, u82, u83, u84, u85, u86, u87, u88, u89, u90, u91, u92, u93, u94, u95, u96, u97, u98], []⟩ wr := by
  have b4' := b4
  obtain ⟨nA, aA, lA, cA, A, hHA, hRA, hEA⟩ := b4'
  obtain ⟨kA0, kA1, _, _⟩ := two_cells hHA
  have HEA := hid hEA
  clear hEA hHA
  show Code.wp Tryd.prog (Code.seq (head12 3) (tail12 4)) _ _ _
  conv => arg 2; arg 1; whnf
  go_wp2_with fail
  refine (few_any nA aA lA cA A 128 _ hRA (by decide) (by decide)).mono ?_
  rintro e w2 ⟨ao2, len2, cap2, rfl, hR2, hb2⟩
  have hlt : Lt 4096 (num nA (A.take 128)) := lt_take hRA.ok _ rfl
  obtain ⟨nP, aP, lP, cP, P, hHP, _, _⟩ := b4.keep hb2
  obtain ⟨kP0, kP1, kP2, kP3⟩ := two_cells hHP
  clear hHP
  go_wp2
  have hb3 := hb.trans (hb2.mono hb.size)
  exact RD_4 hx la hlt (below_put hb3 (by omega) _ _) h0 o4 ((b3.keep hb2).put_other (b4.keep hb2) (by omega) _ _) ((b4.keep hb2).put hR2 rfl)

set_option maxRecDepth 100000 in
set_option maxHeartbeats 2000000 in
theorem RD_2 {w wr : World} {g3 g4 : Nat} {u0 u1 u5 u6 u8 u9 u10 u11 u12 u13 u14 u15 u16 u17 u18 u19 u20 u21 u22 u23 u24 u25 u26 u27 u28 u29 u30 u31 u32 u33 u34 u35 u36 u37 u38 u39 u40 u41 u42 u43 u44 u45 u46 u47 u48 u49 u50 u51 u52 u53 u54 u55 u56 u57 u58 u59 u60 u61 u62 u63 u64 u65 u66 u67 u68 u69 u70 u71 u72 u73 u74 u75 u76 u77 u78 u79 u80 u81 u82 u83 u84 u85 u86 u87 u88 u89 u90 u91 u92 u93 u94 u95 u96 u97 u98 : Value} {va vb x : Int}
    (hx : -9223372036854775808 ≤ x ∧ x ≤ 9223372036854775807)
    (hb : Below w.heap.size w wr) (h0 : w.heap.size ≤ g3)
    (o4 : g3 < g4)
    (b3 : Bx wr g3 (va)) (b4 : Bx wr g4 (vb)) :
    Code.wp Tryd.prog (tail12 2) (Q12 w) ⟨#[u0, u1, .int .i64 x, .pointer (some ⟨g3, 0, none⟩), .pointer (some ⟨g4, 0, none⟩), u5, u6, .bool true, u8, u9, u10, u11, u12, u13, u14, u15, u16, u17, u18, u19, u20, u21, u22, u23, u24, u25, u26, u27, u28, u29, u30, u31, u32, u33, u34, u35, u36, u37, u38, u39, u40, u41, u42, u43, u44, u45, u46, u47, u48, u49, u50, u51, u52, u53, u54, u55, u56, u57, u58, u59, u60, u61, u62, u63, u64, u65, u66, u67, u68, u69, u70, u71, u72, u73, u74, u75, u76, u77, u78, u79, u80, u81, u82, u83, u84, u85, u86, u87, u88, u89, u90, u91, u92, u93, u94, u95, u96, u97, u98], []⟩ wr := by
  have b3' := b3
  obtain ⟨nA, aA, lA, cA, A, hHA, hRA, hEA⟩ := b3'
  obtain ⟨kA0, kA1, _, _⟩ := two_cells hHA
  have HEA := hid hEA
  clear hEA hHA
  show Code.wp Tryd.prog (Code.seq (head12 2) (tail12 3)) _ _ _
  conv => arg 2; arg 1; whnf
  go_wp2_with fail
  refine (few_any nA aA lA cA A 128 _ hRA (by decide) (by decide)).mono ?_
  rintro e w2 ⟨ao2, len2, cap2, rfl, hR2, hb2⟩
  have hlt : Lt 4096 (num nA (A.take 128)) := lt_take hRA.ok _ rfl
  obtain ⟨nP, aP, lP, cP, P, hHP, _, _⟩ := b3.keep hb2
  obtain ⟨kP0, kP1, kP2, kP3⟩ := two_cells hHP
  clear hHP
  go_wp2
  have hlen : len2 ≤ 128 := (by have h1 := hR2.size; rw [List.length_take] at h1; omega)
  have hb3 := hb.trans (hb2.mono hb.size)
  exact RD_3 hx hlt (below_put hb3 (by omega) _ _) h0 o4 ((b3.keep hb2).putL hR2 rfl hlen) ((b4.keep hb2).put_other (b3.keep hb2) (by omega) _ _)

set_option maxRecDepth 100000 in
set_option maxHeartbeats 2000000 in
theorem reads_yes {na : Bool} {aa : Option Addr} {la ca : Nat} {A : List Nat} {nb : Bool} {ab : Option Addr} {lb cb : Nat} {B : List Nat} (x : Int) (w : World) (hA : Rd w aa la ca A) (hB : Rd w ab lb cb B) (hx : -9223372036854775808 ≤ x ∧ x ≤ 9223372036854775807) :
    Calls Tryd.prog 12 #[.agg #[.bool na, .slice aa la ca], .agg #[.bool nb, .slice ab lb cb], .int .i64 x] w fun e w' => e = .returned (.bool true) ∧ Below w.heap.size w w' := by
  have X0 := (Bx.new (n := na) hA rfl).alloc (.cells #[.bool nb, .slice ab lb cb] 24)
  have X1 := Bx.new (n := nb) (hB.alloc (.cells #[.bool na, .slice aa la ca] 24)) rfl
  rw [show (w.alloc (.cells #[.bool na, .slice aa la ca] 24)).heap.size = w.heap.size + 1 by simp] at X1
  have hb := ((Below.refl w.heap.size w).alloc (Nat.le_refl _) (.cells #[.bool na, .slice aa la ca] 24)).alloc (by simp) (.cells #[.bool nb, .slice ab lb cb] 24)
  go_enter Tryd.func12, Tryd.ntmps12
  change Code.wp Tryd.prog (Code.seq (head12 0) (tail12 1)) (Q12 w) _ _
  conv => arg 2; arg 1; whnf
  go_wp2
  show Code.wp Tryd.prog (Code.seq (head12 1) (tail12 2)) _ _ _
  conv => arg 2; arg 1; whnf
  go_wp2_with fail
  refine (awake_yes _).mono ?_
  rintro e w2 ⟨rfl, hb2⟩
  go_wp2
  exact RD_2 hx (hb.trans (hb2.mono hb.size)) (Nat.le_refl _) (by simp) (X0.keep hb2) (X1.keep hb2)
end Go.Proofs.YtldafoojkimdeaaDoor
