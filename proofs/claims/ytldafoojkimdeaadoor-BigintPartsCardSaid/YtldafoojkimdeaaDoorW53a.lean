/- The law BigintParts: cases of its last region. -/
import Derived.Test.YtldafoojkimdeaaDoorW52
namespace Go.Proofs.YtldafoojkimdeaaDoor
open Go.RowKit Lm

set_option maxRecDepth 100000 in
set_option maxHeartbeats 20000000 in
theorem PN_16_c0 {ap : Bool} {w wr : World} {g2 g3 g6 g7 g9 g10 g12 g14 g18 : Nat} {u0 u1 u4 u24 u25 u26 u27 u28 u29 u30 u31 u32 u33 u34 u35 u36 u37 u38 u39 u40 u41 u42 u43 u44 u45 u46 u47 u48 u49 u50 u51 u52 u53 u54 u55 u56 u57 u58 u59 u60 u61 u62 u63 u64 u65 u66 u67 u68 u69 u70 u71 u72 u73 u74 u75 u76 u77 u78 u79 u80 u81 u82 u83 u84 u85 u86 u87 u88 u89 u90 u91 u92 u93 u94 u95 u96 u97 u98 u99 u100 u101 u102 u103 u104 u105 u106 u107 u108 u109 u110 u111 u112 u113 u114 u115 u116 u117 u118 u119 u120 u121 u122 u123 u124 u125 u126 u127 u128 u129 u130 u131 u132 u133 u134 u135 u136 u137 u138 u139 u140 u141 u142 u143 u144 u145 u146 u147 u148 u149 u150 u151 u152 u153 u154 u155 u156 u157 u158 u159 u160 u161 u162 u163 u164 u165 u166 u167 u168 u169 : Value} {va vb vq vr vd vm : Int}
    (la : Lt 3840 va) (lb : Lt 3840 vb) (hz : Hid (vb ≠ 0)) (hq : Hid (TruncDiv va vb vq vr)) (lqb : Lt 3841 (vq * vb)) (lq : Lt 3841 vq) (lr : Lt 3840 vr) (hd : Hid (Floors va vb vd vm)) (ldb : Lt 3841 (vd * vb)) (ld : Lt 3841 vd) (lm : Lt 3840 vm) (hap : ApIs ap vq vd) (hx : ap = false) (hsr : vr.sign = 0)
    (hb : Below w.heap.size w wr) (h0 : w.heap.size ≤ g2)
    (o3 : g2 < g3) (o6 : g3 < g6) (o7 : g6 < g7) (o9 : g7 < g9) (o10 : g9 < g10) (o12 : g10 < g12) (o14 : g12 < g14) (o18 : g14 < g18)
    (b2 : Bx wr g2 (va)) (b3 : Bx wr g3 (vb)) (b6 : Bx wr g6 (vq)) (b7 : Bx wr g7 (vr)) (b9 : Bx wr g9 (vd)) (b10 : Bx wr g10 (vm)) (b12 : Bx wr g12 (vd * vb)) (b14 : Bx wr g14 (vq * vb + vr)) (b18 : Bx wr g18 (vd * vb + vm)) :
    Code.wp Tryd.prog (tail11 16) (Q11 w) ⟨#[u0, u1, .pointer (some ⟨g2, 0, none⟩), .pointer (some ⟨g3, 0, none⟩), u4, .bool true, .pointer (some ⟨g6, 0, none⟩), .pointer (some ⟨g7, 0, none⟩), .int .i64 0, .pointer (some ⟨g9, 0, none⟩), .pointer (some ⟨g10, 0, none⟩), .int .i64 0, .pointer (some ⟨g12, 0, none⟩), .int .i64 0, .pointer (some ⟨g14, 0, none⟩), .int .i64 0, .bool true, .int .i64 0, .pointer (some ⟨g18, 0, none⟩), .int .i64 0, .bool true, .bool true, .bool true, .bool ap, u24, u25, u26, u27, u28, u29, u30, u31, u32, u33, u34, u35, u36, u37, u38, u39, u40, u41, u42, u43, u44, u45, u46, u47, u48, u49, u50, u51, u52, u53, u54, u55, u56, u57, u58, u59, u60, u61, u62, u63, u64, u65, u66, u67, u68, u69, u70, u71, u72, u73, u74, u75, u76, u77, u78, u79, u80, u81, u82, u83, u84, u85, u86, u87, u88, u89, u90, u91, u92, u93, u94, u95, u96, u97, u98, u99, u100, u101, u102, u103, u104, u105, u106, u107, u108, u109, u110, u111, u112, u113, u114, u115, u116, u117, u118, u119, u120, u121, u122, u123, u124, u125, u126, u127, u128, u129, u130, u131, u132, u133, u134, u135, u136, u137, u138, u139, u140, u141, u142, u143, u144, u145, u146, u147, u148, u149, u150, u151, u152, u153, u154, u155, u156, u157, u158, u159, u160, u161, u162, u163, u164, u165, u166, u167, u168, u169], []⟩ wr := by
  subst hx
  have b7' := b7.drew
  obtain ⟨nR, aR, lR, cR, R, hHR, hRR, hER⟩ := b7'
  have HER := hid hER
  have HHR := hid hHR
  clear hER hHR
  have b2' := b2.drew
  obtain ⟨nA, aA, lA, cA, A, hHA, hRA, hEA⟩ := b2'
  have HEA := hid hEA
  have HHA := hid hHA
  clear hEA hHA
  have b3' := b3.drew
  obtain ⟨nB, aB, lB, cB, B, hHB, hRB, hEB⟩ := b3'
  have HEB := hid hEB
  have HHB := hid hHB
  clear hEB hHB
  have hacc : Below wr.heap.size wr wr.drew := (Below.refl _ _).drew
  conv => arg 2; whnf
  go_wp2_with fail
  refine wp_region_noPanic ?_
  refine wp_region_held_drew (S := (fun w' => w'.cell? ⟨g7, 0, none⟩ = some (.bool nR) ∧ w'.cell? ⟨g7, 1, none⟩ = some (.slice aR lR cR) ∧ w'.cell? ⟨g2, 0, none⟩ = some (.bool nA) ∧ w'.cell? ⟨g2, 1, none⟩ = some (.slice aA lA cA) ∧ w'.cell? ⟨g3, 0, none⟩ = some (.bool nB) ∧ w'.cell? ⟨g3, 1, none⟩ = some (.slice aB lB cB))) (by kernel_rfl) (by first | (with_reducible exact ⟨(two_cells HHR.out).1, (two_cells HHR.out).2.1, (two_cells HHA.out).1, (two_cells HHA.out).2.1, (two_cells HHB.out).1, (two_cells HHB.out).2.1⟩) | (dsimp only; with_reducible exact ⟨(two_cells HHR.out).1, (two_cells HHR.out).2.1, (two_cells HHA.out).1, (two_cells HHA.out).2.1, (two_cells HHB.out).1, (two_cells HHB.out).2.1⟩)) (fun hHeld => ?_)
  refine wpAnyH_take (i := 0) (oi := { dst := some 127, op := Op.move (Operand.tmp 5), type := 4, pos := "keeps.go:66", after := #[], guard := none }) (v := ?_) rfl (by kernel_rfl) (by kernel_rfl) (by kernel_rfl) (fun _ _ _ h => h) (Or.inl ⟨by rfl, ?_⟩) (by assumption) ?_
  rotate_left
  · first
      | (intro w5 hSw; (try dsimp only at hSw); go_simp; done)
      | (intro w5 hSw; (try dsimp only at hSw); go_simp; with_reducible rfl)
  try simp only [Act.put, List.setIfInBounds_toArray, List.set_cons_zero, List.set_cons_succ]
  refine wpAnyH_take (i := 1) (oi := { dst := some 128, op := Op.move (Operand.tmp 127), type := 4, pos := "keeps.go:66", after := #[{ on := 0, ground := Ground.data }], guard := none }) (v := ?_) rfl (by kernel_rfl) (by kernel_rfl) (by kernel_rfl) (fun _ _ _ h => h) (Or.inl ⟨by rfl, ?_⟩) (by assumption) ?_
  rotate_left
  · first
      | (intro w5 hSw; (try dsimp only at hSw); go_simp; done)
      | (intro w5 hSw; (try dsimp only at hSw); go_simp; with_reducible rfl)
  try simp only [Act.put, List.setIfInBounds_toArray, List.set_cons_zero, List.set_cons_succ]
  refine wpAnyH_take (i := 2) (oi := { dst := some 129, op := Op.move (Operand.tmp 13), type := 45, pos := "keeps.go:66", after := #[{ on := 1, ground := Ground.guard }], guard := some (1, true) }) (v := ?_) rfl (by kernel_rfl) (by kernel_rfl) (by kernel_rfl) (fun _ _ _ h => h) (Or.inl ⟨by rfl, ?_⟩) (by assumption) ?_
  rotate_left
  · first
      | (intro w5 hSw; (try dsimp only at hSw); go_simp; done)
      | (intro w5 hSw; (try dsimp only at hSw); go_simp; with_reducible rfl)
  try simp only [Act.put, List.setIfInBounds_toArray, List.set_cons_zero, List.set_cons_succ]
  refine wpAnyH_take (i := 3) (oi := { dst := some 130, op := Op.binOp BinOp.eql 45 (Operand.tmp 129) (Operand.const (Value.int IntKind.i64 0)) 45, type := 4, pos := "keeps.go:66", after := #[{ on := 2, ground := Ground.data }, { on := 1, ground := Ground.guard }], guard := some (1, true) }) (v := ?_) rfl (by kernel_rfl) (by kernel_rfl) (by kernel_rfl) (fun _ _ _ h => h) (Or.inl ⟨by rfl, ?_⟩) (by assumption) ?_
  rotate_left
  · first
      | (intro w5 hSw; (try dsimp only at hSw); go_simp; done)
      | (intro w5 hSw; (try dsimp only at hSw); go_simp; with_reducible rfl)
  try simp only [Act.put, List.setIfInBounds_toArray, List.set_cons_zero, List.set_cons_succ]
  refine wpAnyH_take (i := 4) (oi := { dst := some 131, op := Op.pick (Operand.tmp 128) (Operand.tmp 130) (Operand.const (Value.bool false)), type := 4, pos := "keeps.go:66", after := #[{ on := 1, ground := Ground.data }, { on := 3, ground := Ground.data }], guard := none }) (v := ?_) rfl (by kernel_rfl) (by kernel_rfl) (by kernel_rfl) (fun _ _ _ h => h) (Or.inl ⟨by rfl, ?_⟩) (by assumption) ?_
  rotate_left
  · first
      | (intro w5 hSw; (try dsimp only at hSw); go_simp; done)
      | (intro w5 hSw; (try dsimp only at hSw); go_simp; with_reducible rfl)
  try simp only [Act.put, List.setIfInBounds_toArray, List.set_cons_zero, List.set_cons_succ]
  refine wpAnyH_take (i := 5) (oi := { dst := some 132, op := Op.move (Operand.tmp 131), type := 4, pos := "keeps.go:66", after := #[{ on := 4, ground := Ground.data }, { on := 1, ground := Ground.chain }], guard := none }) (v := ?_) rfl (by kernel_rfl) (by kernel_rfl) (by kernel_rfl) (fun _ _ _ h => h) (Or.inl ⟨by rfl, ?_⟩) (by assumption) ?_
  rotate_left
  · first
      | (intro w5 hSw; (try dsimp only at hSw); go_simp; done)
      | (intro w5 hSw; (try dsimp only at hSw); go_simp; with_reducible rfl)
  try simp only [Act.put, List.setIfInBounds_toArray, List.set_cons_zero, List.set_cons_succ]
  refine wpAnyH_take (i := 6) (oi := { dst := some 133, op := Op.move (Operand.tmp 15), type := 45, pos := "keeps.go:66", after := #[{ on := 5, ground := Ground.guard }], guard := some (5, true) }) (v := ?_) rfl (by kernel_rfl) (by kernel_rfl) (by kernel_rfl) (fun _ _ _ h => h) (Or.inl ⟨by rfl, ?_⟩) (by assumption) ?_
  rotate_left
  · first
      | (intro w5 hSw; (try dsimp only at hSw); go_simp; done)
      | (intro w5 hSw; (try dsimp only at hSw); go_simp; with_reducible rfl)
  try simp only [Act.put, List.setIfInBounds_toArray, List.set_cons_zero, List.set_cons_succ]
  refine wpAnyH_take (i := 7) (oi := { dst := some 134, op := Op.binOp BinOp.eql 45 (Operand.tmp 133) (Operand.const (Value.int IntKind.i64 0)) 45, type := 4, pos := "keeps.go:66", after := #[{ on := 6, ground := Ground.data }, { on := 5, ground := Ground.guard }], guard := some (5, true) }) (v := ?_) rfl (by kernel_rfl) (by kernel_rfl) (by kernel_rfl) (fun _ _ _ h => h) (Or.inl ⟨by rfl, ?_⟩) (by assumption) ?_
  rotate_left
  · first
      | (intro w5 hSw; (try dsimp only at hSw); go_simp; done)
      | (intro w5 hSw; (try dsimp only at hSw); go_simp; with_reducible rfl)
  try simp only [Act.put, List.setIfInBounds_toArray, List.set_cons_zero, List.set_cons_succ]
  refine wpAnyH_take (i := 8) (oi := { dst := some 135, op := Op.pick (Operand.tmp 132) (Operand.tmp 134) (Operand.const (Value.bool false)), type := 4, pos := "keeps.go:66", after := #[{ on := 5, ground := Ground.data }, { on := 7, ground := Ground.data }], guard := none }) (v := ?_) rfl (by kernel_rfl) (by kernel_rfl) (by kernel_rfl) (fun _ _ _ h => h) (Or.inl ⟨by rfl, ?_⟩) (by assumption) ?_
  rotate_left
  · first
      | (intro w5 hSw; (try dsimp only at hSw); go_simp; done)
      | (intro w5 hSw; (try dsimp only at hSw); go_simp; with_reducible rfl)
  try simp only [Act.put, List.setIfInBounds_toArray, List.set_cons_zero, List.set_cons_succ]
  refine wpAnyH_take (i := 9) (oi := { dst := some 136, op := Op.move (Operand.tmp 135), type := 4, pos := "keeps.go:66", after := #[{ on := 8, ground := Ground.data }, { on := 5, ground := Ground.chain }], guard := none }) (v := ?_) rfl (by kernel_rfl) (by kernel_rfl) (by kernel_rfl) (fun _ _ _ h => h) (Or.inl ⟨by rfl, ?_⟩) (by assumption) ?_
  rotate_left
  · first
      | (intro w5 hSw; (try dsimp only at hSw); go_simp; done)
      | (intro w5 hSw; (try dsimp only at hSw); go_simp; with_reducible rfl)
  try simp only [Act.put, List.setIfInBounds_toArray, List.set_cons_zero, List.set_cons_succ]
  refine wpAnyH_take (i := 10) (oi := { dst := some 137, op := Op.move (Operand.tmp 17), type := 45, pos := "keeps.go:66", after := #[{ on := 9, ground := Ground.guard }], guard := some (9, true) }) (v := ?_) rfl (by kernel_rfl) (by kernel_rfl) (by kernel_rfl) (fun _ _ _ h => h) (Or.inl ⟨by rfl, ?_⟩) (by assumption) ?_
  rotate_left
  · first
      | (intro w5 hSw; (try dsimp only at hSw); go_simp; done)
      | (intro w5 hSw; (try dsimp only at hSw); go_simp; with_reducible rfl)
  try simp only [Act.put, List.setIfInBounds_toArray, List.set_cons_zero, List.set_cons_succ]
  refine wpAnyH_take (i := 11) (oi := { dst := some 138, op := Op.binOp BinOp.eql 45 (Operand.tmp 137) (Operand.const (Value.int IntKind.i64 0)) 45, type := 4, pos := "keeps.go:66", after := #[{ on := 10, ground := Ground.data }, { on := 9, ground := Ground.guard }], guard := some (9, true) }) (v := ?_) rfl (by kernel_rfl) (by kernel_rfl) (by kernel_rfl) (fun _ _ _ h => h) (Or.inl ⟨by rfl, ?_⟩) (by assumption) ?_
  rotate_left
  · first
      | (intro w5 hSw; (try dsimp only at hSw); go_simp; done)
      | (intro w5 hSw; (try dsimp only at hSw); go_simp; with_reducible rfl)
  try simp only [Act.put, List.setIfInBounds_toArray, List.set_cons_zero, List.set_cons_succ]
  refine wpAnyH_take (i := 12) (oi := { dst := some 139, op := Op.pick (Operand.tmp 136) (Operand.tmp 138) (Operand.const (Value.bool false)), type := 4, pos := "keeps.go:66", after := #[{ on := 9, ground := Ground.data }, { on := 11, ground := Ground.data }], guard := none }) (v := ?_) rfl (by kernel_rfl) (by kernel_rfl) (by kernel_rfl) (fun _ _ _ h => h) (Or.inl ⟨by rfl, ?_⟩) (by assumption) ?_
  rotate_left
  · first
      | (intro w5 hSw; (try dsimp only at hSw); go_simp; done)
      | (intro w5 hSw; (try dsimp only at hSw); go_simp; with_reducible rfl)
  try simp only [Act.put, List.setIfInBounds_toArray, List.set_cons_zero, List.set_cons_succ]
  refine wpAnyH_take (i := 13) (oi := { dst := some 140, op := Op.move (Operand.tmp 139), type := 4, pos := "keeps.go:66", after := #[{ on := 12, ground := Ground.data }, { on := 9, ground := Ground.chain }], guard := none }) (v := ?_) rfl (by kernel_rfl) (by kernel_rfl) (by kernel_rfl) (fun _ _ _ h => h) (Or.inl ⟨by rfl, ?_⟩) (by assumption) ?_
  rotate_left
  · first
      | (intro w5 hSw; (try dsimp only at hSw); go_simp; done)
      | (intro w5 hSw; (try dsimp only at hSw); go_simp; with_reducible rfl)
  try simp only [Act.put, List.setIfInBounds_toArray, List.set_cons_zero, List.set_cons_succ]
  refine wpAnyH_take (i := 14) (oi := { dst := some 141, op := Op.move (Operand.tmp 19), type := 45, pos := "keeps.go:66", after := #[{ on := 13, ground := Ground.guard }], guard := some (13, true) }) (v := ?_) rfl (by kernel_rfl) (by kernel_rfl) (by kernel_rfl) (fun _ _ _ h => h) (Or.inl ⟨by rfl, ?_⟩) (by assumption) ?_
  rotate_left
  · first
      | (intro w5 hSw; (try dsimp only at hSw); go_simp; done)
      | (intro w5 hSw; (try dsimp only at hSw); go_simp; with_reducible rfl)
  try simp only [Act.put, List.setIfInBounds_toArray, List.set_cons_zero, List.set_cons_succ]
  refine wpAnyH_take (i := 15) (oi := { dst := some 142, op := Op.binOp BinOp.eql 45 (Operand.tmp 141) (Operand.const (Value.int IntKind.i64 0)) 45, type := 4, pos := "keeps.go:66", after := #[{ on := 14, ground := Ground.data }, { on := 13, ground := Ground.guard }], guard := some (13, true) }) (v := ?_) rfl (by kernel_rfl) (by kernel_rfl) (by kernel_rfl) (fun _ _ _ h => h) (Or.inl ⟨by rfl, ?_⟩) (by assumption) ?_
  rotate_left
  · first
      | (intro w5 hSw; (try dsimp only at hSw); go_simp; done)
      | (intro w5 hSw; (try dsimp only at hSw); go_simp; with_reducible rfl)
  try simp only [Act.put, List.setIfInBounds_toArray, List.set_cons_zero, List.set_cons_succ]
  refine wpAnyH_take (i := 16) (oi := { dst := some 143, op := Op.pick (Operand.tmp 140) (Operand.tmp 142) (Operand.const (Value.bool false)), type := 4, pos := "keeps.go:66", after := #[{ on := 13, ground := Ground.data }, { on := 15, ground := Ground.data }], guard := none }) (v := ?_) rfl (by kernel_rfl) (by kernel_rfl) (by kernel_rfl) (fun _ _ _ h => h) (Or.inl ⟨by rfl, ?_⟩) (by assumption) ?_
  rotate_left
  · first
      | (intro w5 hSw; (try dsimp only at hSw); go_simp; done)
      | (intro w5 hSw; (try dsimp only at hSw); go_simp; with_reducible rfl)
  try simp only [Act.put, List.setIfInBounds_toArray, List.set_cons_zero, List.set_cons_succ]
  refine wpAnyH_take (i := 17) (oi := { dst := some 144, op := Op.move (Operand.tmp 143), type := 4, pos := "keeps.go:66", after := #[{ on := 16, ground := Ground.data }, { on := 13, ground := Ground.chain }], guard := none }) (v := ?_) rfl (by kernel_rfl) (by kernel_rfl) (by kernel_rfl) (fun _ _ _ h => h) (Or.inl ⟨by rfl, ?_⟩) (by assumption) ?_
  rotate_left
  · first
      | (intro w5 hSw; (try dsimp only at hSw); go_simp; done)
      | (intro w5 hSw; (try dsimp only at hSw); go_simp; with_reducible rfl)
  try simp only [Act.put, List.setIfInBounds_toArray, List.set_cons_zero, List.set_cons_succ]
  refine wpAnyH_take (i := 18) (oi := { dst := some 145, op := Op.move (Operand.tmp 16), type := 4, pos := "keeps.go:66", after := #[{ on := 17, ground := Ground.guard }], guard := some (17, true) }) (v := ?_) rfl (by kernel_rfl) (by kernel_rfl) (by kernel_rfl) (fun _ _ _ h => h) (Or.inl ⟨by rfl, ?_⟩) (by assumption) ?_
  rotate_left
  · first
      | (intro w5 hSw; (try dsimp only at hSw); go_simp; done)
      | (intro w5 hSw; (try dsimp only at hSw); go_simp; with_reducible rfl)
  try simp only [Act.put, List.setIfInBounds_toArray, List.set_cons_zero, List.set_cons_succ]
  refine wpAnyH_take (i := 19) (oi := { dst := some 146, op := Op.pick (Operand.tmp 144) (Operand.tmp 145) (Operand.const (Value.bool false)), type := 4, pos := "keeps.go:66", after := #[{ on := 17, ground := Ground.data }, { on := 18, ground := Ground.data }], guard := none }) (v := ?_) rfl (by kernel_rfl) (by kernel_rfl) (by kernel_rfl) (fun _ _ _ h => h) (Or.inl ⟨by rfl, ?_⟩) (by assumption) ?_
  rotate_left
  · first
      | (intro w5 hSw; (try dsimp only at hSw); go_simp; done)
      | (intro w5 hSw; (try dsimp only at hSw); go_simp; with_reducible rfl)
  try simp only [Act.put, List.setIfInBounds_toArray, List.set_cons_zero, List.set_cons_succ]
  refine wpAnyH_take (i := 20) (oi := { dst := some 147, op := Op.move (Operand.tmp 146), type := 4, pos := "keeps.go:66", after := #[{ on := 19, ground := Ground.data }, { on := 17, ground := Ground.chain }], guard := none }) (v := ?_) rfl (by kernel_rfl) (by kernel_rfl) (by kernel_rfl) (fun _ _ _ h => h) (Or.inl ⟨by rfl, ?_⟩) (by assumption) ?_
  rotate_left
  · first
      | (intro w5 hSw; (try dsimp only at hSw); go_simp; done)
      | (intro w5 hSw; (try dsimp only at hSw); go_simp; with_reducible rfl)
  try simp only [Act.put, List.setIfInBounds_toArray, List.set_cons_zero, List.set_cons_succ]
  refine wpAnyH_take (i := 21) (oi := { dst := some 148, op := Op.move (Operand.tmp 20), type := 4, pos := "keeps.go:66", after := #[{ on := 20, ground := Ground.guard }], guard := some (20, true) }) (v := ?_) rfl (by kernel_rfl) (by kernel_rfl) (by kernel_rfl) (fun _ _ _ h => h) (Or.inl ⟨by rfl, ?_⟩) (by assumption) ?_
  rotate_left
  · first
      | (intro w5 hSw; (try dsimp only at hSw); go_simp; done)
      | (intro w5 hSw; (try dsimp only at hSw); go_simp; with_reducible rfl)
  try simp only [Act.put, List.setIfInBounds_toArray, List.set_cons_zero, List.set_cons_succ]
  refine wpAnyH_take (i := 22) (oi := { dst := some 149, op := Op.pick (Operand.tmp 147) (Operand.tmp 148) (Operand.const (Value.bool false)), type := 4, pos := "keeps.go:66", after := #[{ on := 20, ground := Ground.data }, { on := 21, ground := Ground.data }], guard := none }) (v := ?_) rfl (by kernel_rfl) (by kernel_rfl) (by kernel_rfl) (fun _ _ _ h => h) (Or.inl ⟨by rfl, ?_⟩) (by assumption) ?_
  rotate_left
  · first
      | (intro w5 hSw; (try dsimp only at hSw); go_simp; done)
      | (intro w5 hSw; (try dsimp only at hSw); go_simp; with_reducible rfl)
  try simp only [Act.put, List.setIfInBounds_toArray, List.set_cons_zero, List.set_cons_succ]
  refine wpAnyH_take (i := 23) (oi := { dst := some 150, op := Op.move (Operand.tmp 149), type := 4, pos := "keeps.go:66", after := #[{ on := 22, ground := Ground.data }, { on := 20, ground := Ground.chain }], guard := none }) (v := ?_) rfl (by kernel_rfl) (by kernel_rfl) (by kernel_rfl) (fun _ _ _ h => h) (Or.inl ⟨by rfl, ?_⟩) (by assumption) ?_
  rotate_left
  · first
      | (intro w5 hSw; (try dsimp only at hSw); go_simp; done)
      | (intro w5 hSw; (try dsimp only at hSw); go_simp; with_reducible rfl)
  try simp only [Act.put, List.setIfInBounds_toArray, List.set_cons_zero, List.set_cons_succ]
  refine wpAnyH_take (i := 24) (oi := { dst := some 151, op := Op.move (Operand.tmp 21), type := 4, pos := "keeps.go:66", after := #[{ on := 23, ground := Ground.guard }], guard := some (23, true) }) (v := ?_) rfl (by kernel_rfl) (by kernel_rfl) (by kernel_rfl) (fun _ _ _ h => h) (Or.inl ⟨by rfl, ?_⟩) (by assumption) ?_
  rotate_left
  · first
      | (intro w5 hSw; (try dsimp only at hSw); go_simp; done)
      | (intro w5 hSw; (try dsimp only at hSw); go_simp; with_reducible rfl)
  try simp only [Act.put, List.setIfInBounds_toArray, List.set_cons_zero, List.set_cons_succ]
  refine wpAnyH_take (i := 25) (oi := { dst := some 152, op := Op.pick (Operand.tmp 150) (Operand.tmp 151) (Operand.const (Value.bool false)), type := 4, pos := "keeps.go:66", after := #[{ on := 23, ground := Ground.data }, { on := 24, ground := Ground.data }], guard := none }) (v := ?_) rfl (by kernel_rfl) (by kernel_rfl) (by kernel_rfl) (fun _ _ _ h => h) (Or.inl ⟨by rfl, ?_⟩) (by assumption) ?_
  rotate_left
  · first
      | (intro w5 hSw; (try dsimp only at hSw); go_simp; done)
      | (intro w5 hSw; (try dsimp only at hSw); go_simp; with_reducible rfl)
  try simp only [Act.put, List.setIfInBounds_toArray, List.set_cons_zero, List.set_cons_succ]
  refine wpAnyH_take (i := 26) (oi := { dst := some 153, op := Op.move (Operand.tmp 152), type := 4, pos := "keeps.go:66", after := #[{ on := 25, ground := Ground.data }, { on := 23, ground := Ground.chain }], guard := none }) (v := ?_) rfl (by kernel_rfl) (by kernel_rfl) (by kernel_rfl) (fun _ _ _ h => h) (Or.inl ⟨by rfl, ?_⟩) (by assumption) ?_
  rotate_left
  · first
      | (intro w5 hSw; (try dsimp only at hSw); go_simp; done)
      | (intro w5 hSw; (try dsimp only at hSw); go_simp; with_reducible rfl)
  try simp only [Act.put, List.setIfInBounds_toArray, List.set_cons_zero, List.set_cons_succ]
  refine wpAnyH_take (i := 27) (oi := { dst := some 154, op := Op.move (Operand.tmp 22), type := 4, pos := "keeps.go:66", after := #[{ on := 26, ground := Ground.guard }], guard := some (26, true) }) (v := ?_) rfl (by kernel_rfl) (by kernel_rfl) (by kernel_rfl) (fun _ _ _ h => h) (Or.inl ⟨by rfl, ?_⟩) (by assumption) ?_
  rotate_left
  · first
      | (intro w5 hSw; (try dsimp only at hSw); go_simp; done)
      | (intro w5 hSw; (try dsimp only at hSw); go_simp; with_reducible rfl)
  try simp only [Act.put, List.setIfInBounds_toArray, List.set_cons_zero, List.set_cons_succ]
  refine wpAnyH_take (i := 28) (oi := { dst := some 155, op := Op.pick (Operand.tmp 153) (Operand.tmp 154) (Operand.const (Value.bool false)), type := 4, pos := "keeps.go:66", after := #[{ on := 26, ground := Ground.data }, { on := 27, ground := Ground.data }], guard := none }) (v := ?_) rfl (by kernel_rfl) (by kernel_rfl) (by kernel_rfl) (fun _ _ _ h => h) (Or.inl ⟨by rfl, ?_⟩) (by assumption) ?_
  rotate_left
  · first
      | (intro w5 hSw; (try dsimp only at hSw); go_simp; done)
      | (intro w5 hSw; (try dsimp only at hSw); go_simp; with_reducible rfl)
  try simp only [Act.put, List.setIfInBounds_toArray, List.set_cons_zero, List.set_cons_succ]
  refine wpAnyH_take (i := 29) (oi := { dst := some 156, op := Op.move (Operand.tmp 155), type := 4, pos := "keeps.go:66", after := #[{ on := 28, ground := Ground.data }, { on := 26, ground := Ground.chain }], guard := none }) (v := ?_) rfl (by kernel_rfl) (by kernel_rfl) (by kernel_rfl) (fun _ _ _ h => h) (Or.inl ⟨by rfl, ?_⟩) (by assumption) ?_
  rotate_left
  · first
      | (intro w5 hSw; (try dsimp only at hSw); go_simp; done)
      | (intro w5 hSw; (try dsimp only at hSw); go_simp; with_reducible rfl)
  try simp only [Act.put, List.setIfInBounds_toArray, List.set_cons_zero, List.set_cons_succ]
  refine wpAnyH_take (i := 30) (oi := { dst := some 157, op := Op.move (Operand.tmp 23), type := 4, pos := "keeps.go:66", after := #[{ on := 29, ground := Ground.guard }], guard := some (29, true) }) (v := ?_) rfl (by kernel_rfl) (by kernel_rfl) (by kernel_rfl) (fun _ _ _ h => h) (Or.inl ⟨by rfl, ?_⟩) (by assumption) ?_
  rotate_left
  · first
      | (intro w5 hSw; (try dsimp only at hSw); go_simp; done)
      | (intro w5 hSw; (try dsimp only at hSw); go_simp; with_reducible rfl)
  try simp only [Act.put, List.setIfInBounds_toArray, List.set_cons_zero, List.set_cons_succ]
  refine wpAnyH_take (i := 31) (oi := { dst := some 158, op := Op.load 24 (Operand.tmp 7), type := 24, pos := "keeps.go:66", after := #[{ on := 29, ground := Ground.guard }], guard := some (29, true) }) (v := ?_) rfl (by kernel_rfl) (by kernel_rfl) (by kernel_rfl) (fun _ _ _ h => h) (Or.inl ⟨by rfl, ?_⟩) (by assumption) ?_
  rotate_left
  · first
      | (intro w5 hSw; (try dsimp only at hSw); go_simp; done)
      | (intro w5 hSw; (try dsimp only at hSw); go_simp; with_reducible rfl)
  try simp only [Act.put, List.setIfInBounds_toArray, List.set_cons_zero, List.set_cons_succ]
  refine wpAnyH_ready (rs := [32]) (by kernel_rfl) (by simp) ?_
  refine AllReadyH.cons (o := { dst := some 159, op := Op.call { callee := Callee.value (Operand.func 28), args := #[Operand.tmp 158], argTypes := #[24] }, type := 3, pos := "keeps.go:66", after := #[{ on := 31, ground := Ground.data }, { on := 29, ground := Ground.chain }, { on := 29, ground := Ground.guard }], guard := some (29, true) }) rfl (fun K hK => ?_) AllReadyH.nil
  go_simp
  ((with_reducible refine (sign_any nR aR lR cR R _ hRR).mono ?_); rintro e w5 ⟨rfl, hw5⟩; rw [HER.out, hsr]; have hbk := below_new hw5; clear hw5; have hRR := hRR.keep hbk; have HHR := hid (heap_keep HHR.out hbk); have hRA := hRA.keep hbk; have HHA := hid (heap_keep HHA.out hbk); have hRB := hRB.keep hbk; have HHB := hid (heap_keep HHB.out hbk); have hacc := hacc.trans (hbk.mono hacc.size))
  go_wp2_with fail
  refine hK.out _ _ ?_ (fun hHeld => ?_)
  · first
      | (with_reducible exact ⟨(two_cells HHR.out).1, (two_cells HHR.out).2.1, (two_cells HHA.out).1, (two_cells HHA.out).2.1, (two_cells HHB.out).1, (two_cells HHB.out).2.1⟩)
      | (dsimp only; with_reducible exact ⟨(two_cells HHR.out).1, (two_cells HHR.out).2.1, (two_cells HHA.out).1, (two_cells HHA.out).2.1, (two_cells HHB.out).1, (two_cells HHB.out).2.1⟩)
  clear hK K
  refine wpAnyH_take (i := 33) (oi := { dst := some 160, op := Op.binOp BinOp.neq 3 (Operand.tmp 159) (Operand.const (Value.int IntKind.i64 0)) 3, type := 4, pos := "keeps.go:66", after := #[{ on := 32, ground := Ground.data }, { on := 29, ground := Ground.guard }], guard := some (29, true) }) (v := ?_) rfl (by kernel_rfl) (by kernel_rfl) (by kernel_rfl) (fun _ _ _ h => h) (Or.inl ⟨by rfl, ?_⟩) (by assumption) ?_
  rotate_left
  · first
      | (intro w5 hSw; (try dsimp only at hSw); go_simp; done)
      | (intro w5 hSw; (try dsimp only at hSw); go_simp; with_reducible rfl)
  try simp only [Act.put, List.setIfInBounds_toArray, List.set_cons_zero, List.set_cons_succ]
  refine wpAnyH_take (i := 34) (oi := { dst := some 161, op := Op.move (Operand.tmp 160), type := 4, pos := "keeps.go:66", after := #[{ on := 33, ground := Ground.data }, { on := 32, ground := Ground.chain }, { on := 29, ground := Ground.guard }], guard := some (29, true) }) (v := ?_) rfl (by kernel_rfl) (by kernel_rfl) (by kernel_rfl) (fun _ _ _ h => h) (Or.inl ⟨by rfl, ?_⟩) (by assumption) ?_
  rotate_left
  · first
      | (intro w5 hSw; (try dsimp only at hSw); go_simp; done)
      | (intro w5 hSw; (try dsimp only at hSw); go_simp; with_reducible rfl)
  try simp only [Act.put, List.setIfInBounds_toArray, List.set_cons_zero, List.set_cons_succ]
  refine wpAnyH_take (i := 35) (oi := { dst := some 162, op := Op.load 24 (Operand.tmp 2), type := 24, pos := "keeps.go:66", after := #[{ on := 34, ground := Ground.guard }], guard := some (34, true) }) (v := undef) rfl (by kernel_rfl) (by kernel_rfl) (by kernel_rfl) (fun _ _ _ h => h) (Or.inr ⟨by rfl, rfl⟩) (by assumption) ?_
  try simp only [Act.put, List.setIfInBounds_toArray, List.set_cons_zero, List.set_cons_succ]
  refine wpAnyH_take (i := 36) (oi := { dst := some 163, op := Op.call { callee := Callee.value (Operand.func 28), args := #[Operand.tmp 162], argTypes := #[24] }, type := 3, pos := "keeps.go:66", after := #[{ on := 35, ground := Ground.data }, { on := 34, ground := Ground.chain }, { on := 34, ground := Ground.guard }], guard := some (34, true) }) (v := undef) rfl (by kernel_rfl) (by kernel_rfl) (by kernel_rfl) (fun _ _ _ h => h) (Or.inr ⟨by rfl, rfl⟩) (by assumption) ?_
  try simp only [Act.put, List.setIfInBounds_toArray, List.set_cons_zero, List.set_cons_succ]
  refine wpAnyH_take (i := 37) (oi := { dst := some 164, op := Op.load 24 (Operand.tmp 3), type := 24, pos := "keeps.go:66", after := #[{ on := 34, ground := Ground.guard }], guard := some (34, true) }) (v := undef) rfl (by kernel_rfl) (by kernel_rfl) (by kernel_rfl) (fun _ _ _ h => h) (Or.inr ⟨by rfl, rfl⟩) (by assumption) ?_
  try simp only [Act.put, List.setIfInBounds_toArray, List.set_cons_zero, List.set_cons_succ]
  refine wpAnyH_take (i := 38) (oi := { dst := some 165, op := Op.call { callee := Callee.value (Operand.func 28), args := #[Operand.tmp 164], argTypes := #[24] }, type := 3, pos := "keeps.go:66", after := #[{ on := 37, ground := Ground.data }, { on := 36, ground := Ground.chain }, { on := 34, ground := Ground.guard }], guard := some (34, true) }) (v := undef) rfl (by kernel_rfl) (by kernel_rfl) (by kernel_rfl) (fun _ _ _ h => h) (Or.inr ⟨by rfl, rfl⟩) (by assumption) ?_
  try simp only [Act.put, List.setIfInBounds_toArray, List.set_cons_zero, List.set_cons_succ]
  refine wpAnyH_take (i := 39) (oi := { dst := some 166, op := Op.binOp BinOp.neq 3 (Operand.tmp 163) (Operand.tmp 165) 3, type := 4, pos := "keeps.go:66", after := #[{ on := 36, ground := Ground.data }, { on := 38, ground := Ground.data }, { on := 34, ground := Ground.guard }], guard := some (34, true) }) (v := undef) rfl (by kernel_rfl) (by kernel_rfl) (by kernel_rfl) (fun _ _ _ h => h) (Or.inr ⟨by rfl, rfl⟩) (by assumption) ?_
  try simp only [Act.put, List.setIfInBounds_toArray, List.set_cons_zero, List.set_cons_succ]
  refine wpAnyH_take (i := 40) (oi := { dst := some 167, op := Op.pick (Operand.tmp 161) (Operand.tmp 166) (Operand.const (Value.bool false)), type := 4, pos := "keeps.go:66", after := #[{ on := 34, ground := Ground.data }, { on := 39, ground := Ground.data }, { on := 29, ground := Ground.guard }], guard := some (29, true) }) (v := ?_) rfl (by kernel_rfl) (by kernel_rfl) (by kernel_rfl) (fun _ _ _ h => h) (Or.inl ⟨by rfl, ?_⟩) (by assumption) ?_
  rotate_left
  · first
      | (intro w5 hSw; (try dsimp only at hSw); go_simp; done)
      | (intro w5 hSw; (try dsimp only at hSw); go_simp; with_reducible rfl)
  try simp only [Act.put, List.setIfInBounds_toArray, List.set_cons_zero, List.set_cons_succ]
  refine wpAnyH_take (i := 41) (oi := { dst := some 168, op := Op.binOp BinOp.eql 4 (Operand.tmp 157) (Operand.tmp 167) 4, type := 4, pos := "keeps.go:66", after := #[{ on := 30, ground := Ground.data }, { on := 40, ground := Ground.data }, { on := 29, ground := Ground.guard }], guard := some (29, true) }) (v := ?_) rfl (by kernel_rfl) (by kernel_rfl) (by kernel_rfl) (fun _ _ _ h => h) (Or.inl ⟨by rfl, ?_⟩) (by assumption) ?_
  rotate_left
  · first
      | (intro w5 hSw; (try dsimp only at hSw); go_simp; done)
      | (intro w5 hSw; (try dsimp only at hSw); go_simp; with_reducible rfl)
  try simp only [Act.put, List.setIfInBounds_toArray, List.set_cons_zero, List.set_cons_succ]
  refine wpAnyH_take (i := 42) (oi := { dst := some 169, op := Op.pick (Operand.tmp 156) (Operand.tmp 168) (Operand.const (Value.bool false)), type := 4, pos := "keeps.go:66", after := #[{ on := 29, ground := Ground.data }, { on := 41, ground := Ground.data }], guard := none }) (v := ?_) rfl (by kernel_rfl) (by kernel_rfl) (by kernel_rfl) (fun _ _ _ h => h) (Or.inl ⟨by rfl, ?_⟩) (by assumption) ?_
  rotate_left
  · first
      | (intro w5 hSw; (try dsimp only at hSw); go_simp; done)
      | (intro w5 hSw; (try dsimp only at hSw); go_simp; with_reducible rfl)
  try simp only [Act.put, List.setIfInBounds_toArray, List.set_cons_zero, List.set_cons_succ]
  refine wpAnyH_take (i := 43) (oi := { dst := some 4, op := Op.assign (Operand.tmp 169), type := 4, pos := "keeps.go:66", after := #[{ on := 42, ground := Ground.data }, { on := 38, ground := Ground.chain }, { on := 0, ground := Ground.phase }, { on := 1, ground := Ground.phase }, { on := 2, ground := Ground.phase }, { on := 3, ground := Ground.phase }, { on := 4, ground := Ground.phase }, { on := 5, ground := Ground.phase }, { on := 6, ground := Ground.phase }, { on := 7, ground := Ground.phase }, { on := 8, ground := Ground.phase }, { on := 9, ground := Ground.phase }, { on := 10, ground := Ground.phase }, { on := 11, ground := Ground.phase }, { on := 12, ground := Ground.phase }, { on := 13, ground := Ground.phase }, { on := 14, ground := Ground.phase }, { on := 15, ground := Ground.phase }, { on := 16, ground := Ground.phase }, { on := 17, ground := Ground.phase }, { on := 18, ground := Ground.phase }, { on := 19, ground := Ground.phase }, { on := 20, ground := Ground.phase }, { on := 21, ground := Ground.phase }, { on := 22, ground := Ground.phase }, { on := 23, ground := Ground.phase }, { on := 24, ground := Ground.phase }, { on := 25, ground := Ground.phase }, { on := 26, ground := Ground.phase }, { on := 27, ground := Ground.phase }, { on := 28, ground := Ground.phase }, { on := 29, ground := Ground.phase }, { on := 30, ground := Ground.phase }, { on := 31, ground := Ground.phase }, { on := 32, ground := Ground.phase }, { on := 33, ground := Ground.phase }, { on := 34, ground := Ground.phase }, { on := 35, ground := Ground.phase }, { on := 36, ground := Ground.phase }, { on := 37, ground := Ground.phase }, { on := 38, ground := Ground.phase }, { on := 39, ground := Ground.phase }, { on := 40, ground := Ground.phase }, { on := 41, ground := Ground.phase }, { on := 42, ground := Ground.phase }], guard := none }) (v := ?_) rfl (by kernel_rfl) (by kernel_rfl) (by kernel_rfl) (fun _ _ _ h => h) (Or.inl ⟨by rfl, ?_⟩) (by assumption) ?_
  rotate_left
  · first
      | (intro w5 hSw; (try dsimp only at hSw); go_simp; done)
      | (intro w5 hSw; (try dsimp only at hSw); go_simp; with_reducible rfl)
  try simp only [Act.put, List.setIfInBounds_toArray, List.set_cons_zero, List.set_cons_succ]
  refine wpAnyH_done (by kernel_rfl) ?_ _
  refine NoPanic.normal ?_
  go_wp2
  unfold Q11
  go_ret
  exact ⟨rfl, hb.trans (hacc.mono hb.size)⟩

set_option maxRecDepth 100000 in
set_option maxHeartbeats 20000000 in
theorem PN_16_c1 {ap : Bool} {w wr : World} {g2 g3 g6 g7 g9 g10 g12 g14 g18 : Nat} {u0 u1 u4 u24 u25 u26 u27 u28 u29 u30 u31 u32 u33 u34 u35 u36 u37 u38 u39 u40 u41 u42 u43 u44 u45 u46 u47 u48 u49 u50 u51 u52 u53 u54 u55 u56 u57 u58 u59 u60 u61 u62 u63 u64 u65 u66 u67 u68 u69 u70 u71 u72 u73 u74 u75 u76 u77 u78 u79 u80 u81 u82 u83 u84 u85 u86 u87 u88 u89 u90 u91 u92 u93 u94 u95 u96 u97 u98 u99 u100 u101 u102 u103 u104 u105 u106 u107 u108 u109 u110 u111 u112 u113 u114 u115 u116 u117 u118 u119 u120 u121 u122 u123 u124 u125 u126 u127 u128 u129 u130 u131 u132 u133 u134 u135 u136 u137 u138 u139 u140 u141 u142 u143 u144 u145 u146 u147 u148 u149 u150 u151 u152 u153 u154 u155 u156 u157 u158 u159 u160 u161 u162 u163 u164 u165 u166 u167 u168 u169 : Value} {va vb vq vr vd vm : Int}
    (la : Lt 3840 va) (lb : Lt 3840 vb) (hz : Hid (vb ≠ 0)) (hq : Hid (TruncDiv va vb vq vr)) (lqb : Lt 3841 (vq * vb)) (lq : Lt 3841 vq) (lr : Lt 3840 vr) (hd : Hid (Floors va vb vd vm)) (ldb : Lt 3841 (vd * vb)) (ld : Lt 3841 vd) (lm : Lt 3840 vm) (hap : ApIs ap vq vd) (hx : ap = false) (hsr : vr.sign = 1) (hsa : va.sign = 1) (hsb : vb.sign = 1)
    (hb : Below w.heap.size w wr) (h0 : w.heap.size ≤ g2)
    (o3 : g2 < g3) (o6 : g3 < g6) (o7 : g6 < g7) (o9 : g7 < g9) (o10 : g9 < g10) (o12 : g10 < g12) (o14 : g12 < g14) (o18 : g14 < g18)
    (b2 : Bx wr g2 (va)) (b3 : Bx wr g3 (vb)) (b6 : Bx wr g6 (vq)) (b7 : Bx wr g7 (vr)) (b9 : Bx wr g9 (vd)) (b10 : Bx wr g10 (vm)) (b12 : Bx wr g12 (vd * vb)) (b14 : Bx wr g14 (vq * vb + vr)) (b18 : Bx wr g18 (vd * vb + vm)) :
    Code.wp Tryd.prog (tail11 16) (Q11 w) ⟨#[u0, u1, .pointer (some ⟨g2, 0, none⟩), .pointer (some ⟨g3, 0, none⟩), u4, .bool true, .pointer (some ⟨g6, 0, none⟩), .pointer (some ⟨g7, 0, none⟩), .int .i64 0, .pointer (some ⟨g9, 0, none⟩), .pointer (some ⟨g10, 0, none⟩), .int .i64 0, .pointer (some ⟨g12, 0, none⟩), .int .i64 0, .pointer (some ⟨g14, 0, none⟩), .int .i64 0, .bool true, .int .i64 0, .pointer (some ⟨g18, 0, none⟩), .int .i64 0, .bool true, .bool true, .bool true, .bool ap, u24, u25, u26, u27, u28, u29, u30, u31, u32, u33, u34, u35, u36, u37, u38, u39, u40, u41, u42, u43, u44, u45, u46, u47, u48, u49, u50, u51, u52, u53, u54, u55, u56, u57, u58, u59, u60, u61, u62, u63, u64, u65, u66, u67, u68, u69, u70, u71, u72, u73, u74, u75, u76, u77, u78, u79, u80, u81, u82, u83, u84, u85, u86, u87, u88, u89, u90, u91, u92, u93, u94, u95, u96, u97, u98, u99, u100, u101, u102, u103, u104, u105, u106, u107, u108, u109, u110, u111, u112, u113, u114, u115, u116, u117, u118, u119, u120, u121, u122, u123, u124, u125, u126, u127, u128, u129, u130, u131, u132, u133, u134, u135, u136, u137, u138, u139, u140, u141, u142, u143, u144, u145, u146, u147, u148, u149, u150, u151, u152, u153, u154, u155, u156, u157, u158, u159, u160, u161, u162, u163, u164, u165, u166, u167, u168, u169], []⟩ wr := by
  subst hx
  have b7' := b7.drew
  obtain ⟨nR, aR, lR, cR, R, hHR, hRR, hER⟩ := b7'
  have HER := hid hER
  have HHR := hid hHR
  clear hER hHR
  have b2' := b2.drew
  obtain ⟨nA, aA, lA, cA, A, hHA, hRA, hEA⟩ := b2'
  have HEA := hid hEA
  have HHA := hid hHA
  clear hEA hHA
  have b3' := b3.drew
  obtain ⟨nB, aB, lB, cB, B, hHB, hRB, hEB⟩ := b3'
  have HEB := hid hEB
  have HHB := hid hHB
  clear hEB hHB
  have hacc : Below wr.heap.size wr wr.drew := (Below.refl _ _).drew
  conv => arg 2; whnf
  go_wp2_with fail
  (first | go_region_held3 (fun w' => w'.cell? ⟨g7, 0, none⟩ = some (.bool nR) ∧ w'.cell? ⟨g7, 1, none⟩ = some (.slice aR lR cR) ∧ w'.cell? ⟨g2, 0, none⟩ = some (.bool nA) ∧ w'.cell? ⟨g2, 1, none⟩ = some (.slice aA lA cA) ∧ w'.cell? ⟨g3, 0, none⟩ = some (.bool nB) ∧ w'.cell? ⟨g3, 1, none⟩ = some (.slice aB lB cB))
    (first | (with_reducible exact ⟨(two_cells HHR.out).1, (two_cells HHR.out).2.1, (two_cells HHA.out).1, (two_cells HHA.out).2.1, (two_cells HHB.out).1, (two_cells HHB.out).2.1⟩) | (go_keep; done))
    ((first
      | (go_at_call_of 28 cR; (with_reducible refine (sign_any nR aR lR cR R _ hRR).mono ?_); rintro e w5 ⟨rfl, hw5⟩; rw [HER.out, hsr]; have hbk := below_new hw5; clear hw5; have hRR := hRR.keep hbk; have HHR := hid (heap_keep HHR.out hbk); have hRA := hRA.keep hbk; have HHA := hid (heap_keep HHA.out hbk); have hRB := hRB.keep hbk; have HHB := hid (heap_keep HHB.out hbk); have hacc := hacc.trans (hbk.mono hacc.size))
      | (go_at_call_of 28 cA; (with_reducible refine (sign_any nA aA lA cA A _ hRA).mono ?_); rintro e w5 ⟨rfl, hw5⟩; rw [HEA.out, hsa]; have hbk := below_new hw5; clear hw5; have hRR := hRR.keep hbk; have HHR := hid (heap_keep HHR.out hbk); have hRA := hRA.keep hbk; have HHA := hid (heap_keep HHA.out hbk); have hRB := hRB.keep hbk; have HHB := hid (heap_keep HHB.out hbk); have hacc := hacc.trans (hbk.mono hacc.size))
      | (go_at_call_of 28 cB; (with_reducible refine (sign_any nB aB lB cB B _ hRB).mono ?_); rintro e w5 ⟨rfl, hw5⟩; rw [HEB.out, hsb]; have hbk := below_new hw5; clear hw5; have hRR := hRR.keep hbk; have HHR := hid (heap_keep HHR.out hbk); have hRA := hRA.keep hbk; have HHA := hid (heap_keep HHA.out hbk); have hRB := hRB.keep hbk; have HHB := hid (heap_keep HHB.out hbk); have hacc := hacc.trans (hbk.mono hacc.size)))) | fail)
  all_goals
    go_wp2
    unfold Q11
    go_ret
    exact ⟨rfl, hb.trans (hacc.mono hb.size)⟩

set_option maxRecDepth 100000 in
set_option maxHeartbeats 20000000 in
theorem PN_16_c2 {ap : Bool} {w wr : World} {g2 g3 g6 g7 g9 g10 g12 g14 g18 : Nat} {u0 u1 u4 u24 u25 u26 u27 u28 u29 u30 u31 u32 u33 u34 u35 u36 u37 u38 u39 u40 u41 u42 u43 u44 u45 u46 u47 u48 u49 u50 u51 u52 u53 u54 u55 u56 u57 u58 u59 u60 u61 u62 u63 u64 u65 u66 u67 u68 u69 u70 u71 u72 u73 u74 u75 u76 u77 u78 u79 u80 u81 u82 u83 u84 u85 u86 u87 u88 u89 u90 u91 u92 u93 u94 u95 u96 u97 u98 u99 u100 u101 u102 u103 u104 u105 u106 u107 u108 u109 u110 u111 u112 u113 u114 u115 u116 u117 u118 u119 u120 u121 u122 u123 u124 u125 u126 u127 u128 u129 u130 u131 u132 u133 u134 u135 u136 u137 u138 u139 u140 u141 u142 u143 u144 u145 u146 u147 u148 u149 u150 u151 u152 u153 u154 u155 u156 u157 u158 u159 u160 u161 u162 u163 u164 u165 u166 u167 u168 u169 : Value} {va vb vq vr vd vm : Int}
    (la : Lt 3840 va) (lb : Lt 3840 vb) (hz : Hid (vb ≠ 0)) (hq : Hid (TruncDiv va vb vq vr)) (lqb : Lt 3841 (vq * vb)) (lq : Lt 3841 vq) (lr : Lt 3840 vr) (hd : Hid (Floors va vb vd vm)) (ldb : Lt 3841 (vd * vb)) (ld : Lt 3841 vd) (lm : Lt 3840 vm) (hap : ApIs ap vq vd) (hx : ap = false) (hsr : vr.sign = -1) (hsa : va.sign = -1) (hsb : vb.sign = -1)
    (hb : Below w.heap.size w wr) (h0 : w.heap.size ≤ g2)
    (o3 : g2 < g3) (o6 : g3 < g6) (o7 : g6 < g7) (o9 : g7 < g9) (o10 : g9 < g10) (o12 : g10 < g12) (o14 : g12 < g14) (o18 : g14 < g18)
    (b2 : Bx wr g2 (va)) (b3 : Bx wr g3 (vb)) (b6 : Bx wr g6 (vq)) (b7 : Bx wr g7 (vr)) (b9 : Bx wr g9 (vd)) (b10 : Bx wr g10 (vm)) (b12 : Bx wr g12 (vd * vb)) (b14 : Bx wr g14 (vq * vb + vr)) (b18 : Bx wr g18 (vd * vb + vm)) :
    Code.wp Tryd.prog (tail11 16) (Q11 w) ⟨#[u0, u1, .pointer (some ⟨g2, 0, none⟩), .pointer (some ⟨g3, 0, none⟩), u4, .bool true, .pointer (some ⟨g6, 0, none⟩), .pointer (some ⟨g7, 0, none⟩), .int .i64 0, .pointer (some ⟨g9, 0, none⟩), .pointer (some ⟨g10, 0, none⟩), .int .i64 0, .pointer (some ⟨g12, 0, none⟩), .int .i64 0, .pointer (some ⟨g14, 0, none⟩), .int .i64 0, .bool true, .int .i64 0, .pointer (some ⟨g18, 0, none⟩), .int .i64 0, .bool true, .bool true, .bool true, .bool ap, u24, u25, u26, u27, u28, u29, u30, u31, u32, u33, u34, u35, u36, u37, u38, u39, u40, u41, u42, u43, u44, u45, u46, u47, u48, u49, u50, u51, u52, u53, u54, u55, u56, u57, u58, u59, u60, u61, u62, u63, u64, u65, u66, u67, u68, u69, u70, u71, u72, u73, u74, u75, u76, u77, u78, u79, u80, u81, u82, u83, u84, u85, u86, u87, u88, u89, u90, u91, u92, u93, u94, u95, u96, u97, u98, u99, u100, u101, u102, u103, u104, u105, u106, u107, u108, u109, u110, u111, u112, u113, u114, u115, u116, u117, u118, u119, u120, u121, u122, u123, u124, u125, u126, u127, u128, u129, u130, u131, u132, u133, u134, u135, u136, u137, u138, u139, u140, u141, u142, u143, u144, u145, u146, u147, u148, u149, u150, u151, u152, u153, u154, u155, u156, u157, u158, u159, u160, u161, u162, u163, u164, u165, u166, u167, u168, u169], []⟩ wr := by
  subst hx
  have b7' := b7.drew
  obtain ⟨nR, aR, lR, cR, R, hHR, hRR, hER⟩ := b7'
  have HER := hid hER
  have HHR := hid hHR
  clear hER hHR
  have b2' := b2.drew
  obtain ⟨nA, aA, lA, cA, A, hHA, hRA, hEA⟩ := b2'
  have HEA := hid hEA
  have HHA := hid hHA
  clear hEA hHA
  have b3' := b3.drew
  obtain ⟨nB, aB, lB, cB, B, hHB, hRB, hEB⟩ := b3'
  have HEB := hid hEB
  have HHB := hid hHB
  clear hEB hHB
  have hacc : Below wr.heap.size wr wr.drew := (Below.refl _ _).drew
  conv => arg 2; whnf
  go_wp2_with fail
  (first | go_region_held3 (fun w' => w'.cell? ⟨g7, 0, none⟩ = some (.bool nR) ∧ w'.cell? ⟨g7, 1, none⟩ = some (.slice aR lR cR) ∧ w'.cell? ⟨g2, 0, none⟩ = some (.bool nA) ∧ w'.cell? ⟨g2, 1, none⟩ = some (.slice aA lA cA) ∧ w'.cell? ⟨g3, 0, none⟩ = some (.bool nB) ∧ w'.cell? ⟨g3, 1, none⟩ = some (.slice aB lB cB))
    (first | (with_reducible exact ⟨(two_cells HHR.out).1, (two_cells HHR.out).2.1, (two_cells HHA.out).1, (two_cells HHA.out).2.1, (two_cells HHB.out).1, (two_cells HHB.out).2.1⟩) | (go_keep; done))
    ((first
      | (go_at_call_of 28 cR; (with_reducible refine (sign_any nR aR lR cR R _ hRR).mono ?_); rintro e w5 ⟨rfl, hw5⟩; rw [HER.out, hsr]; have hbk := below_new hw5; clear hw5; have hRR := hRR.keep hbk; have HHR := hid (heap_keep HHR.out hbk); have hRA := hRA.keep hbk; have HHA := hid (heap_keep HHA.out hbk); have hRB := hRB.keep hbk; have HHB := hid (heap_keep HHB.out hbk); have hacc := hacc.trans (hbk.mono hacc.size))
      | (go_at_call_of 28 cA; (with_reducible refine (sign_any nA aA lA cA A _ hRA).mono ?_); rintro e w5 ⟨rfl, hw5⟩; rw [HEA.out, hsa]; have hbk := below_new hw5; clear hw5; have hRR := hRR.keep hbk; have HHR := hid (heap_keep HHR.out hbk); have hRA := hRA.keep hbk; have HHA := hid (heap_keep HHA.out hbk); have hRB := hRB.keep hbk; have HHB := hid (heap_keep HHB.out hbk); have hacc := hacc.trans (hbk.mono hacc.size))
      | (go_at_call_of 28 cB; (with_reducible refine (sign_any nB aB lB cB B _ hRB).mono ?_); rintro e w5 ⟨rfl, hw5⟩; rw [HEB.out, hsb]; have hbk := below_new hw5; clear hw5; have hRR := hRR.keep hbk; have HHR := hid (heap_keep HHR.out hbk); have hRA := hRA.keep hbk; have HHA := hid (heap_keep HHA.out hbk); have hRB := hRB.keep hbk; have HHB := hid (heap_keep HHB.out hbk); have hacc := hacc.trans (hbk.mono hacc.size)))) | fail)
  all_goals
    go_wp2
    unfold Q11
    go_ret
    exact ⟨rfl, hb.trans (hacc.mono hb.size)⟩
end Go.Proofs.YtldafoojkimdeaaDoor
