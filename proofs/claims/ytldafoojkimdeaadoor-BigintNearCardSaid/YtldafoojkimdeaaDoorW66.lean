/- The law BigintNear, region by region. -/
import Derived.Test.YtldafoojkimdeaaDoorW62
namespace Go.Proofs.YtldafoojkimdeaaDoor
open Go.RowKit Lm

noncomputable def tail15 (n : Nat) : Code := seqDrop n (Tryd.f15.body.getD .skip)
noncomputable def head15 (n : Nat) : Code := seqHead (tail15 n)
noncomputable def Q15 (w : World) : Exit → Act → World → Prop := bodyPost Tryd.prog Tryd.f15 fun e w' => e = .returned (.bool true) ∧ Below w.heap.size w w'

set_option maxRecDepth 100000 in
set_option maxHeartbeats 20000000 in
theorem NE_15_c00 {fa fb n : Nat} {w wr : World} {g2 g3 g10 g12 g16 g18 : Nat} {u0 u1 u4 u17 u22 u23 u24 u25 u26 u27 u28 u29 u30 u31 u32 u33 u34 u35 u36 u37 u38 u39 u40 u41 u42 u43 u44 u45 u46 u47 u48 u49 u50 u51 u52 u53 u54 u55 u56 u57 u58 u59 u60 u61 u62 u63 u64 u65 u66 u67 u68 u69 u70 u71 u72 u73 u74 u75 u76 u77 u78 u79 u80 u81 u82 u83 u84 u85 u86 u87 u88 u89 u90 u91 u92 u93 u94 u95 u96 u97 u98 u99 u100 u101 u102 u103 u104 u105 u106 u107 u108 u109 u110 u111 u112 u113 u114 u115 u116 u117 : Value} {va vb vm sc so : Int}
    (la : Lt 992 va) (lb : Lt 992 vb) (hf : Hid (fa = ibits va)) (hg : Hid (fb = ibits vb)) (hn : Hid (n = bl va.natAbs)) (hvm : Hid (((va - ival va).natAbs : Int) ≤ vm)) (hsc : Hid (sc = (va - vb).sign)) (hso : Hid (so = (ival va - ival vb).sign)) (hsz : (((va - ival va).natAbs : Int) - vm).sign = 0) (hx : so = sc)
    (hb : Below w.heap.size w wr) (h0 : w.heap.size ≤ g2)
    (o3 : g2 < g3) (o10 : g3 < g10) (o12 : g10 < g12) (o16 : g12 < g16) (o18 : g16 < g18)
    (b2 : Bx wr g2 (va)) (b3 : Bx wr g3 (vb)) (b10 : Bx wr g10 (ival va)) (b12 : Bx wr g12 (ival vb)) (b16 : Bx wr g16 (va - ival va)) (b18 : Bx wr g18 (vm)) :
    Code.wp Tryd.prog (tail15 15) (Q15 w) ⟨#[u0, u1, .pointer (some ⟨g2, 0, none⟩), .pointer (some ⟨g3, 0, none⟩), u4, .bool true, .int .u64 (fa : Int), .int .i64 0, .int .u64 (fb : Int), .int .i64 0, .pointer (some ⟨g10, 0, none⟩), .int .i64 0, .pointer (some ⟨g12, 0, none⟩), .int .i64 0, .int .u64 (fa : Int), .int .i64 0, .pointer (some ⟨g16, 0, none⟩), u17, .pointer (some ⟨g18, 0, none⟩), .int .i64 (n : Int), .int .i64 sc, .int .i64 so, u22, u23, u24, u25, u26, u27, u28, u29, u30, u31, u32, u33, u34, u35, u36, u37, u38, u39, u40, u41, u42, u43, u44, u45, u46, u47, u48, u49, u50, u51, u52, u53, u54, u55, u56, u57, u58, u59, u60, u61, u62, u63, u64, u65, u66, u67, u68, u69, u70, u71, u72, u73, u74, u75, u76, u77, u78, u79, u80, u81, u82, u83, u84, u85, u86, u87, u88, u89, u90, u91, u92, u93, u94, u95, u96, u97, u98, u99, u100, u101, u102, u103, u104, u105, u106, u107, u108, u109, u110, u111, u112, u113, u114, u115, u116, u117], []⟩ wr := by
  subst hx
  have b16' := b16.drew
  obtain ⟨nD, aD, lD, cD, D, hHD, hRD, hED⟩ := b16'
  have HED := hid hED
  have HHD := hid hHD
  clear hED hHD
  have b18' := b18.drew
  obtain ⟨nM, aM, lM, cM, M, hHM, hRM, hEM⟩ := b18'
  have HEM := hid hEM
  have HHM := hid hHM
  clear hEM hHM
  have hacc : Below wr.heap.size wr wr.drew := (Below.refl _ _).drew
  conv => arg 2; whnf
  go_wp2_with fail
  refine wp_region_noPanic ?_
  refine wp_region_held_drew (S := (fun w' => w'.cell? ⟨g16, 0, none⟩ = some (.bool nD) ∧ w'.cell? ⟨g16, 1, none⟩ = some (.slice aD lD cD) ∧ w'.cell? ⟨g18, 0, none⟩ = some (.bool nM) ∧ w'.cell? ⟨g18, 1, none⟩ = some (.slice aM lM cM))) (by kernel_rfl) (by first | (with_reducible exact ⟨(two_cells HHD.out).1, (two_cells HHD.out).2.1, (two_cells HHM.out).1, (two_cells HHM.out).2.1⟩) | (dsimp only; with_reducible exact ⟨(two_cells HHD.out).1, (two_cells HHD.out).2.1, (two_cells HHM.out).1, (two_cells HHM.out).2.1⟩)) (fun hHeld => ?_)
  refine wpAnyH_take (i := 0) (oi := { dst := some 76, op := Op.move (Operand.tmp 5), type := 4, pos := "keeps.go:168", after := #[], guard := none }) (v := ?_) rfl (by kernel_rfl) (by kernel_rfl) (by kernel_rfl) (fun _ _ _ h => h) (Or.inl ⟨by rfl, ?_⟩) (by assumption) ?_
  rotate_left
  · first
      | (intro w5 hSw; (try dsimp only at hSw); go_simp; done)
      | (intro w5 hSw; (try dsimp only at hSw); go_simp; with_reducible rfl)
  try simp only [Act.put, List.setIfInBounds_toArray, List.set_cons_zero, List.set_cons_succ]
  refine wpAnyH_take (i := 1) (oi := { dst := some 77, op := Op.move (Operand.tmp 76), type := 4, pos := "keeps.go:168", after := #[{ on := 0, ground := Ground.data }], guard := none }) (v := ?_) rfl (by kernel_rfl) (by kernel_rfl) (by kernel_rfl) (fun _ _ _ h => h) (Or.inl ⟨by rfl, ?_⟩) (by assumption) ?_
  rotate_left
  · first
      | (intro w5 hSw; (try dsimp only at hSw); go_simp; done)
      | (intro w5 hSw; (try dsimp only at hSw); go_simp; with_reducible rfl)
  try simp only [Act.put, List.setIfInBounds_toArray, List.set_cons_zero, List.set_cons_succ]
  refine wpAnyH_take (i := 2) (oi := { dst := some 78, op := Op.move (Operand.tmp 7), type := 45, pos := "keeps.go:168", after := #[{ on := 1, ground := Ground.guard }], guard := some (1, true) }) (v := ?_) rfl (by kernel_rfl) (by kernel_rfl) (by kernel_rfl) (fun _ _ _ h => h) (Or.inl ⟨by rfl, ?_⟩) (by assumption) ?_
  rotate_left
  · first
      | (intro w5 hSw; (try dsimp only at hSw); go_simp; done)
      | (intro w5 hSw; (try dsimp only at hSw); go_simp; with_reducible rfl)
  try simp only [Act.put, List.setIfInBounds_toArray, List.set_cons_zero, List.set_cons_succ]
  refine wpAnyH_take (i := 3) (oi := { dst := some 79, op := Op.binOp BinOp.eql 45 (Operand.tmp 78) (Operand.const (Value.int IntKind.i64 0)) 45, type := 4, pos := "keeps.go:168", after := #[{ on := 2, ground := Ground.data }, { on := 1, ground := Ground.guard }], guard := some (1, true) }) (v := ?_) rfl (by kernel_rfl) (by kernel_rfl) (by kernel_rfl) (fun _ _ _ h => h) (Or.inl ⟨by rfl, ?_⟩) (by assumption) ?_
  rotate_left
  · first
      | (intro w5 hSw; (try dsimp only at hSw); go_simp; done)
      | (intro w5 hSw; (try dsimp only at hSw); go_simp; with_reducible rfl)
  try simp only [Act.put, List.setIfInBounds_toArray, List.set_cons_zero, List.set_cons_succ]
  refine wpAnyH_take (i := 4) (oi := { dst := some 80, op := Op.pick (Operand.tmp 77) (Operand.tmp 79) (Operand.const (Value.bool false)), type := 4, pos := "keeps.go:168", after := #[{ on := 1, ground := Ground.data }, { on := 3, ground := Ground.data }], guard := none }) (v := ?_) rfl (by kernel_rfl) (by kernel_rfl) (by kernel_rfl) (fun _ _ _ h => h) (Or.inl ⟨by rfl, ?_⟩) (by assumption) ?_
  rotate_left
  · first
      | (intro w5 hSw; (try dsimp only at hSw); go_simp; done)
      | (intro w5 hSw; (try dsimp only at hSw); go_simp; with_reducible rfl)
  try simp only [Act.put, List.setIfInBounds_toArray, List.set_cons_zero, List.set_cons_succ]
  refine wpAnyH_take (i := 5) (oi := { dst := some 81, op := Op.move (Operand.tmp 80), type := 4, pos := "keeps.go:168", after := #[{ on := 4, ground := Ground.data }, { on := 1, ground := Ground.chain }], guard := none }) (v := ?_) rfl (by kernel_rfl) (by kernel_rfl) (by kernel_rfl) (fun _ _ _ h => h) (Or.inl ⟨by rfl, ?_⟩) (by assumption) ?_
  rotate_left
  · first
      | (intro w5 hSw; (try dsimp only at hSw); go_simp; done)
      | (intro w5 hSw; (try dsimp only at hSw); go_simp; with_reducible rfl)
  try simp only [Act.put, List.setIfInBounds_toArray, List.set_cons_zero, List.set_cons_succ]
  refine wpAnyH_take (i := 6) (oi := { dst := some 82, op := Op.move (Operand.tmp 9), type := 45, pos := "keeps.go:168", after := #[{ on := 5, ground := Ground.guard }], guard := some (5, true) }) (v := ?_) rfl (by kernel_rfl) (by kernel_rfl) (by kernel_rfl) (fun _ _ _ h => h) (Or.inl ⟨by rfl, ?_⟩) (by assumption) ?_
  rotate_left
  · first
      | (intro w5 hSw; (try dsimp only at hSw); go_simp; done)
      | (intro w5 hSw; (try dsimp only at hSw); go_simp; with_reducible rfl)
  try simp only [Act.put, List.setIfInBounds_toArray, List.set_cons_zero, List.set_cons_succ]
  refine wpAnyH_take (i := 7) (oi := { dst := some 83, op := Op.binOp BinOp.eql 45 (Operand.tmp 82) (Operand.const (Value.int IntKind.i64 0)) 45, type := 4, pos := "keeps.go:168", after := #[{ on := 6, ground := Ground.data }, { on := 5, ground := Ground.guard }], guard := some (5, true) }) (v := ?_) rfl (by kernel_rfl) (by kernel_rfl) (by kernel_rfl) (fun _ _ _ h => h) (Or.inl ⟨by rfl, ?_⟩) (by assumption) ?_
  rotate_left
  · first
      | (intro w5 hSw; (try dsimp only at hSw); go_simp; done)
      | (intro w5 hSw; (try dsimp only at hSw); go_simp; with_reducible rfl)
  try simp only [Act.put, List.setIfInBounds_toArray, List.set_cons_zero, List.set_cons_succ]
  refine wpAnyH_take (i := 8) (oi := { dst := some 84, op := Op.pick (Operand.tmp 81) (Operand.tmp 83) (Operand.const (Value.bool false)), type := 4, pos := "keeps.go:168", after := #[{ on := 5, ground := Ground.data }, { on := 7, ground := Ground.data }], guard := none }) (v := ?_) rfl (by kernel_rfl) (by kernel_rfl) (by kernel_rfl) (fun _ _ _ h => h) (Or.inl ⟨by rfl, ?_⟩) (by assumption) ?_
  rotate_left
  · first
      | (intro w5 hSw; (try dsimp only at hSw); go_simp; done)
      | (intro w5 hSw; (try dsimp only at hSw); go_simp; with_reducible rfl)
  try simp only [Act.put, List.setIfInBounds_toArray, List.set_cons_zero, List.set_cons_succ]
  refine wpAnyH_take (i := 9) (oi := { dst := some 85, op := Op.move (Operand.tmp 84), type := 4, pos := "keeps.go:168", after := #[{ on := 8, ground := Ground.data }, { on := 5, ground := Ground.chain }], guard := none }) (v := ?_) rfl (by kernel_rfl) (by kernel_rfl) (by kernel_rfl) (fun _ _ _ h => h) (Or.inl ⟨by rfl, ?_⟩) (by assumption) ?_
  rotate_left
  · first
      | (intro w5 hSw; (try dsimp only at hSw); go_simp; done)
      | (intro w5 hSw; (try dsimp only at hSw); go_simp; with_reducible rfl)
  try simp only [Act.put, List.setIfInBounds_toArray, List.set_cons_zero, List.set_cons_succ]
  refine wpAnyH_take (i := 10) (oi := { dst := some 86, op := Op.move (Operand.tmp 11), type := 45, pos := "keeps.go:168", after := #[{ on := 9, ground := Ground.guard }], guard := some (9, true) }) (v := ?_) rfl (by kernel_rfl) (by kernel_rfl) (by kernel_rfl) (fun _ _ _ h => h) (Or.inl ⟨by rfl, ?_⟩) (by assumption) ?_
  rotate_left
  · first
      | (intro w5 hSw; (try dsimp only at hSw); go_simp; done)
      | (intro w5 hSw; (try dsimp only at hSw); go_simp; with_reducible rfl)
  try simp only [Act.put, List.setIfInBounds_toArray, List.set_cons_zero, List.set_cons_succ]
  refine wpAnyH_take (i := 11) (oi := { dst := some 87, op := Op.binOp BinOp.eql 45 (Operand.tmp 86) (Operand.const (Value.int IntKind.i64 0)) 45, type := 4, pos := "keeps.go:168", after := #[{ on := 10, ground := Ground.data }, { on := 9, ground := Ground.guard }], guard := some (9, true) }) (v := ?_) rfl (by kernel_rfl) (by kernel_rfl) (by kernel_rfl) (fun _ _ _ h => h) (Or.inl ⟨by rfl, ?_⟩) (by assumption) ?_
  rotate_left
  · first
      | (intro w5 hSw; (try dsimp only at hSw); go_simp; done)
      | (intro w5 hSw; (try dsimp only at hSw); go_simp; with_reducible rfl)
  try simp only [Act.put, List.setIfInBounds_toArray, List.set_cons_zero, List.set_cons_succ]
  refine wpAnyH_take (i := 12) (oi := { dst := some 88, op := Op.pick (Operand.tmp 85) (Operand.tmp 87) (Operand.const (Value.bool false)), type := 4, pos := "keeps.go:168", after := #[{ on := 9, ground := Ground.data }, { on := 11, ground := Ground.data }], guard := none }) (v := ?_) rfl (by kernel_rfl) (by kernel_rfl) (by kernel_rfl) (fun _ _ _ h => h) (Or.inl ⟨by rfl, ?_⟩) (by assumption) ?_
  rotate_left
  · first
      | (intro w5 hSw; (try dsimp only at hSw); go_simp; done)
      | (intro w5 hSw; (try dsimp only at hSw); go_simp; with_reducible rfl)
  try simp only [Act.put, List.setIfInBounds_toArray, List.set_cons_zero, List.set_cons_succ]
  refine wpAnyH_take (i := 13) (oi := { dst := some 89, op := Op.move (Operand.tmp 88), type := 4, pos := "keeps.go:168", after := #[{ on := 12, ground := Ground.data }, { on := 9, ground := Ground.chain }], guard := none }) (v := ?_) rfl (by kernel_rfl) (by kernel_rfl) (by kernel_rfl) (fun _ _ _ h => h) (Or.inl ⟨by rfl, ?_⟩) (by assumption) ?_
  rotate_left
  · first
      | (intro w5 hSw; (try dsimp only at hSw); go_simp; done)
      | (intro w5 hSw; (try dsimp only at hSw); go_simp; with_reducible rfl)
  try simp only [Act.put, List.setIfInBounds_toArray, List.set_cons_zero, List.set_cons_succ]
  refine wpAnyH_take (i := 14) (oi := { dst := some 90, op := Op.move (Operand.tmp 13), type := 45, pos := "keeps.go:168", after := #[{ on := 13, ground := Ground.guard }], guard := some (13, true) }) (v := ?_) rfl (by kernel_rfl) (by kernel_rfl) (by kernel_rfl) (fun _ _ _ h => h) (Or.inl ⟨by rfl, ?_⟩) (by assumption) ?_
  rotate_left
  · first
      | (intro w5 hSw; (try dsimp only at hSw); go_simp; done)
      | (intro w5 hSw; (try dsimp only at hSw); go_simp; with_reducible rfl)
  try simp only [Act.put, List.setIfInBounds_toArray, List.set_cons_zero, List.set_cons_succ]
  refine wpAnyH_take (i := 15) (oi := { dst := some 91, op := Op.binOp BinOp.eql 45 (Operand.tmp 90) (Operand.const (Value.int IntKind.i64 0)) 45, type := 4, pos := "keeps.go:168", after := #[{ on := 14, ground := Ground.data }, { on := 13, ground := Ground.guard }], guard := some (13, true) }) (v := ?_) rfl (by kernel_rfl) (by kernel_rfl) (by kernel_rfl) (fun _ _ _ h => h) (Or.inl ⟨by rfl, ?_⟩) (by assumption) ?_
  rotate_left
  · first
      | (intro w5 hSw; (try dsimp only at hSw); go_simp; done)
      | (intro w5 hSw; (try dsimp only at hSw); go_simp; with_reducible rfl)
  try simp only [Act.put, List.setIfInBounds_toArray, List.set_cons_zero, List.set_cons_succ]
  refine wpAnyH_take (i := 16) (oi := { dst := some 92, op := Op.pick (Operand.tmp 89) (Operand.tmp 91) (Operand.const (Value.bool false)), type := 4, pos := "keeps.go:168", after := #[{ on := 13, ground := Ground.data }, { on := 15, ground := Ground.data }], guard := none }) (v := ?_) rfl (by kernel_rfl) (by kernel_rfl) (by kernel_rfl) (fun _ _ _ h => h) (Or.inl ⟨by rfl, ?_⟩) (by assumption) ?_
  rotate_left
  · first
      | (intro w5 hSw; (try dsimp only at hSw); go_simp; done)
      | (intro w5 hSw; (try dsimp only at hSw); go_simp; with_reducible rfl)
  try simp only [Act.put, List.setIfInBounds_toArray, List.set_cons_zero, List.set_cons_succ]
  refine wpAnyH_take (i := 17) (oi := { dst := some 93, op := Op.move (Operand.tmp 92), type := 4, pos := "keeps.go:168", after := #[{ on := 16, ground := Ground.data }, { on := 13, ground := Ground.chain }], guard := none }) (v := ?_) rfl (by kernel_rfl) (by kernel_rfl) (by kernel_rfl) (fun _ _ _ h => h) (Or.inl ⟨by rfl, ?_⟩) (by assumption) ?_
  rotate_left
  · first
      | (intro w5 hSw; (try dsimp only at hSw); go_simp; done)
      | (intro w5 hSw; (try dsimp only at hSw); go_simp; with_reducible rfl)
  try simp only [Act.put, List.setIfInBounds_toArray, List.set_cons_zero, List.set_cons_succ]
  refine wpAnyH_take (i := 18) (oi := { dst := some 94, op := Op.move (Operand.tmp 15), type := 45, pos := "keeps.go:168", after := #[{ on := 17, ground := Ground.guard }], guard := some (17, true) }) (v := ?_) rfl (by kernel_rfl) (by kernel_rfl) (by kernel_rfl) (fun _ _ _ h => h) (Or.inl ⟨by rfl, ?_⟩) (by assumption) ?_
  rotate_left
  · first
      | (intro w5 hSw; (try dsimp only at hSw); go_simp; done)
      | (intro w5 hSw; (try dsimp only at hSw); go_simp; with_reducible rfl)
  try simp only [Act.put, List.setIfInBounds_toArray, List.set_cons_zero, List.set_cons_succ]
  refine wpAnyH_take (i := 19) (oi := { dst := some 95, op := Op.binOp BinOp.eql 45 (Operand.tmp 94) (Operand.const (Value.int IntKind.i64 0)) 45, type := 4, pos := "keeps.go:168", after := #[{ on := 18, ground := Ground.data }, { on := 17, ground := Ground.guard }], guard := some (17, true) }) (v := ?_) rfl (by kernel_rfl) (by kernel_rfl) (by kernel_rfl) (fun _ _ _ h => h) (Or.inl ⟨by rfl, ?_⟩) (by assumption) ?_
  rotate_left
  · first
      | (intro w5 hSw; (try dsimp only at hSw); go_simp; done)
      | (intro w5 hSw; (try dsimp only at hSw); go_simp; with_reducible rfl)
  try simp only [Act.put, List.setIfInBounds_toArray, List.set_cons_zero, List.set_cons_succ]
  refine wpAnyH_take (i := 20) (oi := { dst := some 96, op := Op.pick (Operand.tmp 93) (Operand.tmp 95) (Operand.const (Value.bool false)), type := 4, pos := "keeps.go:168", after := #[{ on := 17, ground := Ground.data }, { on := 19, ground := Ground.data }], guard := none }) (v := ?_) rfl (by kernel_rfl) (by kernel_rfl) (by kernel_rfl) (fun _ _ _ h => h) (Or.inl ⟨by rfl, ?_⟩) (by assumption) ?_
  rotate_left
  · first
      | (intro w5 hSw; (try dsimp only at hSw); go_simp; done)
      | (intro w5 hSw; (try dsimp only at hSw); go_simp; with_reducible rfl)
  try simp only [Act.put, List.setIfInBounds_toArray, List.set_cons_zero, List.set_cons_succ]
  refine wpAnyH_take (i := 21) (oi := { dst := some 97, op := Op.move (Operand.tmp 96), type := 4, pos := "keeps.go:168", after := #[{ on := 20, ground := Ground.data }, { on := 17, ground := Ground.chain }], guard := none }) (v := ?_) rfl (by kernel_rfl) (by kernel_rfl) (by kernel_rfl) (fun _ _ _ h => h) (Or.inl ⟨by rfl, ?_⟩) (by assumption) ?_
  rotate_left
  · first
      | (intro w5 hSw; (try dsimp only at hSw); go_simp; done)
      | (intro w5 hSw; (try dsimp only at hSw); go_simp; with_reducible rfl)
  try simp only [Act.put, List.setIfInBounds_toArray, List.set_cons_zero, List.set_cons_succ]
  refine wpAnyH_take (i := 22) (oi := { dst := some 98, op := Op.move (Operand.tmp 14), type := 68, pos := "keeps.go:168", after := #[{ on := 21, ground := Ground.guard }], guard := some (21, true) }) (v := ?_) rfl (by kernel_rfl) (by kernel_rfl) (by kernel_rfl) (fun _ _ _ h => h) (Or.inl ⟨by rfl, ?_⟩) (by assumption) ?_
  rotate_left
  · first
      | (intro w5 hSw; (try dsimp only at hSw); go_simp; done)
      | (intro w5 hSw; (try dsimp only at hSw); go_simp; with_reducible rfl)
  try simp only [Act.put, List.setIfInBounds_toArray, List.set_cons_zero, List.set_cons_succ]
  refine wpAnyH_take (i := 23) (oi := { dst := some 99, op := Op.move (Operand.tmp 6), type := 68, pos := "keeps.go:168", after := #[{ on := 21, ground := Ground.guard }], guard := some (21, true) }) (v := ?_) rfl (by kernel_rfl) (by kernel_rfl) (by kernel_rfl) (fun _ _ _ h => h) (Or.inl ⟨by rfl, ?_⟩) (by assumption) ?_
  rotate_left
  · first
      | (intro w5 hSw; (try dsimp only at hSw); go_simp; done)
      | (intro w5 hSw; (try dsimp only at hSw); go_simp; with_reducible rfl)
  try simp only [Act.put, List.setIfInBounds_toArray, List.set_cons_zero, List.set_cons_succ]
  refine wpAnyH_take (i := 24) (oi := { dst := some 100, op := Op.binOp BinOp.eql 68 (Operand.tmp 98) (Operand.tmp 99) 68, type := 4, pos := "keeps.go:168", after := #[{ on := 22, ground := Ground.data }, { on := 23, ground := Ground.data }, { on := 21, ground := Ground.guard }], guard := some (21, true) }) (v := ?_) rfl (by kernel_rfl) (by kernel_rfl) (by kernel_rfl) (fun _ _ _ h => h) (Or.inl ⟨by rfl, ?_⟩) (by assumption) ?_
  rotate_left
  · first
      | (intro w5 hSw; (try dsimp only at hSw); go_simp; done)
      | (intro w5 hSw; (try dsimp only at hSw); go_simp; with_reducible rfl)
  try simp only [Act.put, List.setIfInBounds_toArray, List.set_cons_zero, List.set_cons_succ]
  refine wpAnyH_take (i := 25) (oi := { dst := some 101, op := Op.pick (Operand.tmp 97) (Operand.tmp 100) (Operand.const (Value.bool false)), type := 4, pos := "keeps.go:168", after := #[{ on := 21, ground := Ground.data }, { on := 24, ground := Ground.data }], guard := none }) (v := ?_) rfl (by kernel_rfl) (by kernel_rfl) (by kernel_rfl) (fun _ _ _ h => h) (Or.inl ⟨by rfl, ?_⟩) (by assumption) ?_
  rotate_left
  · first
      | (intro w5 hSw; (try dsimp only at hSw); go_simp; done)
      | (intro w5 hSw; (try dsimp only at hSw); go_simp; with_reducible rfl)
  try simp only [Act.put, List.setIfInBounds_toArray, List.set_cons_zero, List.set_cons_succ]
  refine wpAnyH_take (i := 26) (oi := { dst := some 102, op := Op.move (Operand.tmp 101), type := 4, pos := "keeps.go:168", after := #[{ on := 25, ground := Ground.data }, { on := 21, ground := Ground.chain }], guard := none }) (v := ?_) rfl (by kernel_rfl) (by kernel_rfl) (by kernel_rfl) (fun _ _ _ h => h) (Or.inl ⟨by rfl, ?_⟩) (by assumption) ?_
  rotate_left
  · first
      | (intro w5 hSw; (try dsimp only at hSw); go_simp; done)
      | (intro w5 hSw; (try dsimp only at hSw); go_simp; with_reducible rfl)
  try simp only [Act.put, List.setIfInBounds_toArray, List.set_cons_zero, List.set_cons_succ]
  refine wpAnyH_take (i := 27) (oi := { dst := some 103, op := Op.load 24 (Operand.tmp 16), type := 24, pos := "keeps.go:168", after := #[{ on := 26, ground := Ground.guard }], guard := some (26, true) }) (v := ?_) rfl (by kernel_rfl) (by kernel_rfl) (by kernel_rfl) (fun _ _ _ h => h) (Or.inl ⟨by rfl, ?_⟩) (by assumption) ?_
  rotate_left
  · first
      | (intro w5 hSw; (try dsimp only at hSw); go_simp; done)
      | (intro w5 hSw; (try dsimp only at hSw); go_simp; with_reducible rfl)
  try simp only [Act.put, List.setIfInBounds_toArray, List.set_cons_zero, List.set_cons_succ]
  refine wpAnyH_take (i := 29) (oi := { dst := some 105, op := Op.load 24 (Operand.tmp 18), type := 24, pos := "keeps.go:168", after := #[{ on := 26, ground := Ground.guard }], guard := some (26, true) }) (v := ?_) rfl (by kernel_rfl) (by kernel_rfl) (by kernel_rfl) (fun _ _ _ h => h) (Or.inl ⟨by rfl, ?_⟩) (by assumption) ?_
  rotate_left
  · first
      | (intro w5 hSw; (try dsimp only at hSw); go_simp; done)
      | (intro w5 hSw; (try dsimp only at hSw); go_simp; with_reducible rfl)
  try simp only [Act.put, List.setIfInBounds_toArray, List.set_cons_zero, List.set_cons_succ]
  refine wpAnyH_ready (rs := [28]) (by kernel_rfl) (by simp) ?_
  refine AllReadyH.cons (o := { dst := some 104, op := Op.call { callee := Callee.value (Operand.func 67), args := #[Operand.tmp 103], argTypes := #[24] }, type := 24, pos := "keeps.go:168", after := #[{ on := 27, ground := Ground.data }, { on := 26, ground := Ground.chain }, { on := 26, ground := Ground.guard }], guard := some (26, true) }) rfl (fun K hK => ?_) AllReadyH.nil
  go_simp
  ((with_reducible refine (abs_ok _ hRD HED.out).mono ?_); rintro e w5 ⟨n1, ao1, len1, C1, rfl, hR1, hE1, hbk⟩; have HE1 := hid hE1; clear hE1; have hRD := hRD.keep hbk; have HHD := hid (heap_keep HHD.out hbk); have hRM := hRM.keep hbk; have HHM := hid (heap_keep HHM.out hbk); have hacc := hacc.trans (hbk.mono hacc.size))
  go_wp2_with fail
  refine hK.out _ _ ?_ (fun hHeld => ?_)
  · first
      | (with_reducible exact ⟨(two_cells HHD.out).1, (two_cells HHD.out).2.1, (two_cells HHM.out).1, (two_cells HHM.out).2.1⟩)
      | (dsimp only; with_reducible exact ⟨(two_cells HHD.out).1, (two_cells HHD.out).2.1, (two_cells HHM.out).1, (two_cells HHM.out).2.1⟩)
  clear hK K
  refine wpAnyH_ready (rs := [30]) (by kernel_rfl) (by simp) ?_
  refine AllReadyH.cons (o := { dst := some 106, op := Op.call { callee := Callee.value (Operand.func 30), args := #[Operand.tmp 104, Operand.tmp 105], argTypes := #[24, 24] }, type := 3, pos := "keeps.go:168", after := #[{ on := 28, ground := Ground.data }, { on := 29, ground := Ground.data }, { on := 28, ground := Ground.chain }, { on := 26, ground := Ground.guard }], guard := some (26, true) }) rfl (fun K hK => ?_) AllReadyH.nil
  go_simp
  ((with_reducible refine (cmp_any n1 ao1 len1 len1 C1 nM aM lM cM M _ hR1 hRM).mono ?_); rintro e w5 ⟨rfl, hbk⟩; rw [HE1.out, HEM.out, hsz]; have hRD := hRD.keep hbk; have HHD := hid (heap_keep HHD.out hbk); have hRM := hRM.keep hbk; have HHM := hid (heap_keep HHM.out hbk); have hacc := hacc.trans (hbk.mono hacc.size))
  go_wp2_with fail
  refine hK.out _ _ ?_ (fun hHeld => ?_)
  · first
      | (with_reducible exact ⟨(two_cells HHD.out).1, (two_cells HHD.out).2.1, (two_cells HHM.out).1, (two_cells HHM.out).2.1⟩)
      | (dsimp only; with_reducible exact ⟨(two_cells HHD.out).1, (two_cells HHD.out).2.1, (two_cells HHM.out).1, (two_cells HHM.out).2.1⟩)
  clear hK K
  refine wpAnyH_take (i := 31) (oi := { dst := some 107, op := Op.binOp BinOp.leq 3 (Operand.tmp 106) (Operand.const (Value.int IntKind.i64 0)) 3, type := 4, pos := "keeps.go:168", after := #[{ on := 30, ground := Ground.data }, { on := 26, ground := Ground.guard }], guard := some (26, true) }) (v := ?_) rfl (by kernel_rfl) (by kernel_rfl) (by kernel_rfl) (fun _ _ _ h => h) (Or.inl ⟨by rfl, ?_⟩) (by assumption) ?_
  rotate_left
  · first
      | (intro w5 hSw; (try dsimp only at hSw); go_simp; done)
      | (intro w5 hSw; (try dsimp only at hSw); go_simp; with_reducible rfl)
  try simp only [Act.put, List.setIfInBounds_toArray, List.set_cons_zero, List.set_cons_succ]
  refine wpAnyH_take (i := 32) (oi := { dst := some 108, op := Op.pick (Operand.tmp 102) (Operand.tmp 107) (Operand.const (Value.bool false)), type := 4, pos := "keeps.go:168", after := #[{ on := 26, ground := Ground.data }, { on := 31, ground := Ground.data }], guard := none }) (v := ?_) rfl (by kernel_rfl) (by kernel_rfl) (by kernel_rfl) (fun _ _ _ h => h) (Or.inl ⟨by rfl, ?_⟩) (by assumption) ?_
  rotate_left
  · first
      | (intro w5 hSw; (try dsimp only at hSw); go_simp; done)
      | (intro w5 hSw; (try dsimp only at hSw); go_simp; with_reducible rfl)
  try simp only [Act.put, List.setIfInBounds_toArray, List.set_cons_zero, List.set_cons_succ]
  refine wpAnyH_take (i := 33) (oi := { dst := some 109, op := Op.move (Operand.tmp 108), type := 4, pos := "keeps.go:168", after := #[{ on := 32, ground := Ground.data }, { on := 30, ground := Ground.chain }], guard := none }) (v := ?_) rfl (by kernel_rfl) (by kernel_rfl) (by kernel_rfl) (fun _ _ _ h => h) (Or.inl ⟨by rfl, ?_⟩) (by assumption) ?_
  rotate_left
  · first
      | (intro w5 hSw; (try dsimp only at hSw); go_simp; done)
      | (intro w5 hSw; (try dsimp only at hSw); go_simp; with_reducible rfl)
  try simp only [Act.put, List.setIfInBounds_toArray, List.set_cons_zero, List.set_cons_succ]
  refine wpAnyH_take (i := 34) (oi := { dst := some 110, op := Op.move (Operand.tmp 21), type := 3, pos := "keeps.go:168", after := #[{ on := 33, ground := Ground.guard }], guard := some (33, true) }) (v := ?_) rfl (by kernel_rfl) (by kernel_rfl) (by kernel_rfl) (fun _ _ _ h => h) (Or.inl ⟨by rfl, ?_⟩) (by assumption) ?_
  rotate_left
  · first
      | (intro w5 hSw; (try dsimp only at hSw); go_simp; done)
      | (intro w5 hSw; (try dsimp only at hSw); go_simp; with_reducible rfl)
  try simp only [Act.put, List.setIfInBounds_toArray, List.set_cons_zero, List.set_cons_succ]
  refine wpAnyH_take (i := 35) (oi := { dst := some 111, op := Op.move (Operand.tmp 20), type := 3, pos := "keeps.go:168", after := #[{ on := 33, ground := Ground.guard }], guard := some (33, true) }) (v := ?_) rfl (by kernel_rfl) (by kernel_rfl) (by kernel_rfl) (fun _ _ _ h => h) (Or.inl ⟨by rfl, ?_⟩) (by assumption) ?_
  rotate_left
  · first
      | (intro w5 hSw; (try dsimp only at hSw); go_simp; done)
      | (intro w5 hSw; (try dsimp only at hSw); go_simp; with_reducible rfl)
  try simp only [Act.put, List.setIfInBounds_toArray, List.set_cons_zero, List.set_cons_succ]
  refine wpAnyH_take (i := 36) (oi := { dst := some 112, op := Op.binOp BinOp.eql 3 (Operand.tmp 110) (Operand.tmp 111) 3, type := 4, pos := "keeps.go:168", after := #[{ on := 34, ground := Ground.data }, { on := 35, ground := Ground.data }, { on := 33, ground := Ground.guard }], guard := some (33, true) }) (v := ?_) rfl (by kernel_rfl) (by kernel_rfl) (by kernel_rfl) (fun _ _ _ h => h) (Or.inl ⟨by rfl, ?_⟩) (by assumption) ?_
  rotate_left
  · first
      | (intro w5 hSw; (try dsimp only at hSw); go_simp; done)
      | (intro w5 hSw; (try dsimp only at hSw); go_simp; with_reducible rfl)
  try simp only [Act.put, List.setIfInBounds_toArray, List.set_cons_zero, List.set_cons_succ]
  refine wpAnyH_take (i := 37) (oi := { dst := some 113, op := Op.move (Operand.tmp 112), type := 4, pos := "keeps.go:168", after := #[{ on := 36, ground := Ground.data }, { on := 33, ground := Ground.chain }, { on := 33, ground := Ground.guard }], guard := some (33, true) }) (v := ?_) rfl (by kernel_rfl) (by kernel_rfl) (by kernel_rfl) (fun _ _ _ h => h) (Or.inl ⟨by rfl, ?_⟩) (by assumption) ?_
  rotate_left
  · first
      | (intro w5 hSw; (try dsimp only at hSw); go_simp; done)
      | (intro w5 hSw; (try dsimp only at hSw); go_simp; with_reducible rfl)
  try simp only [Act.put, List.setIfInBounds_toArray, List.set_cons_zero, List.set_cons_succ]
  refine wpAnyH_take (i := 38) (oi := { dst := some 114, op := Op.move (Operand.tmp 21), type := 3, pos := "keeps.go:168", after := #[{ on := 37, ground := Ground.guard }], guard := some (37, false) }) (v := undef) rfl (by kernel_rfl) (by kernel_rfl) (by kernel_rfl) (fun _ _ _ h => h) (Or.inr ⟨by rfl, rfl⟩) (by assumption) ?_
  try simp only [Act.put, List.setIfInBounds_toArray, List.set_cons_zero, List.set_cons_succ]
  refine wpAnyH_take (i := 39) (oi := { dst := some 115, op := Op.binOp BinOp.eql 3 (Operand.tmp 114) (Operand.const (Value.int IntKind.i64 0)) 3, type := 4, pos := "keeps.go:168", after := #[{ on := 38, ground := Ground.data }, { on := 37, ground := Ground.guard }], guard := some (37, false) }) (v := undef) rfl (by kernel_rfl) (by kernel_rfl) (by kernel_rfl) (fun _ _ _ h => h) (Or.inr ⟨by rfl, rfl⟩) (by assumption) ?_
  try simp only [Act.put, List.setIfInBounds_toArray, List.set_cons_zero, List.set_cons_succ]
  refine wpAnyH_take (i := 40) (oi := { dst := some 116, op := Op.pick (Operand.tmp 113) (Operand.const (Value.bool true)) (Operand.tmp 115), type := 4, pos := "keeps.go:168", after := #[{ on := 37, ground := Ground.data }, { on := 39, ground := Ground.data }, { on := 33, ground := Ground.guard }], guard := some (33, true) }) (v := ?_) rfl (by kernel_rfl) (by kernel_rfl) (by kernel_rfl) (fun _ _ _ h => h) (Or.inl ⟨by rfl, ?_⟩) (by assumption) ?_
  rotate_left
  · first
      | (intro w5 hSw; (try dsimp only at hSw); go_simp; done)
      | (intro w5 hSw; (try dsimp only at hSw); go_simp; with_reducible rfl)
  try simp only [Act.put, List.setIfInBounds_toArray, List.set_cons_zero, List.set_cons_succ]
  refine wpAnyH_take (i := 41) (oi := { dst := some 117, op := Op.pick (Operand.tmp 109) (Operand.tmp 116) (Operand.const (Value.bool false)), type := 4, pos := "keeps.go:168", after := #[{ on := 33, ground := Ground.data }, { on := 40, ground := Ground.data }], guard := none }) (v := ?_) rfl (by kernel_rfl) (by kernel_rfl) (by kernel_rfl) (fun _ _ _ h => h) (Or.inl ⟨by rfl, ?_⟩) (by assumption) ?_
  rotate_left
  · first
      | (intro w5 hSw; (try dsimp only at hSw); go_simp; done)
      | (intro w5 hSw; (try dsimp only at hSw); go_simp; with_reducible rfl)
  try simp only [Act.put, List.setIfInBounds_toArray, List.set_cons_zero, List.set_cons_succ]
  refine wpAnyH_take (i := 42) (oi := { dst := some 4, op := Op.assign (Operand.tmp 117), type := 4, pos := "keeps.go:168", after := #[{ on := 41, ground := Ground.data }, { on := 37, ground := Ground.chain }, { on := 0, ground := Ground.phase }, { on := 1, ground := Ground.phase }, { on := 2, ground := Ground.phase }, { on := 3, ground := Ground.phase }, { on := 4, ground := Ground.phase }, { on := 5, ground := Ground.phase }, { on := 6, ground := Ground.phase }, { on := 7, ground := Ground.phase }, { on := 8, ground := Ground.phase }, { on := 9, ground := Ground.phase }, { on := 10, ground := Ground.phase }, { on := 11, ground := Ground.phase }, { on := 12, ground := Ground.phase }, { on := 13, ground := Ground.phase }, { on := 14, ground := Ground.phase }, { on := 15, ground := Ground.phase }, { on := 16, ground := Ground.phase }, { on := 17, ground := Ground.phase }, { on := 18, ground := Ground.phase }, { on := 19, ground := Ground.phase }, { on := 20, ground := Ground.phase }, { on := 21, ground := Ground.phase }, { on := 22, ground := Ground.phase }, { on := 23, ground := Ground.phase }, { on := 24, ground := Ground.phase }, { on := 25, ground := Ground.phase }, { on := 26, ground := Ground.phase }, { on := 27, ground := Ground.phase }, { on := 28, ground := Ground.phase }, { on := 29, ground := Ground.phase }, { on := 30, ground := Ground.phase }, { on := 31, ground := Ground.phase }, { on := 32, ground := Ground.phase }, { on := 33, ground := Ground.phase }, { on := 34, ground := Ground.phase }, { on := 35, ground := Ground.phase }, { on := 36, ground := Ground.phase }, { on := 37, ground := Ground.phase }, { on := 38, ground := Ground.phase }, { on := 39, ground := Ground.phase }, { on := 40, ground := Ground.phase }, { on := 41, ground := Ground.phase }], guard := none }) (v := ?_) rfl (by kernel_rfl) (by kernel_rfl) (by kernel_rfl) (fun _ _ _ h => h) (Or.inl ⟨by rfl, ?_⟩) (by assumption) ?_
  rotate_left
  · first
      | (intro w5 hSw; (try dsimp only at hSw); go_simp; done)
      | (intro w5 hSw; (try dsimp only at hSw); go_simp; with_reducible rfl)
  try simp only [Act.put, List.setIfInBounds_toArray, List.set_cons_zero, List.set_cons_succ]
  refine wpAnyH_done (by kernel_rfl) ?_ _
  refine NoPanic.normal ?_
  go_wp2
  unfold Q15
  go_ret
  exact ⟨rfl, hb.trans (hacc.mono hb.size)⟩

set_option maxRecDepth 100000 in
set_option maxHeartbeats 20000000 in
theorem NE_15_c01 {fa fb n : Nat} {w wr : World} {g2 g3 g10 g12 g16 g18 : Nat} {u0 u1 u4 u17 u22 u23 u24 u25 u26 u27 u28 u29 u30 u31 u32 u33 u34 u35 u36 u37 u38 u39 u40 u41 u42 u43 u44 u45 u46 u47 u48 u49 u50 u51 u52 u53 u54 u55 u56 u57 u58 u59 u60 u61 u62 u63 u64 u65 u66 u67 u68 u69 u70 u71 u72 u73 u74 u75 u76 u77 u78 u79 u80 u81 u82 u83 u84 u85 u86 u87 u88 u89 u90 u91 u92 u93 u94 u95 u96 u97 u98 u99 u100 u101 u102 u103 u104 u105 u106 u107 u108 u109 u110 u111 u112 u113 u114 u115 u116 u117 : Value} {va vb vm sc so : Int}
    (la : Lt 992 va) (lb : Lt 992 vb) (hf : Hid (fa = ibits va)) (hg : Hid (fb = ibits vb)) (hn : Hid (n = bl va.natAbs)) (hvm : Hid (((va - ival va).natAbs : Int) ≤ vm)) (hsc : Hid (sc = (va - vb).sign)) (hso : Hid (so = (ival va - ival vb).sign)) (hsz : (((va - ival va).natAbs : Int) - vm).sign = -1) (hx : so = sc)
    (hb : Below w.heap.size w wr) (h0 : w.heap.size ≤ g2)
    (o3 : g2 < g3) (o10 : g3 < g10) (o12 : g10 < g12) (o16 : g12 < g16) (o18 : g16 < g18)
    (b2 : Bx wr g2 (va)) (b3 : Bx wr g3 (vb)) (b10 : Bx wr g10 (ival va)) (b12 : Bx wr g12 (ival vb)) (b16 : Bx wr g16 (va - ival va)) (b18 : Bx wr g18 (vm)) :
    Code.wp Tryd.prog (tail15 15) (Q15 w) ⟨#[u0, u1, .pointer (some ⟨g2, 0, none⟩), .pointer (some ⟨g3, 0, none⟩), u4, .bool true, .int .u64 (fa : Int), .int .i64 0, .int .u64 (fb : Int), .int .i64 0, .pointer (some ⟨g10, 0, none⟩), .int .i64 0, .pointer (some ⟨g12, 0, none⟩), .int .i64 0, .int .u64 (fa : Int), .int .i64 0, .pointer (some ⟨g16, 0, none⟩), u17, .pointer (some ⟨g18, 0, none⟩), .int .i64 (n : Int), .int .i64 sc, .int .i64 so, u22, u23, u24, u25, u26, u27, u28, u29, u30, u31, u32, u33, u34, u35, u36, u37, u38, u39, u40, u41, u42, u43, u44, u45, u46, u47, u48, u49, u50, u51, u52, u53, u54, u55, u56, u57, u58, u59, u60, u61, u62, u63, u64, u65, u66, u67, u68, u69, u70, u71, u72, u73, u74, u75, u76, u77, u78, u79, u80, u81, u82, u83, u84, u85, u86, u87, u88, u89, u90, u91, u92, u93, u94, u95, u96, u97, u98, u99, u100, u101, u102, u103, u104, u105, u106, u107, u108, u109, u110, u111, u112, u113, u114, u115, u116, u117], []⟩ wr := by
  subst hx
  have b16' := b16.drew
  obtain ⟨nD, aD, lD, cD, D, hHD, hRD, hED⟩ := b16'
  have HED := hid hED
  have HHD := hid hHD
  clear hED hHD
  have b18' := b18.drew
  obtain ⟨nM, aM, lM, cM, M, hHM, hRM, hEM⟩ := b18'
  have HEM := hid hEM
  have HHM := hid hHM
  clear hEM hHM
  have hacc : Below wr.heap.size wr wr.drew := (Below.refl _ _).drew
  conv => arg 2; whnf
  go_wp2_with fail
  refine wp_region_noPanic ?_
  refine wp_region_held_drew (S := (fun w' => w'.cell? ⟨g16, 0, none⟩ = some (.bool nD) ∧ w'.cell? ⟨g16, 1, none⟩ = some (.slice aD lD cD) ∧ w'.cell? ⟨g18, 0, none⟩ = some (.bool nM) ∧ w'.cell? ⟨g18, 1, none⟩ = some (.slice aM lM cM))) (by kernel_rfl) (by first | (with_reducible exact ⟨(two_cells HHD.out).1, (two_cells HHD.out).2.1, (two_cells HHM.out).1, (two_cells HHM.out).2.1⟩) | (dsimp only; with_reducible exact ⟨(two_cells HHD.out).1, (two_cells HHD.out).2.1, (two_cells HHM.out).1, (two_cells HHM.out).2.1⟩)) (fun hHeld => ?_)
  refine wpAnyH_take (i := 0) (oi := { dst := some 76, op := Op.move (Operand.tmp 5), type := 4, pos := "keeps.go:168", after := #[], guard := none }) (v := ?_) rfl (by kernel_rfl) (by kernel_rfl) (by kernel_rfl) (fun _ _ _ h => h) (Or.inl ⟨by rfl, ?_⟩) (by assumption) ?_
  rotate_left
  · first
      | (intro w5 hSw; (try dsimp only at hSw); go_simp; done)
      | (intro w5 hSw; (try dsimp only at hSw); go_simp; with_reducible rfl)
  try simp only [Act.put, List.setIfInBounds_toArray, List.set_cons_zero, List.set_cons_succ]
  refine wpAnyH_take (i := 1) (oi := { dst := some 77, op := Op.move (Operand.tmp 76), type := 4, pos := "keeps.go:168", after := #[{ on := 0, ground := Ground.data }], guard := none }) (v := ?_) rfl (by kernel_rfl) (by kernel_rfl) (by kernel_rfl) (fun _ _ _ h => h) (Or.inl ⟨by rfl, ?_⟩) (by assumption) ?_
  rotate_left
  · first
      | (intro w5 hSw; (try dsimp only at hSw); go_simp; done)
      | (intro w5 hSw; (try dsimp only at hSw); go_simp; with_reducible rfl)
  try simp only [Act.put, List.setIfInBounds_toArray, List.set_cons_zero, List.set_cons_succ]
  refine wpAnyH_take (i := 2) (oi := { dst := some 78, op := Op.move (Operand.tmp 7), type := 45, pos := "keeps.go:168", after := #[{ on := 1, ground := Ground.guard }], guard := some (1, true) }) (v := ?_) rfl (by kernel_rfl) (by kernel_rfl) (by kernel_rfl) (fun _ _ _ h => h) (Or.inl ⟨by rfl, ?_⟩) (by assumption) ?_
  rotate_left
  · first
      | (intro w5 hSw; (try dsimp only at hSw); go_simp; done)
      | (intro w5 hSw; (try dsimp only at hSw); go_simp; with_reducible rfl)
  try simp only [Act.put, List.setIfInBounds_toArray, List.set_cons_zero, List.set_cons_succ]
  refine wpAnyH_take (i := 3) (oi := { dst := some 79, op := Op.binOp BinOp.eql 45 (Operand.tmp 78) (Operand.const (Value.int IntKind.i64 0)) 45, type := 4, pos := "keeps.go:168", after := #[{ on := 2, ground := Ground.data }, { on := 1, ground := Ground.guard }], guard := some (1, true) }) (v := ?_) rfl (by kernel_rfl) (by kernel_rfl) (by kernel_rfl) (fun _ _ _ h => h) (Or.inl ⟨by rfl, ?_⟩) (by assumption) ?_
  rotate_left
  · first
      | (intro w5 hSw; (try dsimp only at hSw); go_simp; done)
      | (intro w5 hSw; (try dsimp only at hSw); go_simp; with_reducible rfl)
  try simp only [Act.put, List.setIfInBounds_toArray, List.set_cons_zero, List.set_cons_succ]
  refine wpAnyH_take (i := 4) (oi := { dst := some 80, op := Op.pick (Operand.tmp 77) (Operand.tmp 79) (Operand.const (Value.bool false)), type := 4, pos := "keeps.go:168", after := #[{ on := 1, ground := Ground.data }, { on := 3, ground := Ground.data }], guard := none }) (v := ?_) rfl (by kernel_rfl) (by kernel_rfl) (by kernel_rfl) (fun _ _ _ h => h) (Or.inl ⟨by rfl, ?_⟩) (by assumption) ?_
  rotate_left
  · first
      | (intro w5 hSw; (try dsimp only at hSw); go_simp; done)
      | (intro w5 hSw; (try dsimp only at hSw); go_simp; with_reducible rfl)
  try simp only [Act.put, List.setIfInBounds_toArray, List.set_cons_zero, List.set_cons_succ]
  refine wpAnyH_take (i := 5) (oi := { dst := some 81, op := Op.move (Operand.tmp 80), type := 4, pos := "keeps.go:168", after := #[{ on := 4, ground := Ground.data }, { on := 1, ground := Ground.chain }], guard := none }) (v := ?_) rfl (by kernel_rfl) (by kernel_rfl) (by kernel_rfl) (fun _ _ _ h => h) (Or.inl ⟨by rfl, ?_⟩) (by assumption) ?_
  rotate_left
  · first
      | (intro w5 hSw; (try dsimp only at hSw); go_simp; done)
      | (intro w5 hSw; (try dsimp only at hSw); go_simp; with_reducible rfl)
  try simp only [Act.put, List.setIfInBounds_toArray, List.set_cons_zero, List.set_cons_succ]
  refine wpAnyH_take (i := 6) (oi := { dst := some 82, op := Op.move (Operand.tmp 9), type := 45, pos := "keeps.go:168", after := #[{ on := 5, ground := Ground.guard }], guard := some (5, true) }) (v := ?_) rfl (by kernel_rfl) (by kernel_rfl) (by kernel_rfl) (fun _ _ _ h => h) (Or.inl ⟨by rfl, ?_⟩) (by assumption) ?_
  rotate_left
  · first
      | (intro w5 hSw; (try dsimp only at hSw); go_simp; done)
      | (intro w5 hSw; (try dsimp only at hSw); go_simp; with_reducible rfl)
  try simp only [Act.put, List.setIfInBounds_toArray, List.set_cons_zero, List.set_cons_succ]
  refine wpAnyH_take (i := 7) (oi := { dst := some 83, op := Op.binOp BinOp.eql 45 (Operand.tmp 82) (Operand.const (Value.int IntKind.i64 0)) 45, type := 4, pos := "keeps.go:168", after := #[{ on := 6, ground := Ground.data }, { on := 5, ground := Ground.guard }], guard := some (5, true) }) (v := ?_) rfl (by kernel_rfl) (by kernel_rfl) (by kernel_rfl) (fun _ _ _ h => h) (Or.inl ⟨by rfl, ?_⟩) (by assumption) ?_
  rotate_left
  · first
      | (intro w5 hSw; (try dsimp only at hSw); go_simp; done)
      | (intro w5 hSw; (try dsimp only at hSw); go_simp; with_reducible rfl)
  try simp only [Act.put, List.setIfInBounds_toArray, List.set_cons_zero, List.set_cons_succ]
  refine wpAnyH_take (i := 8) (oi := { dst := some 84, op := Op.pick (Operand.tmp 81) (Operand.tmp 83) (Operand.const (Value.bool false)), type := 4, pos := "keeps.go:168", after := #[{ on := 5, ground := Ground.data }, { on := 7, ground := Ground.data }], guard := none }) (v := ?_) rfl (by kernel_rfl) (by kernel_rfl) (by kernel_rfl) (fun _ _ _ h => h) (Or.inl ⟨by rfl, ?_⟩) (by assumption) ?_
  rotate_left
  · first
      | (intro w5 hSw; (try dsimp only at hSw); go_simp; done)
      | (intro w5 hSw; (try dsimp only at hSw); go_simp; with_reducible rfl)
  try simp only [Act.put, List.setIfInBounds_toArray, List.set_cons_zero, List.set_cons_succ]
  refine wpAnyH_take (i := 9) (oi := { dst := some 85, op := Op.move (Operand.tmp 84), type := 4, pos := "keeps.go:168", after := #[{ on := 8, ground := Ground.data }, { on := 5, ground := Ground.chain }], guard := none }) (v := ?_) rfl (by kernel_rfl) (by kernel_rfl) (by kernel_rfl) (fun _ _ _ h => h) (Or.inl ⟨by rfl, ?_⟩) (by assumption) ?_
  rotate_left
  · first
      | (intro w5 hSw; (try dsimp only at hSw); go_simp; done)
      | (intro w5 hSw; (try dsimp only at hSw); go_simp; with_reducible rfl)
  try simp only [Act.put, List.setIfInBounds_toArray, List.set_cons_zero, List.set_cons_succ]
  refine wpAnyH_take (i := 10) (oi := { dst := some 86, op := Op.move (Operand.tmp 11), type := 45, pos := "keeps.go:168", after := #[{ on := 9, ground := Ground.guard }], guard := some (9, true) }) (v := ?_) rfl (by kernel_rfl) (by kernel_rfl) (by kernel_rfl) (fun _ _ _ h => h) (Or.inl ⟨by rfl, ?_⟩) (by assumption) ?_
  rotate_left
  · first
      | (intro w5 hSw; (try dsimp only at hSw); go_simp; done)
      | (intro w5 hSw; (try dsimp only at hSw); go_simp; with_reducible rfl)
  try simp only [Act.put, List.setIfInBounds_toArray, List.set_cons_zero, List.set_cons_succ]
  refine wpAnyH_take (i := 11) (oi := { dst := some 87, op := Op.binOp BinOp.eql 45 (Operand.tmp 86) (Operand.const (Value.int IntKind.i64 0)) 45, type := 4, pos := "keeps.go:168", after := #[{ on := 10, ground := Ground.data }, { on := 9, ground := Ground.guard }], guard := some (9, true) }) (v := ?_) rfl (by kernel_rfl) (by kernel_rfl) (by kernel_rfl) (fun _ _ _ h => h) (Or.inl ⟨by rfl, ?_⟩) (by assumption) ?_
  rotate_left
  · first
      | (intro w5 hSw; (try dsimp only at hSw); go_simp; done)
      | (intro w5 hSw; (try dsimp only at hSw); go_simp; with_reducible rfl)
  try simp only [Act.put, List.setIfInBounds_toArray, List.set_cons_zero, List.set_cons_succ]
  refine wpAnyH_take (i := 12) (oi := { dst := some 88, op := Op.pick (Operand.tmp 85) (Operand.tmp 87) (Operand.const (Value.bool false)), type := 4, pos := "keeps.go:168", after := #[{ on := 9, ground := Ground.data }, { on := 11, ground := Ground.data }], guard := none }) (v := ?_) rfl (by kernel_rfl) (by kernel_rfl) (by kernel_rfl) (fun _ _ _ h => h) (Or.inl ⟨by rfl, ?_⟩) (by assumption) ?_
  rotate_left
  · first
      | (intro w5 hSw; (try dsimp only at hSw); go_simp; done)
      | (intro w5 hSw; (try dsimp only at hSw); go_simp; with_reducible rfl)
  try simp only [Act.put, List.setIfInBounds_toArray, List.set_cons_zero, List.set_cons_succ]
  refine wpAnyH_take (i := 13) (oi := { dst := some 89, op := Op.move (Operand.tmp 88), type := 4, pos := "keeps.go:168", after := #[{ on := 12, ground := Ground.data }, { on := 9, ground := Ground.chain }], guard := none }) (v := ?_) rfl (by kernel_rfl) (by kernel_rfl) (by kernel_rfl) (fun _ _ _ h => h) (Or.inl ⟨by rfl, ?_⟩) (by assumption) ?_
  rotate_left
  · first
      | (intro w5 hSw; (try dsimp only at hSw); go_simp; done)
      | (intro w5 hSw; (try dsimp only at hSw); go_simp; with_reducible rfl)
  try simp only [Act.put, List.setIfInBounds_toArray, List.set_cons_zero, List.set_cons_succ]
  refine wpAnyH_take (i := 14) (oi := { dst := some 90, op := Op.move (Operand.tmp 13), type := 45, pos := "keeps.go:168", after := #[{ on := 13, ground := Ground.guard }], guard := some (13, true) }) (v := ?_) rfl (by kernel_rfl) (by kernel_rfl) (by kernel_rfl) (fun _ _ _ h => h) (Or.inl ⟨by rfl, ?_⟩) (by assumption) ?_
  rotate_left
  · first
      | (intro w5 hSw; (try dsimp only at hSw); go_simp; done)
      | (intro w5 hSw; (try dsimp only at hSw); go_simp; with_reducible rfl)
  try simp only [Act.put, List.setIfInBounds_toArray, List.set_cons_zero, List.set_cons_succ]
  refine wpAnyH_take (i := 15) (oi := { dst := some 91, op := Op.binOp BinOp.eql 45 (Operand.tmp 90) (Operand.const (Value.int IntKind.i64 0)) 45, type := 4, pos := "keeps.go:168", after := #[{ on := 14, ground := Ground.data }, { on := 13, ground := Ground.guard }], guard := some (13, true) }) (v := ?_) rfl (by kernel_rfl) (by kernel_rfl) (by kernel_rfl) (fun _ _ _ h => h) (Or.inl ⟨by rfl, ?_⟩) (by assumption) ?_
  rotate_left
  · first
      | (intro w5 hSw; (try dsimp only at hSw); go_simp; done)
      | (intro w5 hSw; (try dsimp only at hSw); go_simp; with_reducible rfl)
  try simp only [Act.put, List.setIfInBounds_toArray, List.set_cons_zero, List.set_cons_succ]
  refine wpAnyH_take (i := 16) (oi := { dst := some 92, op := Op.pick (Operand.tmp 89) (Operand.tmp 91) (Operand.const (Value.bool false)), type := 4, pos := "keeps.go:168", after := #[{ on := 13, ground := Ground.data }, { on := 15, ground := Ground.data }], guard := none }) (v := ?_) rfl (by kernel_rfl) (by kernel_rfl) (by kernel_rfl) (fun _ _ _ h => h) (Or.inl ⟨by rfl, ?_⟩) (by assumption) ?_
  rotate_left
  · first
      | (intro w5 hSw; (try dsimp only at hSw); go_simp; done)
      | (intro w5 hSw; (try dsimp only at hSw); go_simp; with_reducible rfl)
  try simp only [Act.put, List.setIfInBounds_toArray, List.set_cons_zero, List.set_cons_succ]
  refine wpAnyH_take (i := 17) (oi := { dst := some 93, op := Op.move (Operand.tmp 92), type := 4, pos := "keeps.go:168", after := #[{ on := 16, ground := Ground.data }, { on := 13, ground := Ground.chain }], guard := none }) (v := ?_) rfl (by kernel_rfl) (by kernel_rfl) (by kernel_rfl) (fun _ _ _ h => h) (Or.inl ⟨by rfl, ?_⟩) (by assumption) ?_
  rotate_left
  · first
      | (intro w5 hSw; (try dsimp only at hSw); go_simp; done)
      | (intro w5 hSw; (try dsimp only at hSw); go_simp; with_reducible rfl)
  try simp only [Act.put, List.setIfInBounds_toArray, List.set_cons_zero, List.set_cons_succ]
  refine wpAnyH_take (i := 18) (oi := { dst := some 94, op := Op.move (Operand.tmp 15), type := 45, pos := "keeps.go:168", after := #[{ on := 17, ground := Ground.guard }], guard := some (17, true) }) (v := ?_) rfl (by kernel_rfl) (by kernel_rfl) (by kernel_rfl) (fun _ _ _ h => h) (Or.inl ⟨by rfl, ?_⟩) (by assumption) ?_
  rotate_left
  · first
      | (intro w5 hSw; (try dsimp only at hSw); go_simp; done)
      | (intro w5 hSw; (try dsimp only at hSw); go_simp; with_reducible rfl)
  try simp only [Act.put, List.setIfInBounds_toArray, List.set_cons_zero, List.set_cons_succ]
  refine wpAnyH_take (i := 19) (oi := { dst := some 95, op := Op.binOp BinOp.eql 45 (Operand.tmp 94) (Operand.const (Value.int IntKind.i64 0)) 45, type := 4, pos := "keeps.go:168", after := #[{ on := 18, ground := Ground.data }, { on := 17, ground := Ground.guard }], guard := some (17, true) }) (v := ?_) rfl (by kernel_rfl) (by kernel_rfl) (by kernel_rfl) (fun _ _ _ h => h) (Or.inl ⟨by rfl, ?_⟩) (by assumption) ?_
  rotate_left
  · first
      | (intro w5 hSw; (try dsimp only at hSw); go_simp; done)
      | (intro w5 hSw; (try dsimp only at hSw); go_simp; with_reducible rfl)
  try simp only [Act.put, List.setIfInBounds_toArray, List.set_cons_zero, List.set_cons_succ]
  refine wpAnyH_take (i := 20) (oi := { dst := some 96, op := Op.pick (Operand.tmp 93) (Operand.tmp 95) (Operand.const (Value.bool false)), type := 4, pos := "keeps.go:168", after := #[{ on := 17, ground := Ground.data }, { on := 19, ground := Ground.data }], guard := none }) (v := ?_) rfl (by kernel_rfl) (by kernel_rfl) (by kernel_rfl) (fun _ _ _ h => h) (Or.inl ⟨by rfl, ?_⟩) (by assumption) ?_
  rotate_left
  · first
      | (intro w5 hSw; (try dsimp only at hSw); go_simp; done)
      | (intro w5 hSw; (try dsimp only at hSw); go_simp; with_reducible rfl)
  try simp only [Act.put, List.setIfInBounds_toArray, List.set_cons_zero, List.set_cons_succ]
  refine wpAnyH_take (i := 21) (oi := { dst := some 97, op := Op.move (Operand.tmp 96), type := 4, pos := "keeps.go:168", after := #[{ on := 20, ground := Ground.data }, { on := 17, ground := Ground.chain }], guard := none }) (v := ?_) rfl (by kernel_rfl) (by kernel_rfl) (by kernel_rfl) (fun _ _ _ h => h) (Or.inl ⟨by rfl, ?_⟩) (by assumption) ?_
  rotate_left
  · first
      | (intro w5 hSw; (try dsimp only at hSw); go_simp; done)
      | (intro w5 hSw; (try dsimp only at hSw); go_simp; with_reducible rfl)
  try simp only [Act.put, List.setIfInBounds_toArray, List.set_cons_zero, List.set_cons_succ]
  refine wpAnyH_take (i := 22) (oi := { dst := some 98, op := Op.move (Operand.tmp 14), type := 68, pos := "keeps.go:168", after := #[{ on := 21, ground := Ground.guard }], guard := some (21, true) }) (v := ?_) rfl (by kernel_rfl) (by kernel_rfl) (by kernel_rfl) (fun _ _ _ h => h) (Or.inl ⟨by rfl, ?_⟩) (by assumption) ?_
  rotate_left
  · first
      | (intro w5 hSw; (try dsimp only at hSw); go_simp; done)
      | (intro w5 hSw; (try dsimp only at hSw); go_simp; with_reducible rfl)
  try simp only [Act.put, List.setIfInBounds_toArray, List.set_cons_zero, List.set_cons_succ]
  refine wpAnyH_take (i := 23) (oi := { dst := some 99, op := Op.move (Operand.tmp 6), type := 68, pos := "keeps.go:168", after := #[{ on := 21, ground := Ground.guard }], guard := some (21, true) }) (v := ?_) rfl (by kernel_rfl) (by kernel_rfl) (by kernel_rfl) (fun _ _ _ h => h) (Or.inl ⟨by rfl, ?_⟩) (by assumption) ?_
  rotate_left
  · first
      | (intro w5 hSw; (try dsimp only at hSw); go_simp; done)
      | (intro w5 hSw; (try dsimp only at hSw); go_simp; with_reducible rfl)
  try simp only [Act.put, List.setIfInBounds_toArray, List.set_cons_zero, List.set_cons_succ]
  refine wpAnyH_take (i := 24) (oi := { dst := some 100, op := Op.binOp BinOp.eql 68 (Operand.tmp 98) (Operand.tmp 99) 68, type := 4, pos := "keeps.go:168", after := #[{ on := 22, ground := Ground.data }, { on := 23, ground := Ground.data }, { on := 21, ground := Ground.guard }], guard := some (21, true) }) (v := ?_) rfl (by kernel_rfl) (by kernel_rfl) (by kernel_rfl) (fun _ _ _ h => h) (Or.inl ⟨by rfl, ?_⟩) (by assumption) ?_
  rotate_left
  · first
      | (intro w5 hSw; (try dsimp only at hSw); go_simp; done)
      | (intro w5 hSw; (try dsimp only at hSw); go_simp; with_reducible rfl)
  try simp only [Act.put, List.setIfInBounds_toArray, List.set_cons_zero, List.set_cons_succ]
  refine wpAnyH_take (i := 25) (oi := { dst := some 101, op := Op.pick (Operand.tmp 97) (Operand.tmp 100) (Operand.const (Value.bool false)), type := 4, pos := "keeps.go:168", after := #[{ on := 21, ground := Ground.data }, { on := 24, ground := Ground.data }], guard := none }) (v := ?_) rfl (by kernel_rfl) (by kernel_rfl) (by kernel_rfl) (fun _ _ _ h => h) (Or.inl ⟨by rfl, ?_⟩) (by assumption) ?_
  rotate_left
  · first
      | (intro w5 hSw; (try dsimp only at hSw); go_simp; done)
      | (intro w5 hSw; (try dsimp only at hSw); go_simp; with_reducible rfl)
  try simp only [Act.put, List.setIfInBounds_toArray, List.set_cons_zero, List.set_cons_succ]
  refine wpAnyH_take (i := 26) (oi := { dst := some 102, op := Op.move (Operand.tmp 101), type := 4, pos := "keeps.go:168", after := #[{ on := 25, ground := Ground.data }, { on := 21, ground := Ground.chain }], guard := none }) (v := ?_) rfl (by kernel_rfl) (by kernel_rfl) (by kernel_rfl) (fun _ _ _ h => h) (Or.inl ⟨by rfl, ?_⟩) (by assumption) ?_
  rotate_left
  · first
      | (intro w5 hSw; (try dsimp only at hSw); go_simp; done)
      | (intro w5 hSw; (try dsimp only at hSw); go_simp; with_reducible rfl)
  try simp only [Act.put, List.setIfInBounds_toArray, List.set_cons_zero, List.set_cons_succ]
  refine wpAnyH_take (i := 27) (oi := { dst := some 103, op := Op.load 24 (Operand.tmp 16), type := 24, pos := "keeps.go:168", after := #[{ on := 26, ground := Ground.guard }], guard := some (26, true) }) (v := ?_) rfl (by kernel_rfl) (by kernel_rfl) (by kernel_rfl) (fun _ _ _ h => h) (Or.inl ⟨by rfl, ?_⟩) (by assumption) ?_
  rotate_left
  · first
      | (intro w5 hSw; (try dsimp only at hSw); go_simp; done)
      | (intro w5 hSw; (try dsimp only at hSw); go_simp; with_reducible rfl)
  try simp only [Act.put, List.setIfInBounds_toArray, List.set_cons_zero, List.set_cons_succ]
  refine wpAnyH_take (i := 29) (oi := { dst := some 105, op := Op.load 24 (Operand.tmp 18), type := 24, pos := "keeps.go:168", after := #[{ on := 26, ground := Ground.guard }], guard := some (26, true) }) (v := ?_) rfl (by kernel_rfl) (by kernel_rfl) (by kernel_rfl) (fun _ _ _ h => h) (Or.inl ⟨by rfl, ?_⟩) (by assumption) ?_
  rotate_left
  · first
      | (intro w5 hSw; (try dsimp only at hSw); go_simp; done)
      | (intro w5 hSw; (try dsimp only at hSw); go_simp; with_reducible rfl)
  try simp only [Act.put, List.setIfInBounds_toArray, List.set_cons_zero, List.set_cons_succ]
  refine wpAnyH_ready (rs := [28]) (by kernel_rfl) (by simp) ?_
  refine AllReadyH.cons (o := { dst := some 104, op := Op.call { callee := Callee.value (Operand.func 67), args := #[Operand.tmp 103], argTypes := #[24] }, type := 24, pos := "keeps.go:168", after := #[{ on := 27, ground := Ground.data }, { on := 26, ground := Ground.chain }, { on := 26, ground := Ground.guard }], guard := some (26, true) }) rfl (fun K hK => ?_) AllReadyH.nil
  go_simp
  ((with_reducible refine (abs_ok _ hRD HED.out).mono ?_); rintro e w5 ⟨n1, ao1, len1, C1, rfl, hR1, hE1, hbk⟩; have HE1 := hid hE1; clear hE1; have hRD := hRD.keep hbk; have HHD := hid (heap_keep HHD.out hbk); have hRM := hRM.keep hbk; have HHM := hid (heap_keep HHM.out hbk); have hacc := hacc.trans (hbk.mono hacc.size))
  go_wp2_with fail
  refine hK.out _ _ ?_ (fun hHeld => ?_)
  · first
      | (with_reducible exact ⟨(two_cells HHD.out).1, (two_cells HHD.out).2.1, (two_cells HHM.out).1, (two_cells HHM.out).2.1⟩)
      | (dsimp only; with_reducible exact ⟨(two_cells HHD.out).1, (two_cells HHD.out).2.1, (two_cells HHM.out).1, (two_cells HHM.out).2.1⟩)
  clear hK K
  refine wpAnyH_ready (rs := [30]) (by kernel_rfl) (by simp) ?_
  refine AllReadyH.cons (o := { dst := some 106, op := Op.call { callee := Callee.value (Operand.func 30), args := #[Operand.tmp 104, Operand.tmp 105], argTypes := #[24, 24] }, type := 3, pos := "keeps.go:168", after := #[{ on := 28, ground := Ground.data }, { on := 29, ground := Ground.data }, { on := 28, ground := Ground.chain }, { on := 26, ground := Ground.guard }], guard := some (26, true) }) rfl (fun K hK => ?_) AllReadyH.nil
  go_simp
  ((with_reducible refine (cmp_any n1 ao1 len1 len1 C1 nM aM lM cM M _ hR1 hRM).mono ?_); rintro e w5 ⟨rfl, hbk⟩; rw [HE1.out, HEM.out, hsz]; have hRD := hRD.keep hbk; have HHD := hid (heap_keep HHD.out hbk); have hRM := hRM.keep hbk; have HHM := hid (heap_keep HHM.out hbk); have hacc := hacc.trans (hbk.mono hacc.size))
  go_wp2_with fail
  refine hK.out _ _ ?_ (fun hHeld => ?_)
  · first
      | (with_reducible exact ⟨(two_cells HHD.out).1, (two_cells HHD.out).2.1, (two_cells HHM.out).1, (two_cells HHM.out).2.1⟩)
      | (dsimp only; with_reducible exact ⟨(two_cells HHD.out).1, (two_cells HHD.out).2.1, (two_cells HHM.out).1, (two_cells HHM.out).2.1⟩)
  clear hK K
  refine wpAnyH_take (i := 31) (oi := { dst := some 107, op := Op.binOp BinOp.leq 3 (Operand.tmp 106) (Operand.const (Value.int IntKind.i64 0)) 3, type := 4, pos := "keeps.go:168", after := #[{ on := 30, ground := Ground.data }, { on := 26, ground := Ground.guard }], guard := some (26, true) }) (v := ?_) rfl (by kernel_rfl) (by kernel_rfl) (by kernel_rfl) (fun _ _ _ h => h) (Or.inl ⟨by rfl, ?_⟩) (by assumption) ?_
  rotate_left
  · first
      | (intro w5 hSw; (try dsimp only at hSw); go_simp; done)
      | (intro w5 hSw; (try dsimp only at hSw); go_simp; with_reducible rfl)
  try simp only [Act.put, List.setIfInBounds_toArray, List.set_cons_zero, List.set_cons_succ]
  refine wpAnyH_take (i := 32) (oi := { dst := some 108, op := Op.pick (Operand.tmp 102) (Operand.tmp 107) (Operand.const (Value.bool false)), type := 4, pos := "keeps.go:168", after := #[{ on := 26, ground := Ground.data }, { on := 31, ground := Ground.data }], guard := none }) (v := ?_) rfl (by kernel_rfl) (by kernel_rfl) (by kernel_rfl) (fun _ _ _ h => h) (Or.inl ⟨by rfl, ?_⟩) (by assumption) ?_
  rotate_left
  · first
      | (intro w5 hSw; (try dsimp only at hSw); go_simp; done)
      | (intro w5 hSw; (try dsimp only at hSw); go_simp; with_reducible rfl)
  try simp only [Act.put, List.setIfInBounds_toArray, List.set_cons_zero, List.set_cons_succ]
  refine wpAnyH_take (i := 33) (oi := { dst := some 109, op := Op.move (Operand.tmp 108), type := 4, pos := "keeps.go:168", after := #[{ on := 32, ground := Ground.data }, { on := 30, ground := Ground.chain }], guard := none }) (v := ?_) rfl (by kernel_rfl) (by kernel_rfl) (by kernel_rfl) (fun _ _ _ h => h) (Or.inl ⟨by rfl, ?_⟩) (by assumption) ?_
  rotate_left
  · first
      | (intro w5 hSw; (try dsimp only at hSw); go_simp; done)
      | (intro w5 hSw; (try dsimp only at hSw); go_simp; with_reducible rfl)
  try simp only [Act.put, List.setIfInBounds_toArray, List.set_cons_zero, List.set_cons_succ]
  refine wpAnyH_take (i := 34) (oi := { dst := some 110, op := Op.move (Operand.tmp 21), type := 3, pos := "keeps.go:168", after := #[{ on := 33, ground := Ground.guard }], guard := some (33, true) }) (v := ?_) rfl (by kernel_rfl) (by kernel_rfl) (by kernel_rfl) (fun _ _ _ h => h) (Or.inl ⟨by rfl, ?_⟩) (by assumption) ?_
  rotate_left
  · first
      | (intro w5 hSw; (try dsimp only at hSw); go_simp; done)
      | (intro w5 hSw; (try dsimp only at hSw); go_simp; with_reducible rfl)
  try simp only [Act.put, List.setIfInBounds_toArray, List.set_cons_zero, List.set_cons_succ]
  refine wpAnyH_take (i := 35) (oi := { dst := some 111, op := Op.move (Operand.tmp 20), type := 3, pos := "keeps.go:168", after := #[{ on := 33, ground := Ground.guard }], guard := some (33, true) }) (v := ?_) rfl (by kernel_rfl) (by kernel_rfl) (by kernel_rfl) (fun _ _ _ h => h) (Or.inl ⟨by rfl, ?_⟩) (by assumption) ?_
  rotate_left
  · first
      | (intro w5 hSw; (try dsimp only at hSw); go_simp; done)
      | (intro w5 hSw; (try dsimp only at hSw); go_simp; with_reducible rfl)
  try simp only [Act.put, List.setIfInBounds_toArray, List.set_cons_zero, List.set_cons_succ]
  refine wpAnyH_take (i := 36) (oi := { dst := some 112, op := Op.binOp BinOp.eql 3 (Operand.tmp 110) (Operand.tmp 111) 3, type := 4, pos := "keeps.go:168", after := #[{ on := 34, ground := Ground.data }, { on := 35, ground := Ground.data }, { on := 33, ground := Ground.guard }], guard := some (33, true) }) (v := ?_) rfl (by kernel_rfl) (by kernel_rfl) (by kernel_rfl) (fun _ _ _ h => h) (Or.inl ⟨by rfl, ?_⟩) (by assumption) ?_
  rotate_left
  · first
      | (intro w5 hSw; (try dsimp only at hSw); go_simp; done)
      | (intro w5 hSw; (try dsimp only at hSw); go_simp; with_reducible rfl)
  try simp only [Act.put, List.setIfInBounds_toArray, List.set_cons_zero, List.set_cons_succ]
  refine wpAnyH_take (i := 37) (oi := { dst := some 113, op := Op.move (Operand.tmp 112), type := 4, pos := "keeps.go:168", after := #[{ on := 36, ground := Ground.data }, { on := 33, ground := Ground.chain }, { on := 33, ground := Ground.guard }], guard := some (33, true) }) (v := ?_) rfl (by kernel_rfl) (by kernel_rfl) (by kernel_rfl) (fun _ _ _ h => h) (Or.inl ⟨by rfl, ?_⟩) (by assumption) ?_
  rotate_left
  · first
      | (intro w5 hSw; (try dsimp only at hSw); go_simp; done)
      | (intro w5 hSw; (try dsimp only at hSw); go_simp; with_reducible rfl)
  try simp only [Act.put, List.setIfInBounds_toArray, List.set_cons_zero, List.set_cons_succ]
  refine wpAnyH_take (i := 38) (oi := { dst := some 114, op := Op.move (Operand.tmp 21), type := 3, pos := "keeps.go:168", after := #[{ on := 37, ground := Ground.guard }], guard := some (37, false) }) (v := undef) rfl (by kernel_rfl) (by kernel_rfl) (by kernel_rfl) (fun _ _ _ h => h) (Or.inr ⟨by rfl, rfl⟩) (by assumption) ?_
  try simp only [Act.put, List.setIfInBounds_toArray, List.set_cons_zero, List.set_cons_succ]
  refine wpAnyH_take (i := 39) (oi := { dst := some 115, op := Op.binOp BinOp.eql 3 (Operand.tmp 114) (Operand.const (Value.int IntKind.i64 0)) 3, type := 4, pos := "keeps.go:168", after := #[{ on := 38, ground := Ground.data }, { on := 37, ground := Ground.guard }], guard := some (37, false) }) (v := undef) rfl (by kernel_rfl) (by kernel_rfl) (by kernel_rfl) (fun _ _ _ h => h) (Or.inr ⟨by rfl, rfl⟩) (by assumption) ?_
  try simp only [Act.put, List.setIfInBounds_toArray, List.set_cons_zero, List.set_cons_succ]
  refine wpAnyH_take (i := 40) (oi := { dst := some 116, op := Op.pick (Operand.tmp 113) (Operand.const (Value.bool true)) (Operand.tmp 115), type := 4, pos := "keeps.go:168", after := #[{ on := 37, ground := Ground.data }, { on := 39, ground := Ground.data }, { on := 33, ground := Ground.guard }], guard := some (33, true) }) (v := ?_) rfl (by kernel_rfl) (by kernel_rfl) (by kernel_rfl) (fun _ _ _ h => h) (Or.inl ⟨by rfl, ?_⟩) (by assumption) ?_
  rotate_left
  · first
      | (intro w5 hSw; (try dsimp only at hSw); go_simp; done)
      | (intro w5 hSw; (try dsimp only at hSw); go_simp; with_reducible rfl)
  try simp only [Act.put, List.setIfInBounds_toArray, List.set_cons_zero, List.set_cons_succ]
  refine wpAnyH_take (i := 41) (oi := { dst := some 117, op := Op.pick (Operand.tmp 109) (Operand.tmp 116) (Operand.const (Value.bool false)), type := 4, pos := "keeps.go:168", after := #[{ on := 33, ground := Ground.data }, { on := 40, ground := Ground.data }], guard := none }) (v := ?_) rfl (by kernel_rfl) (by kernel_rfl) (by kernel_rfl) (fun _ _ _ h => h) (Or.inl ⟨by rfl, ?_⟩) (by assumption) ?_
  rotate_left
  · first
      | (intro w5 hSw; (try dsimp only at hSw); go_simp; done)
      | (intro w5 hSw; (try dsimp only at hSw); go_simp; with_reducible rfl)
  try simp only [Act.put, List.setIfInBounds_toArray, List.set_cons_zero, List.set_cons_succ]
  refine wpAnyH_take (i := 42) (oi := { dst := some 4, op := Op.assign (Operand.tmp 117), type := 4, pos := "keeps.go:168", after := #[{ on := 41, ground := Ground.data }, { on := 37, ground := Ground.chain }, { on := 0, ground := Ground.phase }, { on := 1, ground := Ground.phase }, { on := 2, ground := Ground.phase }, { on := 3, ground := Ground.phase }, { on := 4, ground := Ground.phase }, { on := 5, ground := Ground.phase }, { on := 6, ground := Ground.phase }, { on := 7, ground := Ground.phase }, { on := 8, ground := Ground.phase }, { on := 9, ground := Ground.phase }, { on := 10, ground := Ground.phase }, { on := 11, ground := Ground.phase }, { on := 12, ground := Ground.phase }, { on := 13, ground := Ground.phase }, { on := 14, ground := Ground.phase }, { on := 15, ground := Ground.phase }, { on := 16, ground := Ground.phase }, { on := 17, ground := Ground.phase }, { on := 18, ground := Ground.phase }, { on := 19, ground := Ground.phase }, { on := 20, ground := Ground.phase }, { on := 21, ground := Ground.phase }, { on := 22, ground := Ground.phase }, { on := 23, ground := Ground.phase }, { on := 24, ground := Ground.phase }, { on := 25, ground := Ground.phase }, { on := 26, ground := Ground.phase }, { on := 27, ground := Ground.phase }, { on := 28, ground := Ground.phase }, { on := 29, ground := Ground.phase }, { on := 30, ground := Ground.phase }, { on := 31, ground := Ground.phase }, { on := 32, ground := Ground.phase }, { on := 33, ground := Ground.phase }, { on := 34, ground := Ground.phase }, { on := 35, ground := Ground.phase }, { on := 36, ground := Ground.phase }, { on := 37, ground := Ground.phase }, { on := 38, ground := Ground.phase }, { on := 39, ground := Ground.phase }, { on := 40, ground := Ground.phase }, { on := 41, ground := Ground.phase }], guard := none }) (v := ?_) rfl (by kernel_rfl) (by kernel_rfl) (by kernel_rfl) (fun _ _ _ h => h) (Or.inl ⟨by rfl, ?_⟩) (by assumption) ?_
  rotate_left
  · first
      | (intro w5 hSw; (try dsimp only at hSw); go_simp; done)
      | (intro w5 hSw; (try dsimp only at hSw); go_simp; with_reducible rfl)
  try simp only [Act.put, List.setIfInBounds_toArray, List.set_cons_zero, List.set_cons_succ]
  refine wpAnyH_done (by kernel_rfl) ?_ _
  refine NoPanic.normal ?_
  go_wp2
  unfold Q15
  go_ret
  exact ⟨rfl, hb.trans (hacc.mono hb.size)⟩

set_option maxRecDepth 100000 in
set_option maxHeartbeats 20000000 in
theorem NE_15_c10 {fa fb n : Nat} {w wr : World} {g2 g3 g10 g12 g16 g18 : Nat} {u0 u1 u4 u17 u22 u23 u24 u25 u26 u27 u28 u29 u30 u31 u32 u33 u34 u35 u36 u37 u38 u39 u40 u41 u42 u43 u44 u45 u46 u47 u48 u49 u50 u51 u52 u53 u54 u55 u56 u57 u58 u59 u60 u61 u62 u63 u64 u65 u66 u67 u68 u69 u70 u71 u72 u73 u74 u75 u76 u77 u78 u79 u80 u81 u82 u83 u84 u85 u86 u87 u88 u89 u90 u91 u92 u93 u94 u95 u96 u97 u98 u99 u100 u101 u102 u103 u104 u105 u106 u107 u108 u109 u110 u111 u112 u113 u114 u115 u116 u117 : Value} {va vb vm sc so : Int}
    (la : Lt 992 va) (lb : Lt 992 vb) (hf : Hid (fa = ibits va)) (hg : Hid (fb = ibits vb)) (hn : Hid (n = bl va.natAbs)) (hvm : Hid (((va - ival va).natAbs : Int) ≤ vm)) (hsc : Hid (sc = (va - vb).sign)) (hso : Hid (so = (ival va - ival vb).sign)) (hsz : (((va - ival va).natAbs : Int) - vm).sign = 0) (hx : so = 0) (hy : sc = 1)
    (hb : Below w.heap.size w wr) (h0 : w.heap.size ≤ g2)
    (o3 : g2 < g3) (o10 : g3 < g10) (o12 : g10 < g12) (o16 : g12 < g16) (o18 : g16 < g18)
    (b2 : Bx wr g2 (va)) (b3 : Bx wr g3 (vb)) (b10 : Bx wr g10 (ival va)) (b12 : Bx wr g12 (ival vb)) (b16 : Bx wr g16 (va - ival va)) (b18 : Bx wr g18 (vm)) :
    Code.wp Tryd.prog (tail15 15) (Q15 w) ⟨#[u0, u1, .pointer (some ⟨g2, 0, none⟩), .pointer (some ⟨g3, 0, none⟩), u4, .bool true, .int .u64 (fa : Int), .int .i64 0, .int .u64 (fb : Int), .int .i64 0, .pointer (some ⟨g10, 0, none⟩), .int .i64 0, .pointer (some ⟨g12, 0, none⟩), .int .i64 0, .int .u64 (fa : Int), .int .i64 0, .pointer (some ⟨g16, 0, none⟩), u17, .pointer (some ⟨g18, 0, none⟩), .int .i64 (n : Int), .int .i64 sc, .int .i64 so, u22, u23, u24, u25, u26, u27, u28, u29, u30, u31, u32, u33, u34, u35, u36, u37, u38, u39, u40, u41, u42, u43, u44, u45, u46, u47, u48, u49, u50, u51, u52, u53, u54, u55, u56, u57, u58, u59, u60, u61, u62, u63, u64, u65, u66, u67, u68, u69, u70, u71, u72, u73, u74, u75, u76, u77, u78, u79, u80, u81, u82, u83, u84, u85, u86, u87, u88, u89, u90, u91, u92, u93, u94, u95, u96, u97, u98, u99, u100, u101, u102, u103, u104, u105, u106, u107, u108, u109, u110, u111, u112, u113, u114, u115, u116, u117], []⟩ wr := by
  subst hx hy
  have b16' := b16.drew
  obtain ⟨nD, aD, lD, cD, D, hHD, hRD, hED⟩ := b16'
  have HED := hid hED
  have HHD := hid hHD
  clear hED hHD
  have b18' := b18.drew
  obtain ⟨nM, aM, lM, cM, M, hHM, hRM, hEM⟩ := b18'
  have HEM := hid hEM
  have HHM := hid hHM
  clear hEM hHM
  have hacc : Below wr.heap.size wr wr.drew := (Below.refl _ _).drew
  conv => arg 2; whnf
  go_wp2_with fail
  refine wp_region_noPanic ?_
  refine wp_region_held_drew (S := (fun w' => w'.cell? ⟨g16, 0, none⟩ = some (.bool nD) ∧ w'.cell? ⟨g16, 1, none⟩ = some (.slice aD lD cD) ∧ w'.cell? ⟨g18, 0, none⟩ = some (.bool nM) ∧ w'.cell? ⟨g18, 1, none⟩ = some (.slice aM lM cM))) (by kernel_rfl) (by first | (with_reducible exact ⟨(two_cells HHD.out).1, (two_cells HHD.out).2.1, (two_cells HHM.out).1, (two_cells HHM.out).2.1⟩) | (dsimp only; with_reducible exact ⟨(two_cells HHD.out).1, (two_cells HHD.out).2.1, (two_cells HHM.out).1, (two_cells HHM.out).2.1⟩)) (fun hHeld => ?_)
  refine wpAnyH_take (i := 0) (oi := { dst := some 76, op := Op.move (Operand.tmp 5), type := 4, pos := "keeps.go:168", after := #[], guard := none }) (v := ?_) rfl (by kernel_rfl) (by kernel_rfl) (by kernel_rfl) (fun _ _ _ h => h) (Or.inl ⟨by rfl, ?_⟩) (by assumption) ?_
  rotate_left
  · first
      | (intro w5 hSw; (try dsimp only at hSw); go_simp; done)
      | (intro w5 hSw; (try dsimp only at hSw); go_simp; with_reducible rfl)
  try simp only [Act.put, List.setIfInBounds_toArray, List.set_cons_zero, List.set_cons_succ]
  refine wpAnyH_take (i := 1) (oi := { dst := some 77, op := Op.move (Operand.tmp 76), type := 4, pos := "keeps.go:168", after := #[{ on := 0, ground := Ground.data }], guard := none }) (v := ?_) rfl (by kernel_rfl) (by kernel_rfl) (by kernel_rfl) (fun _ _ _ h => h) (Or.inl ⟨by rfl, ?_⟩) (by assumption) ?_
  rotate_left
  · first
      | (intro w5 hSw; (try dsimp only at hSw); go_simp; done)
      | (intro w5 hSw; (try dsimp only at hSw); go_simp; with_reducible rfl)
  try simp only [Act.put, List.setIfInBounds_toArray, List.set_cons_zero, List.set_cons_succ]
  refine wpAnyH_take (i := 2) (oi := { dst := some 78, op := Op.move (Operand.tmp 7), type := 45, pos := "keeps.go:168", after := #[{ on := 1, ground := Ground.guard }], guard := some (1, true) }) (v := ?_) rfl (by kernel_rfl) (by kernel_rfl) (by kernel_rfl) (fun _ _ _ h => h) (Or.inl ⟨by rfl, ?_⟩) (by assumption) ?_
  rotate_left
  · first
      | (intro w5 hSw; (try dsimp only at hSw); go_simp; done)
      | (intro w5 hSw; (try dsimp only at hSw); go_simp; with_reducible rfl)
  try simp only [Act.put, List.setIfInBounds_toArray, List.set_cons_zero, List.set_cons_succ]
  refine wpAnyH_take (i := 3) (oi := { dst := some 79, op := Op.binOp BinOp.eql 45 (Operand.tmp 78) (Operand.const (Value.int IntKind.i64 0)) 45, type := 4, pos := "keeps.go:168", after := #[{ on := 2, ground := Ground.data }, { on := 1, ground := Ground.guard }], guard := some (1, true) }) (v := ?_) rfl (by kernel_rfl) (by kernel_rfl) (by kernel_rfl) (fun _ _ _ h => h) (Or.inl ⟨by rfl, ?_⟩) (by assumption) ?_
  rotate_left
  · first
      | (intro w5 hSw; (try dsimp only at hSw); go_simp; done)
      | (intro w5 hSw; (try dsimp only at hSw); go_simp; with_reducible rfl)
  try simp only [Act.put, List.setIfInBounds_toArray, List.set_cons_zero, List.set_cons_succ]
  refine wpAnyH_take (i := 4) (oi := { dst := some 80, op := Op.pick (Operand.tmp 77) (Operand.tmp 79) (Operand.const (Value.bool false)), type := 4, pos := "keeps.go:168", after := #[{ on := 1, ground := Ground.data }, { on := 3, ground := Ground.data }], guard := none }) (v := ?_) rfl (by kernel_rfl) (by kernel_rfl) (by kernel_rfl) (fun _ _ _ h => h) (Or.inl ⟨by rfl, ?_⟩) (by assumption) ?_
  rotate_left
  · first
      | (intro w5 hSw; (try dsimp only at hSw); go_simp; done)
      | (intro w5 hSw; (try dsimp only at hSw); go_simp; with_reducible rfl)
  try simp only [Act.put, List.setIfInBounds_toArray, List.set_cons_zero, List.set_cons_succ]
  refine wpAnyH_take (i := 5) (oi := { dst := some 81, op := Op.move (Operand.tmp 80), type := 4, pos := "keeps.go:168", after := #[{ on := 4, ground := Ground.data }, { on := 1, ground := Ground.chain }], guard := none }) (v := ?_) rfl (by kernel_rfl) (by kernel_rfl) (by kernel_rfl) (fun _ _ _ h => h) (Or.inl ⟨by rfl, ?_⟩) (by assumption) ?_
  rotate_left
  · first
      | (intro w5 hSw; (try dsimp only at hSw); go_simp; done)
      | (intro w5 hSw; (try dsimp only at hSw); go_simp; with_reducible rfl)
  try simp only [Act.put, List.setIfInBounds_toArray, List.set_cons_zero, List.set_cons_succ]
  refine wpAnyH_take (i := 6) (oi := { dst := some 82, op := Op.move (Operand.tmp 9), type := 45, pos := "keeps.go:168", after := #[{ on := 5, ground := Ground.guard }], guard := some (5, true) }) (v := ?_) rfl (by kernel_rfl) (by kernel_rfl) (by kernel_rfl) (fun _ _ _ h => h) (Or.inl ⟨by rfl, ?_⟩) (by assumption) ?_
  rotate_left
  · first
      | (intro w5 hSw; (try dsimp only at hSw); go_simp; done)
      | (intro w5 hSw; (try dsimp only at hSw); go_simp; with_reducible rfl)
  try simp only [Act.put, List.setIfInBounds_toArray, List.set_cons_zero, List.set_cons_succ]
  refine wpAnyH_take (i := 7) (oi := { dst := some 83, op := Op.binOp BinOp.eql 45 (Operand.tmp 82) (Operand.const (Value.int IntKind.i64 0)) 45, type := 4, pos := "keeps.go:168", after := #[{ on := 6, ground := Ground.data }, { on := 5, ground := Ground.guard }], guard := some (5, true) }) (v := ?_) rfl (by kernel_rfl) (by kernel_rfl) (by kernel_rfl) (fun _ _ _ h => h) (Or.inl ⟨by rfl, ?_⟩) (by assumption) ?_
  rotate_left
  · first
      | (intro w5 hSw; (try dsimp only at hSw); go_simp; done)
      | (intro w5 hSw; (try dsimp only at hSw); go_simp; with_reducible rfl)
  try simp only [Act.put, List.setIfInBounds_toArray, List.set_cons_zero, List.set_cons_succ]
  refine wpAnyH_take (i := 8) (oi := { dst := some 84, op := Op.pick (Operand.tmp 81) (Operand.tmp 83) (Operand.const (Value.bool false)), type := 4, pos := "keeps.go:168", after := #[{ on := 5, ground := Ground.data }, { on := 7, ground := Ground.data }], guard := none }) (v := ?_) rfl (by kernel_rfl) (by kernel_rfl) (by kernel_rfl) (fun _ _ _ h => h) (Or.inl ⟨by rfl, ?_⟩) (by assumption) ?_
  rotate_left
  · first
      | (intro w5 hSw; (try dsimp only at hSw); go_simp; done)
      | (intro w5 hSw; (try dsimp only at hSw); go_simp; with_reducible rfl)
  try simp only [Act.put, List.setIfInBounds_toArray, List.set_cons_zero, List.set_cons_succ]
  refine wpAnyH_take (i := 9) (oi := { dst := some 85, op := Op.move (Operand.tmp 84), type := 4, pos := "keeps.go:168", after := #[{ on := 8, ground := Ground.data }, { on := 5, ground := Ground.chain }], guard := none }) (v := ?_) rfl (by kernel_rfl) (by kernel_rfl) (by kernel_rfl) (fun _ _ _ h => h) (Or.inl ⟨by rfl, ?_⟩) (by assumption) ?_
  rotate_left
  · first
      | (intro w5 hSw; (try dsimp only at hSw); go_simp; done)
      | (intro w5 hSw; (try dsimp only at hSw); go_simp; with_reducible rfl)
  try simp only [Act.put, List.setIfInBounds_toArray, List.set_cons_zero, List.set_cons_succ]
  refine wpAnyH_take (i := 10) (oi := { dst := some 86, op := Op.move (Operand.tmp 11), type := 45, pos := "keeps.go:168", after := #[{ on := 9, ground := Ground.guard }], guard := some (9, true) }) (v := ?_) rfl (by kernel_rfl) (by kernel_rfl) (by kernel_rfl) (fun _ _ _ h => h) (Or.inl ⟨by rfl, ?_⟩) (by assumption) ?_
  rotate_left
  · first
      | (intro w5 hSw; (try dsimp only at hSw); go_simp; done)
      | (intro w5 hSw; (try dsimp only at hSw); go_simp; with_reducible rfl)
  try simp only [Act.put, List.setIfInBounds_toArray, List.set_cons_zero, List.set_cons_succ]
  refine wpAnyH_take (i := 11) (oi := { dst := some 87, op := Op.binOp BinOp.eql 45 (Operand.tmp 86) (Operand.const (Value.int IntKind.i64 0)) 45, type := 4, pos := "keeps.go:168", after := #[{ on := 10, ground := Ground.data }, { on := 9, ground := Ground.guard }], guard := some (9, true) }) (v := ?_) rfl (by kernel_rfl) (by kernel_rfl) (by kernel_rfl) (fun _ _ _ h => h) (Or.inl ⟨by rfl, ?_⟩) (by assumption) ?_
  rotate_left
  · first
      | (intro w5 hSw; (try dsimp only at hSw); go_simp; done)
      | (intro w5 hSw; (try dsimp only at hSw); go_simp; with_reducible rfl)
  try simp only [Act.put, List.setIfInBounds_toArray, List.set_cons_zero, List.set_cons_succ]
  refine wpAnyH_take (i := 12) (oi := { dst := some 88, op := Op.pick (Operand.tmp 85) (Operand.tmp 87) (Operand.const (Value.bool false)), type := 4, pos := "keeps.go:168", after := #[{ on := 9, ground := Ground.data }, { on := 11, ground := Ground.data }], guard := none }) (v := ?_) rfl (by kernel_rfl) (by kernel_rfl) (by kernel_rfl) (fun _ _ _ h => h) (Or.inl ⟨by rfl, ?_⟩) (by assumption) ?_
  rotate_left
  · first
      | (intro w5 hSw; (try dsimp only at hSw); go_simp; done)
      | (intro w5 hSw; (try dsimp only at hSw); go_simp; with_reducible rfl)
  try simp only [Act.put, List.setIfInBounds_toArray, List.set_cons_zero, List.set_cons_succ]
  refine wpAnyH_take (i := 13) (oi := { dst := some 89, op := Op.move (Operand.tmp 88), type := 4, pos := "keeps.go:168", after := #[{ on := 12, ground := Ground.data }, { on := 9, ground := Ground.chain }], guard := none }) (v := ?_) rfl (by kernel_rfl) (by kernel_rfl) (by kernel_rfl) (fun _ _ _ h => h) (Or.inl ⟨by rfl, ?_⟩) (by assumption) ?_
  rotate_left
  · first
      | (intro w5 hSw; (try dsimp only at hSw); go_simp; done)
      | (intro w5 hSw; (try dsimp only at hSw); go_simp; with_reducible rfl)
  try simp only [Act.put, List.setIfInBounds_toArray, List.set_cons_zero, List.set_cons_succ]
  refine wpAnyH_take (i := 14) (oi := { dst := some 90, op := Op.move (Operand.tmp 13), type := 45, pos := "keeps.go:168", after := #[{ on := 13, ground := Ground.guard }], guard := some (13, true) }) (v := ?_) rfl (by kernel_rfl) (by kernel_rfl) (by kernel_rfl) (fun _ _ _ h => h) (Or.inl ⟨by rfl, ?_⟩) (by assumption) ?_
  rotate_left
  · first
      | (intro w5 hSw; (try dsimp only at hSw); go_simp; done)
      | (intro w5 hSw; (try dsimp only at hSw); go_simp; with_reducible rfl)
  try simp only [Act.put, List.setIfInBounds_toArray, List.set_cons_zero, List.set_cons_succ]
  refine wpAnyH_take (i := 15) (oi := { dst := some 91, op := Op.binOp BinOp.eql 45 (Operand.tmp 90) (Operand.const (Value.int IntKind.i64 0)) 45, type := 4, pos := "keeps.go:168", after := #[{ on := 14, ground := Ground.data }, { on := 13, ground := Ground.guard }], guard := some (13, true) }) (v := ?_) rfl (by kernel_rfl) (by kernel_rfl) (by kernel_rfl) (fun _ _ _ h => h) (Or.inl ⟨by rfl, ?_⟩) (by assumption) ?_
  rotate_left
  · first
      | (intro w5 hSw; (try dsimp only at hSw); go_simp; done)
      | (intro w5 hSw; (try dsimp only at hSw); go_simp; with_reducible rfl)
  try simp only [Act.put, List.setIfInBounds_toArray, List.set_cons_zero, List.set_cons_succ]
  refine wpAnyH_take (i := 16) (oi := { dst := some 92, op := Op.pick (Operand.tmp 89) (Operand.tmp 91) (Operand.const (Value.bool false)), type := 4, pos := "keeps.go:168", after := #[{ on := 13, ground := Ground.data }, { on := 15, ground := Ground.data }], guard := none }) (v := ?_) rfl (by kernel_rfl) (by kernel_rfl) (by kernel_rfl) (fun _ _ _ h => h) (Or.inl ⟨by rfl, ?_⟩) (by assumption) ?_
  rotate_left
  · first
      | (intro w5 hSw; (try dsimp only at hSw); go_simp; done)
      | (intro w5 hSw; (try dsimp only at hSw); go_simp; with_reducible rfl)
  try simp only [Act.put, List.setIfInBounds_toArray, List.set_cons_zero, List.set_cons_succ]
  refine wpAnyH_take (i := 17) (oi := { dst := some 93, op := Op.move (Operand.tmp 92), type := 4, pos := "keeps.go:168", after := #[{ on := 16, ground := Ground.data }, { on := 13, ground := Ground.chain }], guard := none }) (v := ?_) rfl (by kernel_rfl) (by kernel_rfl) (by kernel_rfl) (fun _ _ _ h => h) (Or.inl ⟨by rfl, ?_⟩) (by assumption) ?_
  rotate_left
  · first
      | (intro w5 hSw; (try dsimp only at hSw); go_simp; done)
      | (intro w5 hSw; (try dsimp only at hSw); go_simp; with_reducible rfl)
  try simp only [Act.put, List.setIfInBounds_toArray, List.set_cons_zero, List.set_cons_succ]
  refine wpAnyH_take (i := 18) (oi := { dst := some 94, op := Op.move (Operand.tmp 15), type := 45, pos := "keeps.go:168", after := #[{ on := 17, ground := Ground.guard }], guard := some (17, true) }) (v := ?_) rfl (by kernel_rfl) (by kernel_rfl) (by kernel_rfl) (fun _ _ _ h => h) (Or.inl ⟨by rfl, ?_⟩) (by assumption) ?_
  rotate_left
  · first
      | (intro w5 hSw; (try dsimp only at hSw); go_simp; done)
      | (intro w5 hSw; (try dsimp only at hSw); go_simp; with_reducible rfl)
  try simp only [Act.put, List.setIfInBounds_toArray, List.set_cons_zero, List.set_cons_succ]
  refine wpAnyH_take (i := 19) (oi := { dst := some 95, op := Op.binOp BinOp.eql 45 (Operand.tmp 94) (Operand.const (Value.int IntKind.i64 0)) 45, type := 4, pos := "keeps.go:168", after := #[{ on := 18, ground := Ground.data }, { on := 17, ground := Ground.guard }], guard := some (17, true) }) (v := ?_) rfl (by kernel_rfl) (by kernel_rfl) (by kernel_rfl) (fun _ _ _ h => h) (Or.inl ⟨by rfl, ?_⟩) (by assumption) ?_
  rotate_left
  · first
      | (intro w5 hSw; (try dsimp only at hSw); go_simp; done)
      | (intro w5 hSw; (try dsimp only at hSw); go_simp; with_reducible rfl)
  try simp only [Act.put, List.setIfInBounds_toArray, List.set_cons_zero, List.set_cons_succ]
  refine wpAnyH_take (i := 20) (oi := { dst := some 96, op := Op.pick (Operand.tmp 93) (Operand.tmp 95) (Operand.const (Value.bool false)), type := 4, pos := "keeps.go:168", after := #[{ on := 17, ground := Ground.data }, { on := 19, ground := Ground.data }], guard := none }) (v := ?_) rfl (by kernel_rfl) (by kernel_rfl) (by kernel_rfl) (fun _ _ _ h => h) (Or.inl ⟨by rfl, ?_⟩) (by assumption) ?_
  rotate_left
  · first
      | (intro w5 hSw; (try dsimp only at hSw); go_simp; done)
      | (intro w5 hSw; (try dsimp only at hSw); go_simp; with_reducible rfl)
  try simp only [Act.put, List.setIfInBounds_toArray, List.set_cons_zero, List.set_cons_succ]
  refine wpAnyH_take (i := 21) (oi := { dst := some 97, op := Op.move (Operand.tmp 96), type := 4, pos := "keeps.go:168", after := #[{ on := 20, ground := Ground.data }, { on := 17, ground := Ground.chain }], guard := none }) (v := ?_) rfl (by kernel_rfl) (by kernel_rfl) (by kernel_rfl) (fun _ _ _ h => h) (Or.inl ⟨by rfl, ?_⟩) (by assumption) ?_
  rotate_left
  · first
      | (intro w5 hSw; (try dsimp only at hSw); go_simp; done)
      | (intro w5 hSw; (try dsimp only at hSw); go_simp; with_reducible rfl)
  try simp only [Act.put, List.setIfInBounds_toArray, List.set_cons_zero, List.set_cons_succ]
  refine wpAnyH_take (i := 22) (oi := { dst := some 98, op := Op.move (Operand.tmp 14), type := 68, pos := "keeps.go:168", after := #[{ on := 21, ground := Ground.guard }], guard := some (21, true) }) (v := ?_) rfl (by kernel_rfl) (by kernel_rfl) (by kernel_rfl) (fun _ _ _ h => h) (Or.inl ⟨by rfl, ?_⟩) (by assumption) ?_
  rotate_left
  · first
      | (intro w5 hSw; (try dsimp only at hSw); go_simp; done)
      | (intro w5 hSw; (try dsimp only at hSw); go_simp; with_reducible rfl)
  try simp only [Act.put, List.setIfInBounds_toArray, List.set_cons_zero, List.set_cons_succ]
  refine wpAnyH_take (i := 23) (oi := { dst := some 99, op := Op.move (Operand.tmp 6), type := 68, pos := "keeps.go:168", after := #[{ on := 21, ground := Ground.guard }], guard := some (21, true) }) (v := ?_) rfl (by kernel_rfl) (by kernel_rfl) (by kernel_rfl) (fun _ _ _ h => h) (Or.inl ⟨by rfl, ?_⟩) (by assumption) ?_
  rotate_left
  · first
      | (intro w5 hSw; (try dsimp only at hSw); go_simp; done)
      | (intro w5 hSw; (try dsimp only at hSw); go_simp; with_reducible rfl)
  try simp only [Act.put, List.setIfInBounds_toArray, List.set_cons_zero, List.set_cons_succ]
  refine wpAnyH_take (i := 24) (oi := { dst := some 100, op := Op.binOp BinOp.eql 68 (Operand.tmp 98) (Operand.tmp 99) 68, type := 4, pos := "keeps.go:168", after := #[{ on := 22, ground := Ground.data }, { on := 23, ground := Ground.data }, { on := 21, ground := Ground.guard }], guard := some (21, true) }) (v := ?_) rfl (by kernel_rfl) (by kernel_rfl) (by kernel_rfl) (fun _ _ _ h => h) (Or.inl ⟨by rfl, ?_⟩) (by assumption) ?_
  rotate_left
  · first
      | (intro w5 hSw; (try dsimp only at hSw); go_simp; done)
      | (intro w5 hSw; (try dsimp only at hSw); go_simp; with_reducible rfl)
  try simp only [Act.put, List.setIfInBounds_toArray, List.set_cons_zero, List.set_cons_succ]
  refine wpAnyH_take (i := 25) (oi := { dst := some 101, op := Op.pick (Operand.tmp 97) (Operand.tmp 100) (Operand.const (Value.bool false)), type := 4, pos := "keeps.go:168", after := #[{ on := 21, ground := Ground.data }, { on := 24, ground := Ground.data }], guard := none }) (v := ?_) rfl (by kernel_rfl) (by kernel_rfl) (by kernel_rfl) (fun _ _ _ h => h) (Or.inl ⟨by rfl, ?_⟩) (by assumption) ?_
  rotate_left
  · first
      | (intro w5 hSw; (try dsimp only at hSw); go_simp; done)
      | (intro w5 hSw; (try dsimp only at hSw); go_simp; with_reducible rfl)
  try simp only [Act.put, List.setIfInBounds_toArray, List.set_cons_zero, List.set_cons_succ]
  refine wpAnyH_take (i := 26) (oi := { dst := some 102, op := Op.move (Operand.tmp 101), type := 4, pos := "keeps.go:168", after := #[{ on := 25, ground := Ground.data }, { on := 21, ground := Ground.chain }], guard := none }) (v := ?_) rfl (by kernel_rfl) (by kernel_rfl) (by kernel_rfl) (fun _ _ _ h => h) (Or.inl ⟨by rfl, ?_⟩) (by assumption) ?_
  rotate_left
  · first
      | (intro w5 hSw; (try dsimp only at hSw); go_simp; done)
      | (intro w5 hSw; (try dsimp only at hSw); go_simp; with_reducible rfl)
  try simp only [Act.put, List.setIfInBounds_toArray, List.set_cons_zero, List.set_cons_succ]
  refine wpAnyH_take (i := 27) (oi := { dst := some 103, op := Op.load 24 (Operand.tmp 16), type := 24, pos := "keeps.go:168", after := #[{ on := 26, ground := Ground.guard }], guard := some (26, true) }) (v := ?_) rfl (by kernel_rfl) (by kernel_rfl) (by kernel_rfl) (fun _ _ _ h => h) (Or.inl ⟨by rfl, ?_⟩) (by assumption) ?_
  rotate_left
  · first
      | (intro w5 hSw; (try dsimp only at hSw); go_simp; done)
      | (intro w5 hSw; (try dsimp only at hSw); go_simp; with_reducible rfl)
  try simp only [Act.put, List.setIfInBounds_toArray, List.set_cons_zero, List.set_cons_succ]
  refine wpAnyH_take (i := 29) (oi := { dst := some 105, op := Op.load 24 (Operand.tmp 18), type := 24, pos := "keeps.go:168", after := #[{ on := 26, ground := Ground.guard }], guard := some (26, true) }) (v := ?_) rfl (by kernel_rfl) (by kernel_rfl) (by kernel_rfl) (fun _ _ _ h => h) (Or.inl ⟨by rfl, ?_⟩) (by assumption) ?_
  rotate_left
  · first
      | (intro w5 hSw; (try dsimp only at hSw); go_simp; done)
      | (intro w5 hSw; (try dsimp only at hSw); go_simp; with_reducible rfl)
  try simp only [Act.put, List.setIfInBounds_toArray, List.set_cons_zero, List.set_cons_succ]
  refine wpAnyH_ready (rs := [28]) (by kernel_rfl) (by simp) ?_
  refine AllReadyH.cons (o := { dst := some 104, op := Op.call { callee := Callee.value (Operand.func 67), args := #[Operand.tmp 103], argTypes := #[24] }, type := 24, pos := "keeps.go:168", after := #[{ on := 27, ground := Ground.data }, { on := 26, ground := Ground.chain }, { on := 26, ground := Ground.guard }], guard := some (26, true) }) rfl (fun K hK => ?_) AllReadyH.nil
  go_simp
  ((with_reducible refine (abs_ok _ hRD HED.out).mono ?_); rintro e w5 ⟨n1, ao1, len1, C1, rfl, hR1, hE1, hbk⟩; have HE1 := hid hE1; clear hE1; have hRD := hRD.keep hbk; have HHD := hid (heap_keep HHD.out hbk); have hRM := hRM.keep hbk; have HHM := hid (heap_keep HHM.out hbk); have hacc := hacc.trans (hbk.mono hacc.size))
  go_wp2_with fail
  refine hK.out _ _ ?_ (fun hHeld => ?_)
  · first
      | (with_reducible exact ⟨(two_cells HHD.out).1, (two_cells HHD.out).2.1, (two_cells HHM.out).1, (two_cells HHM.out).2.1⟩)
      | (dsimp only; with_reducible exact ⟨(two_cells HHD.out).1, (two_cells HHD.out).2.1, (two_cells HHM.out).1, (two_cells HHM.out).2.1⟩)
  clear hK K
  refine wpAnyH_ready (rs := [30]) (by kernel_rfl) (by simp) ?_
  refine AllReadyH.cons (o := { dst := some 106, op := Op.call { callee := Callee.value (Operand.func 30), args := #[Operand.tmp 104, Operand.tmp 105], argTypes := #[24, 24] }, type := 3, pos := "keeps.go:168", after := #[{ on := 28, ground := Ground.data }, { on := 29, ground := Ground.data }, { on := 28, ground := Ground.chain }, { on := 26, ground := Ground.guard }], guard := some (26, true) }) rfl (fun K hK => ?_) AllReadyH.nil
  go_simp
  ((with_reducible refine (cmp_any n1 ao1 len1 len1 C1 nM aM lM cM M _ hR1 hRM).mono ?_); rintro e w5 ⟨rfl, hbk⟩; rw [HE1.out, HEM.out, hsz]; have hRD := hRD.keep hbk; have HHD := hid (heap_keep HHD.out hbk); have hRM := hRM.keep hbk; have HHM := hid (heap_keep HHM.out hbk); have hacc := hacc.trans (hbk.mono hacc.size))
  go_wp2_with fail
  refine hK.out _ _ ?_ (fun hHeld => ?_)
  · first
      | (with_reducible exact ⟨(two_cells HHD.out).1, (two_cells HHD.out).2.1, (two_cells HHM.out).1, (two_cells HHM.out).2.1⟩)
      | (dsimp only; with_reducible exact ⟨(two_cells HHD.out).1, (two_cells HHD.out).2.1, (two_cells HHM.out).1, (two_cells HHM.out).2.1⟩)
  clear hK K
  refine wpAnyH_take (i := 31) (oi := { dst := some 107, op := Op.binOp BinOp.leq 3 (Operand.tmp 106) (Operand.const (Value.int IntKind.i64 0)) 3, type := 4, pos := "keeps.go:168", after := #[{ on := 30, ground := Ground.data }, { on := 26, ground := Ground.guard }], guard := some (26, true) }) (v := ?_) rfl (by kernel_rfl) (by kernel_rfl) (by kernel_rfl) (fun _ _ _ h => h) (Or.inl ⟨by rfl, ?_⟩) (by assumption) ?_
  rotate_left
  · first
      | (intro w5 hSw; (try dsimp only at hSw); go_simp; done)
      | (intro w5 hSw; (try dsimp only at hSw); go_simp; with_reducible rfl)
  try simp only [Act.put, List.setIfInBounds_toArray, List.set_cons_zero, List.set_cons_succ]
  refine wpAnyH_take (i := 32) (oi := { dst := some 108, op := Op.pick (Operand.tmp 102) (Operand.tmp 107) (Operand.const (Value.bool false)), type := 4, pos := "keeps.go:168", after := #[{ on := 26, ground := Ground.data }, { on := 31, ground := Ground.data }], guard := none }) (v := ?_) rfl (by kernel_rfl) (by kernel_rfl) (by kernel_rfl) (fun _ _ _ h => h) (Or.inl ⟨by rfl, ?_⟩) (by assumption) ?_
  rotate_left
  · first
      | (intro w5 hSw; (try dsimp only at hSw); go_simp; done)
      | (intro w5 hSw; (try dsimp only at hSw); go_simp; with_reducible rfl)
  try simp only [Act.put, List.setIfInBounds_toArray, List.set_cons_zero, List.set_cons_succ]
  refine wpAnyH_take (i := 33) (oi := { dst := some 109, op := Op.move (Operand.tmp 108), type := 4, pos := "keeps.go:168", after := #[{ on := 32, ground := Ground.data }, { on := 30, ground := Ground.chain }], guard := none }) (v := ?_) rfl (by kernel_rfl) (by kernel_rfl) (by kernel_rfl) (fun _ _ _ h => h) (Or.inl ⟨by rfl, ?_⟩) (by assumption) ?_
  rotate_left
  · first
      | (intro w5 hSw; (try dsimp only at hSw); go_simp; done)
      | (intro w5 hSw; (try dsimp only at hSw); go_simp; with_reducible rfl)
  try simp only [Act.put, List.setIfInBounds_toArray, List.set_cons_zero, List.set_cons_succ]
  refine wpAnyH_take (i := 34) (oi := { dst := some 110, op := Op.move (Operand.tmp 21), type := 3, pos := "keeps.go:168", after := #[{ on := 33, ground := Ground.guard }], guard := some (33, true) }) (v := ?_) rfl (by kernel_rfl) (by kernel_rfl) (by kernel_rfl) (fun _ _ _ h => h) (Or.inl ⟨by rfl, ?_⟩) (by assumption) ?_
  rotate_left
  · first
      | (intro w5 hSw; (try dsimp only at hSw); go_simp; done)
      | (intro w5 hSw; (try dsimp only at hSw); go_simp; with_reducible rfl)
  try simp only [Act.put, List.setIfInBounds_toArray, List.set_cons_zero, List.set_cons_succ]
  refine wpAnyH_take (i := 35) (oi := { dst := some 111, op := Op.move (Operand.tmp 20), type := 3, pos := "keeps.go:168", after := #[{ on := 33, ground := Ground.guard }], guard := some (33, true) }) (v := ?_) rfl (by kernel_rfl) (by kernel_rfl) (by kernel_rfl) (fun _ _ _ h => h) (Or.inl ⟨by rfl, ?_⟩) (by assumption) ?_
  rotate_left
  · first
      | (intro w5 hSw; (try dsimp only at hSw); go_simp; done)
      | (intro w5 hSw; (try dsimp only at hSw); go_simp; with_reducible rfl)
  try simp only [Act.put, List.setIfInBounds_toArray, List.set_cons_zero, List.set_cons_succ]
  refine wpAnyH_take (i := 36) (oi := { dst := some 112, op := Op.binOp BinOp.eql 3 (Operand.tmp 110) (Operand.tmp 111) 3, type := 4, pos := "keeps.go:168", after := #[{ on := 34, ground := Ground.data }, { on := 35, ground := Ground.data }, { on := 33, ground := Ground.guard }], guard := some (33, true) }) (v := ?_) rfl (by kernel_rfl) (by kernel_rfl) (by kernel_rfl) (fun _ _ _ h => h) (Or.inl ⟨by rfl, ?_⟩) (by assumption) ?_
  rotate_left
  · first
      | (intro w5 hSw; (try dsimp only at hSw); go_simp; done)
      | (intro w5 hSw; (try dsimp only at hSw); go_simp; with_reducible rfl)
  try simp only [Act.put, List.setIfInBounds_toArray, List.set_cons_zero, List.set_cons_succ]
  refine wpAnyH_take (i := 37) (oi := { dst := some 113, op := Op.move (Operand.tmp 112), type := 4, pos := "keeps.go:168", after := #[{ on := 36, ground := Ground.data }, { on := 33, ground := Ground.chain }, { on := 33, ground := Ground.guard }], guard := some (33, true) }) (v := ?_) rfl (by kernel_rfl) (by kernel_rfl) (by kernel_rfl) (fun _ _ _ h => h) (Or.inl ⟨by rfl, ?_⟩) (by assumption) ?_
  rotate_left
  · first
      | (intro w5 hSw; (try dsimp only at hSw); go_simp; done)
      | (intro w5 hSw; (try dsimp only at hSw); go_simp; with_reducible rfl)
  try simp only [Act.put, List.setIfInBounds_toArray, List.set_cons_zero, List.set_cons_succ]
  refine wpAnyH_take (i := 38) (oi := { dst := some 114, op := Op.move (Operand.tmp 21), type := 3, pos := "keeps.go:168", after := #[{ on := 37, ground := Ground.guard }], guard := some (37, false) }) (v := ?_) rfl (by kernel_rfl) (by kernel_rfl) (by kernel_rfl) (fun _ _ _ h => h) (Or.inl ⟨by rfl, ?_⟩) (by assumption) ?_
  rotate_left
  · first
      | (intro w5 hSw; (try dsimp only at hSw); go_simp; done)
      | (intro w5 hSw; (try dsimp only at hSw); go_simp; with_reducible rfl)
  try simp only [Act.put, List.setIfInBounds_toArray, List.set_cons_zero, List.set_cons_succ]
  refine wpAnyH_take (i := 39) (oi := { dst := some 115, op := Op.binOp BinOp.eql 3 (Operand.tmp 114) (Operand.const (Value.int IntKind.i64 0)) 3, type := 4, pos := "keeps.go:168", after := #[{ on := 38, ground := Ground.data }, { on := 37, ground := Ground.guard }], guard := some (37, false) }) (v := ?_) rfl (by kernel_rfl) (by kernel_rfl) (by kernel_rfl) (fun _ _ _ h => h) (Or.inl ⟨by rfl, ?_⟩) (by assumption) ?_
  rotate_left
  · first
      | (intro w5 hSw; (try dsimp only at hSw); go_simp; done)
      | (intro w5 hSw; (try dsimp only at hSw); go_simp; with_reducible rfl)
  try simp only [Act.put, List.setIfInBounds_toArray, List.set_cons_zero, List.set_cons_succ]
  refine wpAnyH_take (i := 40) (oi := { dst := some 116, op := Op.pick (Operand.tmp 113) (Operand.const (Value.bool true)) (Operand.tmp 115), type := 4, pos := "keeps.go:168", after := #[{ on := 37, ground := Ground.data }, { on := 39, ground := Ground.data }, { on := 33, ground := Ground.guard }], guard := some (33, true) }) (v := ?_) rfl (by kernel_rfl) (by kernel_rfl) (by kernel_rfl) (fun _ _ _ h => h) (Or.inl ⟨by rfl, ?_⟩) (by assumption) ?_
  rotate_left
  · first
      | (intro w5 hSw; (try dsimp only at hSw); go_simp; done)
      | (intro w5 hSw; (try dsimp only at hSw); go_simp; with_reducible rfl)
  try simp only [Act.put, List.setIfInBounds_toArray, List.set_cons_zero, List.set_cons_succ]
  refine wpAnyH_take (i := 41) (oi := { dst := some 117, op := Op.pick (Operand.tmp 109) (Operand.tmp 116) (Operand.const (Value.bool false)), type := 4, pos := "keeps.go:168", after := #[{ on := 33, ground := Ground.data }, { on := 40, ground := Ground.data }], guard := none }) (v := ?_) rfl (by kernel_rfl) (by kernel_rfl) (by kernel_rfl) (fun _ _ _ h => h) (Or.inl ⟨by rfl, ?_⟩) (by assumption) ?_
  rotate_left
  · first
      | (intro w5 hSw; (try dsimp only at hSw); go_simp; done)
      | (intro w5 hSw; (try dsimp only at hSw); go_simp; with_reducible rfl)
  try simp only [Act.put, List.setIfInBounds_toArray, List.set_cons_zero, List.set_cons_succ]
  refine wpAnyH_take (i := 42) (oi := { dst := some 4, op := Op.assign (Operand.tmp 117), type := 4, pos := "keeps.go:168", after := #[{ on := 41, ground := Ground.data }, { on := 37, ground := Ground.chain }, { on := 0, ground := Ground.phase }, { on := 1, ground := Ground.phase }, { on := 2, ground := Ground.phase }, { on := 3, ground := Ground.phase }, { on := 4, ground := Ground.phase }, { on := 5, ground := Ground.phase }, { on := 6, ground := Ground.phase }, { on := 7, ground := Ground.phase }, { on := 8, ground := Ground.phase }, { on := 9, ground := Ground.phase }, { on := 10, ground := Ground.phase }, { on := 11, ground := Ground.phase }, { on := 12, ground := Ground.phase }, { on := 13, ground := Ground.phase }, { on := 14, ground := Ground.phase }, { on := 15, ground := Ground.phase }, { on := 16, ground := Ground.phase }, { on := 17, ground := Ground.phase }, { on := 18, ground := Ground.phase }, { on := 19, ground := Ground.phase }, { on := 20, ground := Ground.phase }, { on := 21, ground := Ground.phase }, { on := 22, ground := Ground.phase }, { on := 23, ground := Ground.phase }, { on := 24, ground := Ground.phase }, { on := 25, ground := Ground.phase }, { on := 26, ground := Ground.phase }, { on := 27, ground := Ground.phase }, { on := 28, ground := Ground.phase }, { on := 29, ground := Ground.phase }, { on := 30, ground := Ground.phase }, { on := 31, ground := Ground.phase }, { on := 32, ground := Ground.phase }, { on := 33, ground := Ground.phase }, { on := 34, ground := Ground.phase }, { on := 35, ground := Ground.phase }, { on := 36, ground := Ground.phase }, { on := 37, ground := Ground.phase }, { on := 38, ground := Ground.phase }, { on := 39, ground := Ground.phase }, { on := 40, ground := Ground.phase }, { on := 41, ground := Ground.phase }], guard := none }) (v := ?_) rfl (by kernel_rfl) (by kernel_rfl) (by kernel_rfl) (fun _ _ _ h => h) (Or.inl ⟨by rfl, ?_⟩) (by assumption) ?_
  rotate_left
  · first
      | (intro w5 hSw; (try dsimp only at hSw); go_simp; done)
      | (intro w5 hSw; (try dsimp only at hSw); go_simp; with_reducible rfl)
  try simp only [Act.put, List.setIfInBounds_toArray, List.set_cons_zero, List.set_cons_succ]
  refine wpAnyH_done (by kernel_rfl) ?_ _
  refine NoPanic.normal ?_
  go_wp2
  unfold Q15
  go_ret
  exact ⟨rfl, hb.trans (hacc.mono hb.size)⟩

set_option maxRecDepth 100000 in
set_option maxHeartbeats 20000000 in
theorem NE_15_c11 {fa fb n : Nat} {w wr : World} {g2 g3 g10 g12 g16 g18 : Nat} {u0 u1 u4 u17 u22 u23 u24 u25 u26 u27 u28 u29 u30 u31 u32 u33 u34 u35 u36 u37 u38 u39 u40 u41 u42 u43 u44 u45 u46 u47 u48 u49 u50 u51 u52 u53 u54 u55 u56 u57 u58 u59 u60 u61 u62 u63 u64 u65 u66 u67 u68 u69 u70 u71 u72 u73 u74 u75 u76 u77 u78 u79 u80 u81 u82 u83 u84 u85 u86 u87 u88 u89 u90 u91 u92 u93 u94 u95 u96 u97 u98 u99 u100 u101 u102 u103 u104 u105 u106 u107 u108 u109 u110 u111 u112 u113 u114 u115 u116 u117 : Value} {va vb vm sc so : Int}
    (la : Lt 992 va) (lb : Lt 992 vb) (hf : Hid (fa = ibits va)) (hg : Hid (fb = ibits vb)) (hn : Hid (n = bl va.natAbs)) (hvm : Hid (((va - ival va).natAbs : Int) ≤ vm)) (hsc : Hid (sc = (va - vb).sign)) (hso : Hid (so = (ival va - ival vb).sign)) (hsz : (((va - ival va).natAbs : Int) - vm).sign = -1) (hx : so = 0) (hy : sc = 1)
    (hb : Below w.heap.size w wr) (h0 : w.heap.size ≤ g2)
    (o3 : g2 < g3) (o10 : g3 < g10) (o12 : g10 < g12) (o16 : g12 < g16) (o18 : g16 < g18)
    (b2 : Bx wr g2 (va)) (b3 : Bx wr g3 (vb)) (b10 : Bx wr g10 (ival va)) (b12 : Bx wr g12 (ival vb)) (b16 : Bx wr g16 (va - ival va)) (b18 : Bx wr g18 (vm)) :
    Code.wp Tryd.prog (tail15 15) (Q15 w) ⟨#[u0, u1, .pointer (some ⟨g2, 0, none⟩), .pointer (some ⟨g3, 0, none⟩), u4, .bool true, .int .u64 (fa : Int), .int .i64 0, .int .u64 (fb : Int), .int .i64 0, .pointer (some ⟨g10, 0, none⟩), .int .i64 0, .pointer (some ⟨g12, 0, none⟩), .int .i64 0, .int .u64 (fa : Int), .int .i64 0, .pointer (some ⟨g16, 0, none⟩), u17, .pointer (some ⟨g18, 0, none⟩), .int .i64 (n : Int), .int .i64 sc, .int .i64 so, u22, u23, u24, u25, u26, u27, u28, u29, u30, u31, u32, u33, u34, u35, u36, u37, u38, u39, u40, u41, u42, u43, u44, u45, u46, u47, u48, u49, u50, u51, u52, u53, u54, u55, u56, u57, u58, u59, u60, u61, u62, u63, u64, u65, u66, u67, u68, u69, u70, u71, u72, u73, u74, u75, u76, u77, u78, u79, u80, u81, u82, u83, u84, u85, u86, u87, u88, u89, u90, u91, u92, u93, u94, u95, u96, u97, u98, u99, u100, u101, u102, u103, u104, u105, u106, u107, u108, u109, u110, u111, u112, u113, u114, u115, u116, u117], []⟩ wr := by
  subst hx hy
  have b16' := b16.drew
  obtain ⟨nD, aD, lD, cD, D, hHD, hRD, hED⟩ := b16'
  have HED := hid hED
  have HHD := hid hHD
  clear hED hHD
  have b18' := b18.drew
  obtain ⟨nM, aM, lM, cM, M, hHM, hRM, hEM⟩ := b18'
  have HEM := hid hEM
  have HHM := hid hHM
  clear hEM hHM
  have hacc : Below wr.heap.size wr wr.drew := (Below.refl _ _).drew
  conv => arg 2; whnf
  go_wp2_with fail
  refine wp_region_noPanic ?_
  refine wp_region_held_drew (S := (fun w' => w'.cell? ⟨g16, 0, none⟩ = some (.bool nD) ∧ w'.cell? ⟨g16, 1, none⟩ = some (.slice aD lD cD) ∧ w'.cell? ⟨g18, 0, none⟩ = some (.bool nM) ∧ w'.cell? ⟨g18, 1, none⟩ = some (.slice aM lM cM))) (by kernel_rfl) (by first | (with_reducible exact ⟨(two_cells HHD.out).1, (two_cells HHD.out).2.1, (two_cells HHM.out).1, (two_cells HHM.out).2.1⟩) | (dsimp only; with_reducible exact ⟨(two_cells HHD.out).1, (two_cells HHD.out).2.1, (two_cells HHM.out).1, (two_cells HHM.out).2.1⟩)) (fun hHeld => ?_)
  refine wpAnyH_take (i := 0) (oi := { dst := some 76, op := Op.move (Operand.tmp 5), type := 4, pos := "keeps.go:168", after := #[], guard := none }) (v := ?_) rfl (by kernel_rfl) (by kernel_rfl) (by kernel_rfl) (fun _ _ _ h => h) (Or.inl ⟨by rfl, ?_⟩) (by assumption) ?_
  rotate_left
  · first
      | (intro w5 hSw; (try dsimp only at hSw); go_simp; done)
      | (intro w5 hSw; (try dsimp only at hSw); go_simp; with_reducible rfl)
  try simp only [Act.put, List.setIfInBounds_toArray, List.set_cons_zero, List.set_cons_succ]
  refine wpAnyH_take (i := 1) (oi := { dst := some 77, op := Op.move (Operand.tmp 76), type := 4, pos := "keeps.go:168", after := #[{ on := 0, ground := Ground.data }], guard := none }) (v := ?_) rfl (by kernel_rfl) (by kernel_rfl) (by kernel_rfl) (fun _ _ _ h => h) (Or.inl ⟨by rfl, ?_⟩) (by assumption) ?_
  rotate_left
  · first
      | (intro w5 hSw; (try dsimp only at hSw); go_simp; done)
      | (intro w5 hSw; (try dsimp only at hSw); go_simp; with_reducible rfl)
  try simp only [Act.put, List.setIfInBounds_toArray, List.set_cons_zero, List.set_cons_succ]
  refine wpAnyH_take (i := 2) (oi := { dst := some 78, op := Op.move (Operand.tmp 7), type := 45, pos := "keeps.go:168", after := #[{ on := 1, ground := Ground.guard }], guard := some (1, true) }) (v := ?_) rfl (by kernel_rfl) (by kernel_rfl) (by kernel_rfl) (fun _ _ _ h => h) (Or.inl ⟨by rfl, ?_⟩) (by assumption) ?_
  rotate_left
  · first
      | (intro w5 hSw; (try dsimp only at hSw); go_simp; done)
      | (intro w5 hSw; (try dsimp only at hSw); go_simp; with_reducible rfl)
  try simp only [Act.put, List.setIfInBounds_toArray, List.set_cons_zero, List.set_cons_succ]
  refine wpAnyH_take (i := 3) (oi := { dst := some 79, op := Op.binOp BinOp.eql 45 (Operand.tmp 78) (Operand.const (Value.int IntKind.i64 0)) 45, type := 4, pos := "keeps.go:168", after := #[{ on := 2, ground := Ground.data }, { on := 1, ground := Ground.guard }], guard := some (1, true) }) (v := ?_) rfl (by kernel_rfl) (by kernel_rfl) (by kernel_rfl) (fun _ _ _ h => h) (Or.inl ⟨by rfl, ?_⟩) (by assumption) ?_
  rotate_left
  · first
      | (intro w5 hSw; (try dsimp only at hSw); go_simp; done)
      | (intro w5 hSw; (try dsimp only at hSw); go_simp; with_reducible rfl)
  try simp only [Act.put, List.setIfInBounds_toArray, List.set_cons_zero, List.set_cons_succ]
  refine wpAnyH_take (i := 4) (oi := { dst := some 80, op := Op.pick (Operand.tmp 77) (Operand.tmp 79) (Operand.const (Value.bool false)), type := 4, pos := "keeps.go:168", after := #[{ on := 1, ground := Ground.data }, { on := 3, ground := Ground.data }], guard := none }) (v := ?_) rfl (by kernel_rfl) (by kernel_rfl) (by kernel_rfl) (fun _ _ _ h => h) (Or.inl ⟨by rfl, ?_⟩) (by assumption) ?_
  rotate_left
  · first
      | (intro w5 hSw; (try dsimp only at hSw); go_simp; done)
      | (intro w5 hSw; (try dsimp only at hSw); go_simp; with_reducible rfl)
  try simp only [Act.put, List.setIfInBounds_toArray, List.set_cons_zero, List.set_cons_succ]
  refine wpAnyH_take (i := 5) (oi := { dst := some 81, op := Op.move (Operand.tmp 80), type := 4, pos := "keeps.go:168", after := #[{ on := 4, ground := Ground.data }, { on := 1, ground := Ground.chain }], guard := none }) (v := ?_) rfl (by kernel_rfl) (by kernel_rfl) (by kernel_rfl) (fun _ _ _ h => h) (Or.inl ⟨by rfl, ?_⟩) (by assumption) ?_
  rotate_left
  · first
      | (intro w5 hSw; (try dsimp only at hSw); go_simp; done)
      | (intro w5 hSw; (try dsimp only at hSw); go_simp; with_reducible rfl)
  try simp only [Act.put, List.setIfInBounds_toArray, List.set_cons_zero, List.set_cons_succ]
  refine wpAnyH_take (i := 6) (oi := { dst := some 82, op := Op.move (Operand.tmp 9), type := 45, pos := "keeps.go:168", after := #[{ on := 5, ground := Ground.guard }], guard := some (5, true) }) (v := ?_) rfl (by kernel_rfl) (by kernel_rfl) (by kernel_rfl) (fun _ _ _ h => h) (Or.inl ⟨by rfl, ?_⟩) (by assumption) ?_
  rotate_left
  · first
      | (intro w5 hSw; (try dsimp only at hSw); go_simp; done)
      | (intro w5 hSw; (try dsimp only at hSw); go_simp; with_reducible rfl)
  try simp only [Act.put, List.setIfInBounds_toArray, List.set_cons_zero, List.set_cons_succ]
  refine wpAnyH_take (i := 7) (oi := { dst := some 83, op := Op.binOp BinOp.eql 45 (Operand.tmp 82) (Operand.const (Value.int IntKind.i64 0)) 45, type := 4, pos := "keeps.go:168", after := #[{ on := 6, ground := Ground.data }, { on := 5, ground := Ground.guard }], guard := some (5, true) }) (v := ?_) rfl (by kernel_rfl) (by kernel_rfl) (by kernel_rfl) (fun _ _ _ h => h) (Or.inl ⟨by rfl, ?_⟩) (by assumption) ?_
  rotate_left
  · first
      | (intro w5 hSw; (try dsimp only at hSw); go_simp; done)
      | (intro w5 hSw; (try dsimp only at hSw); go_simp; with_reducible rfl)
  try simp only [Act.put, List.setIfInBounds_toArray, List.set_cons_zero, List.set_cons_succ]
  refine wpAnyH_take (i := 8) (oi := { dst := some 84, op := Op.pick (Operand.tmp 81) (Operand.tmp 83) (Operand.const (Value.bool false)), type := 4, pos := "keeps.go:168", after := #[{ on := 5, ground := Ground.data }, { on := 7, ground := Ground.data }], guard := none }) (v := ?_) rfl (by kernel_rfl) (by kernel_rfl) (by kernel_rfl) (fun _ _ _ h => h) (Or.inl ⟨by rfl, ?_⟩) (by assumption) ?_
  rotate_left
  · first
      | (intro w5 hSw; (try dsimp only at hSw); go_simp; done)
      | (intro w5 hSw; (try dsimp only at hSw); go_simp; with_reducible rfl)
  try simp only [Act.put, List.setIfInBounds_toArray, List.set_cons_zero, List.set_cons_succ]
  refine wpAnyH_take (i := 9) (oi := { dst := some 85, op := Op.move (Operand.tmp 84), type := 4, pos := "keeps.go:168", after := #[{ on := 8, ground := Ground.data }, { on := 5, ground := Ground.chain }], guard := none }) (v := ?_) rfl (by kernel_rfl) (by kernel_rfl) (by kernel_rfl) (fun _ _ _ h => h) (Or.inl ⟨by rfl, ?_⟩) (by assumption) ?_
  rotate_left
  · first
      | (intro w5 hSw; (try dsimp only at hSw); go_simp; done)
      | (intro w5 hSw; (try dsimp only at hSw); go_simp; with_reducible rfl)
  try simp only [Act.put, List.setIfInBounds_toArray, List.set_cons_zero, List.set_cons_succ]
  refine wpAnyH_take (i := 10) (oi := { dst := some 86, op := Op.move (Operand.tmp 11), type := 45, pos := "keeps.go:168", after := #[{ on := 9, ground := Ground.guard }], guard := some (9, true) }) (v := ?_) rfl (by kernel_rfl) (by kernel_rfl) (by kernel_rfl) (fun _ _ _ h => h) (Or.inl ⟨by rfl, ?_⟩) (by assumption) ?_
  rotate_left
  · first
      | (intro w5 hSw; (try dsimp only at hSw); go_simp; done)
      | (intro w5 hSw; (try dsimp only at hSw); go_simp; with_reducible rfl)
  try simp only [Act.put, List.setIfInBounds_toArray, List.set_cons_zero, List.set_cons_succ]
  refine wpAnyH_take (i := 11) (oi := { dst := some 87, op := Op.binOp BinOp.eql 45 (Operand.tmp 86) (Operand.const (Value.int IntKind.i64 0)) 45, type := 4, pos := "keeps.go:168", after := #[{ on := 10, ground := Ground.data }, { on := 9, ground := Ground.guard }], guard := some (9, true) }) (v := ?_) rfl (by kernel_rfl) (by kernel_rfl) (by kernel_rfl) (fun _ _ _ h => h) (Or.inl ⟨by rfl, ?_⟩) (by assumption) ?_
  rotate_left
  · first
      | (intro w5 hSw; (try dsimp only at hSw); go_simp; done)
      | (intro w5 hSw; (try dsimp only at hSw); go_simp; with_reducible rfl)
  try simp only [Act.put, List.setIfInBounds_toArray, List.set_cons_zero, List.set_cons_succ]
  refine wpAnyH_take (i := 12) (oi := { dst := some 88, op := Op.pick (Operand.tmp 85) (Operand.tmp 87) (Operand.const (Value.bool false)), type := 4, pos := "keeps.go:168", after := #[{ on := 9, ground := Ground.data }, { on := 11, ground := Ground.data }], guard := none }) (v := ?_) rfl (by kernel_rfl) (by kernel_rfl) (by kernel_rfl) (fun _ _ _ h => h) (Or.inl ⟨by rfl, ?_⟩) (by assumption) ?_
  rotate_left
  · first
      | (intro w5 hSw; (try dsimp only at hSw); go_simp; done)
      | (intro w5 hSw; (try dsimp only at hSw); go_simp; with_reducible rfl)
  try simp only [Act.put, List.setIfInBounds_toArray, List.set_cons_zero, List.set_cons_succ]
  refine wpAnyH_take (i := 13) (oi := { dst := some 89, op := Op.move (Operand.tmp 88), type := 4, pos := "keeps.go:168", after := #[{ on := 12, ground := Ground.data }, { on := 9, ground := Ground.chain }], guard := none }) (v := ?_) rfl (by kernel_rfl) (by kernel_rfl) (by kernel_rfl) (fun _ _ _ h => h) (Or.inl ⟨by rfl, ?_⟩) (by assumption) ?_
  rotate_left
  · first
      | (intro w5 hSw; (try dsimp only at hSw); go_simp; done)
      | (intro w5 hSw; (try dsimp only at hSw); go_simp; with_reducible rfl)
  try simp only [Act.put, List.setIfInBounds_toArray, List.set_cons_zero, List.set_cons_succ]
  refine wpAnyH_take (i := 14) (oi := { dst := some 90, op := Op.move (Operand.tmp 13), type := 45, pos := "keeps.go:168", after := #[{ on := 13, ground := Ground.guard }], guard := some (13, true) }) (v := ?_) rfl (by kernel_rfl) (by kernel_rfl) (by kernel_rfl) (fun _ _ _ h => h) (Or.inl ⟨by rfl, ?_⟩) (by assumption) ?_
  rotate_left
  · first
      | (intro w5 hSw; (try dsimp only at hSw); go_simp; done)
      | (intro w5 hSw; (try dsimp only at hSw); go_simp; with_reducible rfl)
  try simp only [Act.put, List.setIfInBounds_toArray, List.set_cons_zero, List.set_cons_succ]
  refine wpAnyH_take (i := 15) (oi := { dst := some 91, op := Op.binOp BinOp.eql 45 (Operand.tmp 90) (Operand.const (Value.int IntKind.i64 0)) 45, type := 4, pos := "keeps.go:168", after := #[{ on := 14, ground := Ground.data }, { on := 13, ground := Ground.guard }], guard := some (13, true) }) (v := ?_) rfl (by kernel_rfl) (by kernel_rfl) (by kernel_rfl) (fun _ _ _ h => h) (Or.inl ⟨by rfl, ?_⟩) (by assumption) ?_
  rotate_left
  · first
      | (intro w5 hSw; (try dsimp only at hSw); go_simp; done)
      | (intro w5 hSw; (try dsimp only at hSw); go_simp; with_reducible rfl)
  try simp only [Act.put, List.setIfInBounds_toArray, List.set_cons_zero, List.set_cons_succ]
  refine wpAnyH_take (i := 16) (oi := { dst := some 92, op := Op.pick (Operand.tmp 89) (Operand.tmp 91) (Operand.const (Value.bool false)), type := 4, pos := "keeps.go:168", after := #[{ on := 13, ground := Ground.data }, { on := 15, ground := Ground.data }], guard := none }) (v := ?_) rfl (by kernel_rfl) (by kernel_rfl) (by kernel_rfl) (fun _ _ _ h => h) (Or.inl ⟨by rfl, ?_⟩) (by assumption) ?_
  rotate_left
  · first
      | (intro w5 hSw; (try dsimp only at hSw); go_simp; done)
      | (intro w5 hSw; (try dsimp only at hSw); go_simp; with_reducible rfl)
  try simp only [Act.put, List.setIfInBounds_toArray, List.set_cons_zero, List.set_cons_succ]
  refine wpAnyH_take (i := 17) (oi := { dst := some 93, op := Op.move (Operand.tmp 92), type := 4, pos := "keeps.go:168", after := #[{ on := 16, ground := Ground.data }, { on := 13, ground := Ground.chain }], guard := none }) (v := ?_) rfl (by kernel_rfl) (by kernel_rfl) (by kernel_rfl) (fun _ _ _ h => h) (Or.inl ⟨by rfl, ?_⟩) (by assumption) ?_
  rotate_left
  · first
      | (intro w5 hSw; (try dsimp only at hSw); go_simp; done)
      | (intro w5 hSw; (try dsimp only at hSw); go_simp; with_reducible rfl)
  try simp only [Act.put, List.setIfInBounds_toArray, List.set_cons_zero, List.set_cons_succ]
  refine wpAnyH_take (i := 18) (oi := { dst := some 94, op := Op.move (Operand.tmp 15), type := 45, pos := "keeps.go:168", after := #[{ on := 17, ground := Ground.guard }], guard := some (17, true) }) (v := ?_) rfl (by kernel_rfl) (by kernel_rfl) (by kernel_rfl) (fun _ _ _ h => h) (Or.inl ⟨by rfl, ?_⟩) (by assumption) ?_
  rotate_left
  · first
      | (intro w5 hSw; (try dsimp only at hSw); go_simp; done)
      | (intro w5 hSw; (try dsimp only at hSw); go_simp; with_reducible rfl)
  try simp only [Act.put, List.setIfInBounds_toArray, List.set_cons_zero, List.set_cons_succ]
  refine wpAnyH_take (i := 19) (oi := { dst := some 95, op := Op.binOp BinOp.eql 45 (Operand.tmp 94) (Operand.const (Value.int IntKind.i64 0)) 45, type := 4, pos := "keeps.go:168", after := #[{ on := 18, ground := Ground.data }, { on := 17, ground := Ground.guard }], guard := some (17, true) }) (v := ?_) rfl (by kernel_rfl) (by kernel_rfl) (by kernel_rfl) (fun _ _ _ h => h) (Or.inl ⟨by rfl, ?_⟩) (by assumption) ?_
  rotate_left
  · first
      | (intro w5 hSw; (try dsimp only at hSw); go_simp; done)
      | (intro w5 hSw; (try dsimp only at hSw); go_simp; with_reducible rfl)
  try simp only [Act.put, List.setIfInBounds_toArray, List.set_cons_zero, List.set_cons_succ]
  refine wpAnyH_take (i := 20) (oi := { dst := some 96, op := Op.pick (Operand.tmp 93) (Operand.tmp 95) (Operand.const (Value.bool false)), type := 4, pos := "keeps.go:168", after := #[{ on := 17, ground := Ground.data }, { on := 19, ground := Ground.data }], guard := none }) (v := ?_) rfl (by kernel_rfl) (by kernel_rfl) (by kernel_rfl) (fun _ _ _ h => h) (Or.inl ⟨by rfl, ?_⟩) (by assumption) ?_
  rotate_left
  · first
      | (intro w5 hSw; (try dsimp only at hSw); go_simp; done)
      | (intro w5 hSw; (try dsimp only at hSw); go_simp; with_reducible rfl)
  try simp only [Act.put, List.setIfInBounds_toArray, List.set_cons_zero, List.set_cons_succ]
  refine wpAnyH_take (i := 21) (oi := { dst := some 97, op := Op.move (Operand.tmp 96), type := 4, pos := "keeps.go:168", after := #[{ on := 20, ground := Ground.data }, { on := 17, ground := Ground.chain }], guard := none }) (v := ?_) rfl (by kernel_rfl) (by kernel_rfl) (by kernel_rfl) (fun _ _ _ h => h) (Or.inl ⟨by rfl, ?_⟩) (by assumption) ?_
  rotate_left
  · first
      | (intro w5 hSw; (try dsimp only at hSw); go_simp; done)
      | (intro w5 hSw; (try dsimp only at hSw); go_simp; with_reducible rfl)
  try simp only [Act.put, List.setIfInBounds_toArray, List.set_cons_zero, List.set_cons_succ]
  refine wpAnyH_take (i := 22) (oi := { dst := some 98, op := Op.move (Operand.tmp 14), type := 68, pos := "keeps.go:168", after := #[{ on := 21, ground := Ground.guard }], guard := some (21, true) }) (v := ?_) rfl (by kernel_rfl) (by kernel_rfl) (by kernel_rfl) (fun _ _ _ h => h) (Or.inl ⟨by rfl, ?_⟩) (by assumption) ?_
  rotate_left
  · first
      | (intro w5 hSw; (try dsimp only at hSw); go_simp; done)
      | (intro w5 hSw; (try dsimp only at hSw); go_simp; with_reducible rfl)
  try simp only [Act.put, List.setIfInBounds_toArray, List.set_cons_zero, List.set_cons_succ]
  refine wpAnyH_take (i := 23) (oi := { dst := some 99, op := Op.move (Operand.tmp 6), type := 68, pos := "keeps.go:168", after := #[{ on := 21, ground := Ground.guard }], guard := some (21, true) }) (v := ?_) rfl (by kernel_rfl) (by kernel_rfl) (by kernel_rfl) (fun _ _ _ h => h) (Or.inl ⟨by rfl, ?_⟩) (by assumption) ?_
  rotate_left
  · first
      | (intro w5 hSw; (try dsimp only at hSw); go_simp; done)
      | (intro w5 hSw; (try dsimp only at hSw); go_simp; with_reducible rfl)
  try simp only [Act.put, List.setIfInBounds_toArray, List.set_cons_zero, List.set_cons_succ]
  refine wpAnyH_take (i := 24) (oi := { dst := some 100, op := Op.binOp BinOp.eql 68 (Operand.tmp 98) (Operand.tmp 99) 68, type := 4, pos := "keeps.go:168", after := #[{ on := 22, ground := Ground.data }, { on := 23, ground := Ground.data }, { on := 21, ground := Ground.guard }], guard := some (21, true) }) (v := ?_) rfl (by kernel_rfl) (by kernel_rfl) (by kernel_rfl) (fun _ _ _ h => h) (Or.inl ⟨by rfl, ?_⟩) (by assumption) ?_
  rotate_left
  · first
      | (intro w5 hSw; (try dsimp only at hSw); go_simp; done)
      | (intro w5 hSw; (try dsimp only at hSw); go_simp; with_reducible rfl)
  try simp only [Act.put, List.setIfInBounds_toArray, List.set_cons_zero, List.set_cons_succ]
  refine wpAnyH_take (i := 25) (oi := { dst := some 101, op := Op.pick (Operand.tmp 97) (Operand.tmp 100) (Operand.const (Value.bool false)), type := 4, pos := "keeps.go:168", after := #[{ on := 21, ground := Ground.data }, { on := 24, ground := Ground.data }], guard := none }) (v := ?_) rfl (by kernel_rfl) (by kernel_rfl) (by kernel_rfl) (fun _ _ _ h => h) (Or.inl ⟨by rfl, ?_⟩) (by assumption) ?_
  rotate_left
  · first
      | (intro w5 hSw; (try dsimp only at hSw); go_simp; done)
      | (intro w5 hSw; (try dsimp only at hSw); go_simp; with_reducible rfl)
  try simp only [Act.put, List.setIfInBounds_toArray, List.set_cons_zero, List.set_cons_succ]
  refine wpAnyH_take (i := 26) (oi := { dst := some 102, op := Op.move (Operand.tmp 101), type := 4, pos := "keeps.go:168", after := #[{ on := 25, ground := Ground.data }, { on := 21, ground := Ground.chain }], guard := none }) (v := ?_) rfl (by kernel_rfl) (by kernel_rfl) (by kernel_rfl) (fun _ _ _ h => h) (Or.inl ⟨by rfl, ?_⟩) (by assumption) ?_
  rotate_left
  · first
      | (intro w5 hSw; (try dsimp only at hSw); go_simp; done)
      | (intro w5 hSw; (try dsimp only at hSw); go_simp; with_reducible rfl)
  try simp only [Act.put, List.setIfInBounds_toArray, List.set_cons_zero, List.set_cons_succ]
  refine wpAnyH_take (i := 27) (oi := { dst := some 103, op := Op.load 24 (Operand.tmp 16), type := 24, pos := "keeps.go:168", after := #[{ on := 26, ground := Ground.guard }], guard := some (26, true) }) (v := ?_) rfl (by kernel_rfl) (by kernel_rfl) (by kernel_rfl) (fun _ _ _ h => h) (Or.inl ⟨by rfl, ?_⟩) (by assumption) ?_
  rotate_left
  · first
      | (intro w5 hSw; (try dsimp only at hSw); go_simp; done)
      | (intro w5 hSw; (try dsimp only at hSw); go_simp; with_reducible rfl)
  try simp only [Act.put, List.setIfInBounds_toArray, List.set_cons_zero, List.set_cons_succ]
  refine wpAnyH_take (i := 29) (oi := { dst := some 105, op := Op.load 24 (Operand.tmp 18), type := 24, pos := "keeps.go:168", after := #[{ on := 26, ground := Ground.guard }], guard := some (26, true) }) (v := ?_) rfl (by kernel_rfl) (by kernel_rfl) (by kernel_rfl) (fun _ _ _ h => h) (Or.inl ⟨by rfl, ?_⟩) (by assumption) ?_
  rotate_left
  · first
      | (intro w5 hSw; (try dsimp only at hSw); go_simp; done)
      | (intro w5 hSw; (try dsimp only at hSw); go_simp; with_reducible rfl)
  try simp only [Act.put, List.setIfInBounds_toArray, List.set_cons_zero, List.set_cons_succ]
  refine wpAnyH_ready (rs := [28]) (by kernel_rfl) (by simp) ?_
  refine AllReadyH.cons (o := { dst := some 104, op := Op.call { callee := Callee.value (Operand.func 67), args := #[Operand.tmp 103], argTypes := #[24] }, type := 24, pos := "keeps.go:168", after := #[{ on := 27, ground := Ground.data }, { on := 26, ground := Ground.chain }, { on := 26, ground := Ground.guard }], guard := some (26, true) }) rfl (fun K hK => ?_) AllReadyH.nil
  go_simp
  ((with_reducible refine (abs_ok _ hRD HED.out).mono ?_); rintro e w5 ⟨n1, ao1, len1, C1, rfl, hR1, hE1, hbk⟩; have HE1 := hid hE1; clear hE1; have hRD := hRD.keep hbk; have HHD := hid (heap_keep HHD.out hbk); have hRM := hRM.keep hbk; have HHM := hid (heap_keep HHM.out hbk); have hacc := hacc.trans (hbk.mono hacc.size))
  go_wp2_with fail
  refine hK.out _ _ ?_ (fun hHeld => ?_)
  · first
      | (with_reducible exact ⟨(two_cells HHD.out).1, (two_cells HHD.out).2.1, (two_cells HHM.out).1, (two_cells HHM.out).2.1⟩)
      | (dsimp only; with_reducible exact ⟨(two_cells HHD.out).1, (two_cells HHD.out).2.1, (two_cells HHM.out).1, (two_cells HHM.out).2.1⟩)
  clear hK K
  refine wpAnyH_ready (rs := [30]) (by kernel_rfl) (by simp) ?_
  refine AllReadyH.cons (o := { dst := some 106, op := Op.call { callee := Callee.value (Operand.func 30), args := #[Operand.tmp 104, Operand.tmp 105], argTypes := #[24, 24] }, type := 3, pos := "keeps.go:168", after := #[{ on := 28, ground := Ground.data }, { on := 29, ground := Ground.data }, { on := 28, ground := Ground.chain }, { on := 26, ground := Ground.guard }], guard := some (26, true) }) rfl (fun K hK => ?_) AllReadyH.nil
  go_simp
  ((with_reducible refine (cmp_any n1 ao1 len1 len1 C1 nM aM lM cM M _ hR1 hRM).mono ?_); rintro e w5 ⟨rfl, hbk⟩; rw [HE1.out, HEM.out, hsz]; have hRD := hRD.keep hbk; have HHD := hid (heap_keep HHD.out hbk); have hRM := hRM.keep hbk; have HHM := hid (heap_keep HHM.out hbk); have hacc := hacc.trans (hbk.mono hacc.size))
  go_wp2_with fail
  refine hK.out _ _ ?_ (fun hHeld => ?_)
  · first
      | (with_reducible exact ⟨(two_cells HHD.out).1, (two_cells HHD.out).2.1, (two_cells HHM.out).1, (two_cells HHM.out).2.1⟩)
      | (dsimp only; with_reducible exact ⟨(two_cells HHD.out).1, (two_cells HHD.out).2.1, (two_cells HHM.out).1, (two_cells HHM.out).2.1⟩)
  clear hK K
  refine wpAnyH_take (i := 31) (oi := { dst := some 107, op := Op.binOp BinOp.leq 3 (Operand.tmp 106) (Operand.const (Value.int IntKind.i64 0)) 3, type := 4, pos := "keeps.go:168", after := #[{ on := 30, ground := Ground.data }, { on := 26, ground := Ground.guard }], guard := some (26, true) }) (v := ?_) rfl (by kernel_rfl) (by kernel_rfl) (by kernel_rfl) (fun _ _ _ h => h) (Or.inl ⟨by rfl, ?_⟩) (by assumption) ?_
  rotate_left
  · first
      | (intro w5 hSw; (try dsimp only at hSw); go_simp; done)
      | (intro w5 hSw; (try dsimp only at hSw); go_simp; with_reducible rfl)
  try simp only [Act.put, List.setIfInBounds_toArray, List.set_cons_zero, List.set_cons_succ]
  refine wpAnyH_take (i := 32) (oi := { dst := some 108, op := Op.pick (Operand.tmp 102) (Operand.tmp 107) (Operand.const (Value.bool false)), type := 4, pos := "keeps.go:168", after := #[{ on := 26, ground := Ground.data }, { on := 31, ground := Ground.data }], guard := none }) (v := ?_) rfl (by kernel_rfl) (by kernel_rfl) (by kernel_rfl) (fun _ _ _ h => h) (Or.inl ⟨by rfl, ?_⟩) (by assumption) ?_
  rotate_left
  · first
      | (intro w5 hSw; (try dsimp only at hSw); go_simp; done)
      | (intro w5 hSw; (try dsimp only at hSw); go_simp; with_reducible rfl)
  try simp only [Act.put, List.setIfInBounds_toArray, List.set_cons_zero, List.set_cons_succ]
  refine wpAnyH_take (i := 33) (oi := { dst := some 109, op := Op.move (Operand.tmp 108), type := 4, pos := "keeps.go:168", after := #[{ on := 32, ground := Ground.data }, { on := 30, ground := Ground.chain }], guard := none }) (v := ?_) rfl (by kernel_rfl) (by kernel_rfl) (by kernel_rfl) (fun _ _ _ h => h) (Or.inl ⟨by rfl, ?_⟩) (by assumption) ?_
  rotate_left
  · first
      | (intro w5 hSw; (try dsimp only at hSw); go_simp; done)
      | (intro w5 hSw; (try dsimp only at hSw); go_simp; with_reducible rfl)
  try simp only [Act.put, List.setIfInBounds_toArray, List.set_cons_zero, List.set_cons_succ]
  refine wpAnyH_take (i := 34) (oi := { dst := some 110, op := Op.move (Operand.tmp 21), type := 3, pos := "keeps.go:168", after := #[{ on := 33, ground := Ground.guard }], guard := some (33, true) }) (v := ?_) rfl (by kernel_rfl) (by kernel_rfl) (by kernel_rfl) (fun _ _ _ h => h) (Or.inl ⟨by rfl, ?_⟩) (by assumption) ?_
  rotate_left
  · first
      | (intro w5 hSw; (try dsimp only at hSw); go_simp; done)
      | (intro w5 hSw; (try dsimp only at hSw); go_simp; with_reducible rfl)
  try simp only [Act.put, List.setIfInBounds_toArray, List.set_cons_zero, List.set_cons_succ]
  refine wpAnyH_take (i := 35) (oi := { dst := some 111, op := Op.move (Operand.tmp 20), type := 3, pos := "keeps.go:168", after := #[{ on := 33, ground := Ground.guard }], guard := some (33, true) }) (v := ?_) rfl (by kernel_rfl) (by kernel_rfl) (by kernel_rfl) (fun _ _ _ h => h) (Or.inl ⟨by rfl, ?_⟩) (by assumption) ?_
  rotate_left
  · first
      | (intro w5 hSw; (try dsimp only at hSw); go_simp; done)
      | (intro w5 hSw; (try dsimp only at hSw); go_simp; with_reducible rfl)
  try simp only [Act.put, List.setIfInBounds_toArray, List.set_cons_zero, List.set_cons_succ]
  refine wpAnyH_take (i := 36) (oi := { dst := some 112, op := Op.binOp BinOp.eql 3 (Operand.tmp 110) (Operand.tmp 111) 3, type := 4, pos := "keeps.go:168", after := #[{ on := 34, ground := Ground.data }, { on := 35, ground := Ground.data }, { on := 33, ground := Ground.guard }], guard := some (33, true) }) (v := ?_) rfl (by kernel_rfl) (by kernel_rfl) (by kernel_rfl) (fun _ _ _ h => h) (Or.inl ⟨by rfl, ?_⟩) (by assumption) ?_
  rotate_left
  · first
      | (intro w5 hSw; (try dsimp only at hSw); go_simp; done)
      | (intro w5 hSw; (try dsimp only at hSw); go_simp; with_reducible rfl)
  try simp only [Act.put, List.setIfInBounds_toArray, List.set_cons_zero, List.set_cons_succ]
  refine wpAnyH_take (i := 37) (oi := { dst := some 113, op := Op.move (Operand.tmp 112), type := 4, pos := "keeps.go:168", after := #[{ on := 36, ground := Ground.data }, { on := 33, ground := Ground.chain }, { on := 33, ground := Ground.guard }], guard := some (33, true) }) (v := ?_) rfl (by kernel_rfl) (by kernel_rfl) (by kernel_rfl) (fun _ _ _ h => h) (Or.inl ⟨by rfl, ?_⟩) (by assumption) ?_
  rotate_left
  · first
      | (intro w5 hSw; (try dsimp only at hSw); go_simp; done)
      | (intro w5 hSw; (try dsimp only at hSw); go_simp; with_reducible rfl)
  try simp only [Act.put, List.setIfInBounds_toArray, List.set_cons_zero, List.set_cons_succ]
  refine wpAnyH_take (i := 38) (oi := { dst := some 114, op := Op.move (Operand.tmp 21), type := 3, pos := "keeps.go:168", after := #[{ on := 37, ground := Ground.guard }], guard := some (37, false) }) (v := ?_) rfl (by kernel_rfl) (by kernel_rfl) (by kernel_rfl) (fun _ _ _ h => h) (Or.inl ⟨by rfl, ?_⟩) (by assumption) ?_
  rotate_left
  · first
      | (intro w5 hSw; (try dsimp only at hSw); go_simp; done)
      | (intro w5 hSw; (try dsimp only at hSw); go_simp; with_reducible rfl)
  try simp only [Act.put, List.setIfInBounds_toArray, List.set_cons_zero, List.set_cons_succ]
  refine wpAnyH_take (i := 39) (oi := { dst := some 115, op := Op.binOp BinOp.eql 3 (Operand.tmp 114) (Operand.const (Value.int IntKind.i64 0)) 3, type := 4, pos := "keeps.go:168", after := #[{ on := 38, ground := Ground.data }, { on := 37, ground := Ground.guard }], guard := some (37, false) }) (v := ?_) rfl (by kernel_rfl) (by kernel_rfl) (by kernel_rfl) (fun _ _ _ h => h) (Or.inl ⟨by rfl, ?_⟩) (by assumption) ?_
  rotate_left
  · first
      | (intro w5 hSw; (try dsimp only at hSw); go_simp; done)
      | (intro w5 hSw; (try dsimp only at hSw); go_simp; with_reducible rfl)
  try simp only [Act.put, List.setIfInBounds_toArray, List.set_cons_zero, List.set_cons_succ]
  refine wpAnyH_take (i := 40) (oi := { dst := some 116, op := Op.pick (Operand.tmp 113) (Operand.const (Value.bool true)) (Operand.tmp 115), type := 4, pos := "keeps.go:168", after := #[{ on := 37, ground := Ground.data }, { on := 39, ground := Ground.data }, { on := 33, ground := Ground.guard }], guard := some (33, true) }) (v := ?_) rfl (by kernel_rfl) (by kernel_rfl) (by kernel_rfl) (fun _ _ _ h => h) (Or.inl ⟨by rfl, ?_⟩) (by assumption) ?_
  rotate_left
  · first
      | (intro w5 hSw; (try dsimp only at hSw); go_simp; done)
      | (intro w5 hSw; (try dsimp only at hSw); go_simp; with_reducible rfl)
  try simp only [Act.put, List.setIfInBounds_toArray, List.set_cons_zero, List.set_cons_succ]
  refine wpAnyH_take (i := 41) (oi := { dst := some 117, op := Op.pick (Operand.tmp 109) (Operand.tmp 116) (Operand.const (Value.bool false)), type := 4, pos := "keeps.go:168", after := #[{ on := 33, ground := Ground.data }, { on := 40, ground := Ground.data }], guard := none }) (v := ?_) rfl (by kernel_rfl) (by kernel_rfl) (by kernel_rfl) (fun _ _ _ h => h) (Or.inl ⟨by rfl, ?_⟩) (by assumption) ?_
  rotate_left
  · first
      | (intro w5 hSw; (try dsimp only at hSw); go_simp; done)
      | (intro w5 hSw; (try dsimp only at hSw); go_simp; with_reducible rfl)
  try simp only [Act.put, List.setIfInBounds_toArray, List.set_cons_zero, List.set_cons_succ]
  refine wpAnyH_take (i := 42) (oi := { dst := some 4, op := Op.assign (Operand.tmp 117), type := 4, pos := "keeps.go:168", after := #[{ on := 41, ground := Ground.data }, { on := 37, ground := Ground.chain }, { on := 0, ground := Ground.phase }, { on := 1, ground := Ground.phase }, { on := 2, ground := Ground.phase }, { on := 3, ground := Ground.phase }, { on := 4, ground := Ground.phase }, { on := 5, ground := Ground.phase }, { on := 6, ground := Ground.phase }, { on := 7, ground := Ground.phase }, { on := 8, ground := Ground.phase }, { on := 9, ground := Ground.phase }, { on := 10, ground := Ground.phase }, { on := 11, ground := Ground.phase }, { on := 12, ground := Ground.phase }, { on := 13, ground := Ground.phase }, { on := 14, ground := Ground.phase }, { on := 15, ground := Ground.phase }, { on := 16, ground := Ground.phase }, { on := 17, ground := Ground.phase }, { on := 18, ground := Ground.phase }, { on := 19, ground := Ground.phase }, { on := 20, ground := Ground.phase }, { on := 21, ground := Ground.phase }, { on := 22, ground := Ground.phase }, { on := 23, ground := Ground.phase }, { on := 24, ground := Ground.phase }, { on := 25, ground := Ground.phase }, { on := 26, ground := Ground.phase }, { on := 27, ground := Ground.phase }, { on := 28, ground := Ground.phase }, { on := 29, ground := Ground.phase }, { on := 30, ground := Ground.phase }, { on := 31, ground := Ground.phase }, { on := 32, ground := Ground.phase }, { on := 33, ground := Ground.phase }, { on := 34, ground := Ground.phase }, { on := 35, ground := Ground.phase }, { on := 36, ground := Ground.phase }, { on := 37, ground := Ground.phase }, { on := 38, ground := Ground.phase }, { on := 39, ground := Ground.phase }, { on := 40, ground := Ground.phase }, { on := 41, ground := Ground.phase }], guard := none }) (v := ?_) rfl (by kernel_rfl) (by kernel_rfl) (by kernel_rfl) (fun _ _ _ h => h) (Or.inl ⟨by rfl, ?_⟩) (by assumption) ?_
  rotate_left
  · first
      | (intro w5 hSw; (try dsimp only at hSw); go_simp; done)
      | (intro w5 hSw; (try dsimp only at hSw); go_simp; with_reducible rfl)
  try simp only [Act.put, List.setIfInBounds_toArray, List.set_cons_zero, List.set_cons_succ]
  refine wpAnyH_done (by kernel_rfl) ?_ _
  refine NoPanic.normal ?_
  go_wp2
  unfold Q15
  go_ret
  exact ⟨rfl, hb.trans (hacc.mono hb.size)⟩

set_option maxRecDepth 100000 in
set_option maxHeartbeats 20000000 in
theorem NE_15_c20 {fa fb n : Nat} {w wr : World} {g2 g3 g10 g12 g16 g18 : Nat} {u0 u1 u4 u17 u22 u23 u24 u25 u26 u27 u28 u29 u30 u31 u32 u33 u34 u35 u36 u37 u38 u39 u40 u41 u42 u43 u44 u45 u46 u47 u48 u49 u50 u51 u52 u53 u54 u55 u56 u57 u58 u59 u60 u61 u62 u63 u64 u65 u66 u67 u68 u69 u70 u71 u72 u73 u74 u75 u76 u77 u78 u79 u80 u81 u82 u83 u84 u85 u86 u87 u88 u89 u90 u91 u92 u93 u94 u95 u96 u97 u98 u99 u100 u101 u102 u103 u104 u105 u106 u107 u108 u109 u110 u111 u112 u113 u114 u115 u116 u117 : Value} {va vb vm sc so : Int}
    (la : Lt 992 va) (lb : Lt 992 vb) (hf : Hid (fa = ibits va)) (hg : Hid (fb = ibits vb)) (hn : Hid (n = bl va.natAbs)) (hvm : Hid (((va - ival va).natAbs : Int) ≤ vm)) (hsc : Hid (sc = (va - vb).sign)) (hso : Hid (so = (ival va - ival vb).sign)) (hsz : (((va - ival va).natAbs : Int) - vm).sign = 0) (hx : so = 0) (hy : sc = -1)
    (hb : Below w.heap.size w wr) (h0 : w.heap.size ≤ g2)
    (o3 : g2 < g3) (o10 : g3 < g10) (o12 : g10 < g12) (o16 : g12 < g16) (o18 : g16 < g18)
    (b2 : Bx wr g2 (va)) (b3 : Bx wr g3 (vb)) (b10 : Bx wr g10 (ival va)) (b12 : Bx wr g12 (ival vb)) (b16 : Bx wr g16 (va - ival va)) (b18 : Bx wr g18 (vm)) :
    Code.wp Tryd.prog (tail15 15) (Q15 w) ⟨#[u0, u1, .pointer (some ⟨g2, 0, none⟩), .pointer (some ⟨g3, 0, none⟩), u4, .bool true, .int .u64 (fa : Int), .int .i64 0, .int .u64 (fb : Int), .int .i64 0, .pointer (some ⟨g10, 0, none⟩), .int .i64 0, .pointer (some ⟨g12, 0, none⟩), .int .i64 0, .int .u64 (fa : Int), .int .i64 0, .pointer (some ⟨g16, 0, none⟩), u17, .pointer (some ⟨g18, 0, none⟩), .int .i64 (n : Int), .int .i64 sc, .int .i64 so, u22, u23, u24, u25, u26, u27, u28, u29, u30, u31, u32, u33, u34, u35, u36, u37, u38, u39, u40, u41, u42, u43, u44, u45, u46, u47, u48, u49, u50, u51, u52, u53, u54, u55, u56, u57, u58, u59, u60, u61, u62, u63, u64, u65, u66, u67, u68, u69, u70, u71, u72, u73, u74, u75, u76, u77, u78, u79, u80, u81, u82, u83, u84, u85, u86, u87, u88, u89, u90, u91, u92, u93, u94, u95, u96, u97, u98, u99, u100, u101, u102, u103, u104, u105, u106, u107, u108, u109, u110, u111, u112, u113, u114, u115, u116, u117], []⟩ wr := by
  subst hx hy
  have b16' := b16.drew
  obtain ⟨nD, aD, lD, cD, D, hHD, hRD, hED⟩ := b16'
  have HED := hid hED
  have HHD := hid hHD
  clear hED hHD
  have b18' := b18.drew
  obtain ⟨nM, aM, lM, cM, M, hHM, hRM, hEM⟩ := b18'
  have HEM := hid hEM
  have HHM := hid hHM
  clear hEM hHM
  have hacc : Below wr.heap.size wr wr.drew := (Below.refl _ _).drew
  conv => arg 2; whnf
  go_wp2_with fail
  refine wp_region_noPanic ?_
  refine wp_region_held_drew (S := (fun w' => w'.cell? ⟨g16, 0, none⟩ = some (.bool nD) ∧ w'.cell? ⟨g16, 1, none⟩ = some (.slice aD lD cD) ∧ w'.cell? ⟨g18, 0, none⟩ = some (.bool nM) ∧ w'.cell? ⟨g18, 1, none⟩ = some (.slice aM lM cM))) (by kernel_rfl) (by first | (with_reducible exact ⟨(two_cells HHD.out).1, (two_cells HHD.out).2.1, (two_cells HHM.out).1, (two_cells HHM.out).2.1⟩) | (dsimp only; with_reducible exact ⟨(two_cells HHD.out).1, (two_cells HHD.out).2.1, (two_cells HHM.out).1, (two_cells HHM.out).2.1⟩)) (fun hHeld => ?_)
  refine wpAnyH_take (i := 0) (oi := { dst := some 76, op := Op.move (Operand.tmp 5), type := 4, pos := "keeps.go:168", after := #[], guard := none }) (v := ?_) rfl (by kernel_rfl) (by kernel_rfl) (by kernel_rfl) (fun _ _ _ h => h) (Or.inl ⟨by rfl, ?_⟩) (by assumption) ?_
  rotate_left
  · first
      | (intro w5 hSw; (try dsimp only at hSw); go_simp; done)
      | (intro w5 hSw; (try dsimp only at hSw); go_simp; with_reducible rfl)
  try simp only [Act.put, List.setIfInBounds_toArray, List.set_cons_zero, List.set_cons_succ]
  refine wpAnyH_take (i := 1) (oi := { dst := some 77, op := Op.move (Operand.tmp 76), type := 4, pos := "keeps.go:168", after := #[{ on := 0, ground := Ground.data }], guard := none }) (v := ?_) rfl (by kernel_rfl) (by kernel_rfl) (by kernel_rfl) (fun _ _ _ h => h) (Or.inl ⟨by rfl, ?_⟩) (by assumption) ?_
  rotate_left
  · first
      | (intro w5 hSw; (try dsimp only at hSw); go_simp; done)
      | (intro w5 hSw; (try dsimp only at hSw); go_simp; with_reducible rfl)
  try simp only [Act.put, List.setIfInBounds_toArray, List.set_cons_zero, List.set_cons_succ]
  refine wpAnyH_take (i := 2) (oi := { dst := some 78, op := Op.move (Operand.tmp 7), type := 45, pos := "keeps.go:168", after := #[{ on := 1, ground := Ground.guard }], guard := some (1, true) }) (v := ?_) rfl (by kernel_rfl) (by kernel_rfl) (by kernel_rfl) (fun _ _ _ h => h) (Or.inl ⟨by rfl, ?_⟩) (by assumption) ?_
  rotate_left
  · first
      | (intro w5 hSw; (try dsimp only at hSw); go_simp; done)
      | (intro w5 hSw; (try dsimp only at hSw); go_simp; with_reducible rfl)
  try simp only [Act.put, List.setIfInBounds_toArray, List.set_cons_zero, List.set_cons_succ]
  refine wpAnyH_take (i := 3) (oi := { dst := some 79, op := Op.binOp BinOp.eql 45 (Operand.tmp 78) (Operand.const (Value.int IntKind.i64 0)) 45, type := 4, pos := "keeps.go:168", after := #[{ on := 2, ground := Ground.data }, { on := 1, ground := Ground.guard }], guard := some (1, true) }) (v := ?_) rfl (by kernel_rfl) (by kernel_rfl) (by kernel_rfl) (fun _ _ _ h => h) (Or.inl ⟨by rfl, ?_⟩) (by assumption) ?_
  rotate_left
  · first
      | (intro w5 hSw; (try dsimp only at hSw); go_simp; done)
      | (intro w5 hSw; (try dsimp only at hSw); go_simp; with_reducible rfl)
  try simp only [Act.put, List.setIfInBounds_toArray, List.set_cons_zero, List.set_cons_succ]
  refine wpAnyH_take (i := 4) (oi := { dst := some 80, op := Op.pick (Operand.tmp 77) (Operand.tmp 79) (Operand.const (Value.bool false)), type := 4, pos := "keeps.go:168", after := #[{ on := 1, ground := Ground.data }, { on := 3, ground := Ground.data }], guard := none }) (v := ?_) rfl (by kernel_rfl) (by kernel_rfl) (by kernel_rfl) (fun _ _ _ h => h) (Or.inl ⟨by rfl, ?_⟩) (by assumption) ?_
  rotate_left
  · first
      | (intro w5 hSw; (try dsimp only at hSw); go_simp; done)
      | (intro w5 hSw; (try dsimp only at hSw); go_simp; with_reducible rfl)
  try simp only [Act.put, List.setIfInBounds_toArray, List.set_cons_zero, List.set_cons_succ]
  refine wpAnyH_take (i := 5) (oi := { dst := some 81, op := Op.move (Operand.tmp 80), type := 4, pos := "keeps.go:168", after := #[{ on := 4, ground := Ground.data }, { on := 1, ground := Ground.chain }], guard := none }) (v := ?_) rfl (by kernel_rfl) (by kernel_rfl) (by kernel_rfl) (fun _ _ _ h => h) (Or.inl ⟨by rfl, ?_⟩) (by assumption) ?_
  rotate_left
  · first
      | (intro w5 hSw; (try dsimp only at hSw); go_simp; done)
      | (intro w5 hSw; (try dsimp only at hSw); go_simp; with_reducible rfl)
  try simp only [Act.put, List.setIfInBounds_toArray, List.set_cons_zero, List.set_cons_succ]
  refine wpAnyH_take (i := 6) (oi := { dst := some 82, op := Op.move (Operand.tmp 9), type := 45, pos := "keeps.go:168", after := #[{ on := 5, ground := Ground.guard }], guard := some (5, true) }) (v := ?_) rfl (by kernel_rfl) (by kernel_rfl) (by kernel_rfl) (fun _ _ _ h => h) (Or.inl ⟨by rfl, ?_⟩) (by assumption) ?_
  rotate_left
  · first
      | (intro w5 hSw; (try dsimp only at hSw); go_simp; done)
      | (intro w5 hSw; (try dsimp only at hSw); go_simp; with_reducible rfl)
  try simp only [Act.put, List.setIfInBounds_toArray, List.set_cons_zero, List.set_cons_succ]
  refine wpAnyH_take (i := 7) (oi := { dst := some 83, op := Op.binOp BinOp.eql 45 (Operand.tmp 82) (Operand.const (Value.int IntKind.i64 0)) 45, type := 4, pos := "keeps.go:168", after := #[{ on := 6, ground := Ground.data }, { on := 5, ground := Ground.guard }], guard := some (5, true) }) (v := ?_) rfl (by kernel_rfl) (by kernel_rfl) (by kernel_rfl) (fun _ _ _ h => h) (Or.inl ⟨by rfl, ?_⟩) (by assumption) ?_
  rotate_left
  · first
      | (intro w5 hSw; (try dsimp only at hSw); go_simp; done)
      | (intro w5 hSw; (try dsimp only at hSw); go_simp; with_reducible rfl)
  try simp only [Act.put, List.setIfInBounds_toArray, List.set_cons_zero, List.set_cons_succ]
  refine wpAnyH_take (i := 8) (oi := { dst := some 84, op := Op.pick (Operand.tmp 81) (Operand.tmp 83) (Operand.const (Value.bool false)), type := 4, pos := "keeps.go:168", after := #[{ on := 5, ground := Ground.data }, { on := 7, ground := Ground.data }], guard := none }) (v := ?_) rfl (by kernel_rfl) (by kernel_rfl) (by kernel_rfl) (fun _ _ _ h => h) (Or.inl ⟨by rfl, ?_⟩) (by assumption) ?_
  rotate_left
  · first
      | (intro w5 hSw; (try dsimp only at hSw); go_simp; done)
      | (intro w5 hSw; (try dsimp only at hSw); go_simp; with_reducible rfl)
  try simp only [Act.put, List.setIfInBounds_toArray, List.set_cons_zero, List.set_cons_succ]
  refine wpAnyH_take (i := 9) (oi := { dst := some 85, op := Op.move (Operand.tmp 84), type := 4, pos := "keeps.go:168", after := #[{ on := 8, ground := Ground.data }, { on := 5, ground := Ground.chain }], guard := none }) (v := ?_) rfl (by kernel_rfl) (by kernel_rfl) (by kernel_rfl) (fun _ _ _ h => h) (Or.inl ⟨by rfl, ?_⟩) (by assumption) ?_
  rotate_left
  · first
      | (intro w5 hSw; (try dsimp only at hSw); go_simp; done)
      | (intro w5 hSw; (try dsimp only at hSw); go_simp; with_reducible rfl)
  try simp only [Act.put, List.setIfInBounds_toArray, List.set_cons_zero, List.set_cons_succ]
  refine wpAnyH_take (i := 10) (oi := { dst := some 86, op := Op.move (Operand.tmp 11), type := 45, pos := "keeps.go:168", after := #[{ on := 9, ground := Ground.guard }], guard := some (9, true) }) (v := ?_) rfl (by kernel_rfl) (by kernel_rfl) (by kernel_rfl) (fun _ _ _ h => h) (Or.inl ⟨by rfl, ?_⟩) (by assumption) ?_
  rotate_left
  · first
      | (intro w5 hSw; (try dsimp only at hSw); go_simp; done)
      | (intro w5 hSw; (try dsimp only at hSw); go_simp; with_reducible rfl)
  try simp only [Act.put, List.setIfInBounds_toArray, List.set_cons_zero, List.set_cons_succ]
  refine wpAnyH_take (i := 11) (oi := { dst := some 87, op := Op.binOp BinOp.eql 45 (Operand.tmp 86) (Operand.const (Value.int IntKind.i64 0)) 45, type := 4, pos := "keeps.go:168", after := #[{ on := 10, ground := Ground.data }, { on := 9, ground := Ground.guard }], guard := some (9, true) }) (v := ?_) rfl (by kernel_rfl) (by kernel_rfl) (by kernel_rfl) (fun _ _ _ h => h) (Or.inl ⟨by rfl, ?_⟩) (by assumption) ?_
  rotate_left
  · first
      | (intro w5 hSw; (try dsimp only at hSw); go_simp; done)
      | (intro w5 hSw; (try dsimp only at hSw); go_simp; with_reducible rfl)
  try simp only [Act.put, List.setIfInBounds_toArray, List.set_cons_zero, List.set_cons_succ]
  refine wpAnyH_take (i := 12) (oi := { dst := some 88, op := Op.pick (Operand.tmp 85) (Operand.tmp 87) (Operand.const (Value.bool false)), type := 4, pos := "keeps.go:168", after := #[{ on := 9, ground := Ground.data }, { on := 11, ground := Ground.data }], guard := none }) (v := ?_) rfl (by kernel_rfl) (by kernel_rfl) (by kernel_rfl) (fun _ _ _ h => h) (Or.inl ⟨by rfl, ?_⟩) (by assumption) ?_
  rotate_left
  · first
      | (intro w5 hSw; (try dsimp only at hSw); go_simp; done)
      | (intro w5 hSw; (try dsimp only at hSw); go_simp; with_reducible rfl)
  try simp only [Act.put, List.setIfInBounds_toArray, List.set_cons_zero, List.set_cons_succ]
  refine wpAnyH_take (i := 13) (oi := { dst := some 89, op := Op.move (Operand.tmp 88), type := 4, pos := "keeps.go:168", after := #[{ on := 12, ground := Ground.data }, { on := 9, ground := Ground.chain }], guard := none }) (v := ?_) rfl (by kernel_rfl) (by kernel_rfl) (by kernel_rfl) (fun _ _ _ h => h) (Or.inl ⟨by rfl, ?_⟩) (by assumption) ?_
  rotate_left
  · first
      | (intro w5 hSw; (try dsimp only at hSw); go_simp; done)
      | (intro w5 hSw; (try dsimp only at hSw); go_simp; with_reducible rfl)
  try simp only [Act.put, List.setIfInBounds_toArray, List.set_cons_zero, List.set_cons_succ]
  refine wpAnyH_take (i := 14) (oi := { dst := some 90, op := Op.move (Operand.tmp 13), type := 45, pos := "keeps.go:168", after := #[{ on := 13, ground := Ground.guard }], guard := some (13, true) }) (v := ?_) rfl (by kernel_rfl) (by kernel_rfl) (by kernel_rfl) (fun _ _ _ h => h) (Or.inl ⟨by rfl, ?_⟩) (by assumption) ?_
  rotate_left
  · first
      | (intro w5 hSw; (try dsimp only at hSw); go_simp; done)
      | (intro w5 hSw; (try dsimp only at hSw); go_simp; with_reducible rfl)
  try simp only [Act.put, List.setIfInBounds_toArray, List.set_cons_zero, List.set_cons_succ]
  refine wpAnyH_take (i := 15) (oi := { dst := some 91, op := Op.binOp BinOp.eql 45 (Operand.tmp 90) (Operand.const (Value.int IntKind.i64 0)) 45, type := 4, pos := "keeps.go:168", after := #[{ on := 14, ground := Ground.data }, { on := 13, ground := Ground.guard }], guard := some (13, true) }) (v := ?_) rfl (by kernel_rfl) (by kernel_rfl) (by kernel_rfl) (fun _ _ _ h => h) (Or.inl ⟨by rfl, ?_⟩) (by assumption) ?_
  rotate_left
  · first
      | (intro w5 hSw; (try dsimp only at hSw); go_simp; done)
      | (intro w5 hSw; (try dsimp only at hSw); go_simp; with_reducible rfl)
  try simp only [Act.put, List.setIfInBounds_toArray, List.set_cons_zero, List.set_cons_succ]
  refine wpAnyH_take (i := 16) (oi := { dst := some 92, op := Op.pick (Operand.tmp 89) (Operand.tmp 91) (Operand.const (Value.bool false)), type := 4, pos := "keeps.go:168", after := #[{ on := 13, ground := Ground.data }, { on := 15, ground := Ground.data }], guard := none }) (v := ?_) rfl (by kernel_rfl) (by kernel_rfl) (by kernel_rfl) (fun _ _ _ h => h) (Or.inl ⟨by rfl, ?_⟩) (by assumption) ?_
  rotate_left
  · first
      | (intro w5 hSw; (try dsimp only at hSw); go_simp; done)
      | (intro w5 hSw; (try dsimp only at hSw); go_simp; with_reducible rfl)
  try simp only [Act.put, List.setIfInBounds_toArray, List.set_cons_zero, List.set_cons_succ]
  refine wpAnyH_take (i := 17) (oi := { dst := some 93, op := Op.move (Operand.tmp 92), type := 4, pos := "keeps.go:168", after := #[{ on := 16, ground := Ground.data }, { on := 13, ground := Ground.chain }], guard := none }) (v := ?_) rfl (by kernel_rfl) (by kernel_rfl) (by kernel_rfl) (fun _ _ _ h => h) (Or.inl ⟨by rfl, ?_⟩) (by assumption) ?_
  rotate_left
  · first
      | (intro w5 hSw; (try dsimp only at hSw); go_simp; done)
      | (intro w5 hSw; (try dsimp only at hSw); go_simp; with_reducible rfl)
  try simp only [Act.put, List.setIfInBounds_toArray, List.set_cons_zero, List.set_cons_succ]
  refine wpAnyH_take (i := 18) (oi := { dst := some 94, op := Op.move (Operand.tmp 15), type := 45, pos := "keeps.go:168", after := #[{ on := 17, ground := Ground.guard }], guard := some (17, true) }) (v := ?_) rfl (by kernel_rfl) (by kernel_rfl) (by kernel_rfl) (fun _ _ _ h => h) (Or.inl ⟨by rfl, ?_⟩) (by assumption) ?_
  rotate_left
  · first
      | (intro w5 hSw; (try dsimp only at hSw); go_simp; done)
      | (intro w5 hSw; (try dsimp only at hSw); go_simp; with_reducible rfl)
  try simp only [Act.put, List.setIfInBounds_toArray, List.set_cons_zero, List.set_cons_succ]
  refine wpAnyH_take (i := 19) (oi := { dst := some 95, op := Op.binOp BinOp.eql 45 (Operand.tmp 94) (Operand.const (Value.int IntKind.i64 0)) 45, type := 4, pos := "keeps.go:168", after := #[{ on := 18, ground := Ground.data }, { on := 17, ground := Ground.guard }], guard := some (17, true) }) (v := ?_) rfl (by kernel_rfl) (by kernel_rfl) (by kernel_rfl) (fun _ _ _ h => h) (Or.inl ⟨by rfl, ?_⟩) (by assumption) ?_
  rotate_left
  · first
      | (intro w5 hSw; (try dsimp only at hSw); go_simp; done)
      | (intro w5 hSw; (try dsimp only at hSw); go_simp; with_reducible rfl)
  try simp only [Act.put, List.setIfInBounds_toArray, List.set_cons_zero, List.set_cons_succ]
  refine wpAnyH_take (i := 20) (oi := { dst := some 96, op := Op.pick (Operand.tmp 93) (Operand.tmp 95) (Operand.const (Value.bool false)), type := 4, pos := "keeps.go:168", after := #[{ on := 17, ground := Ground.data }, { on := 19, ground := Ground.data }], guard := none }) (v := ?_) rfl (by kernel_rfl) (by kernel_rfl) (by kernel_rfl) (fun _ _ _ h => h) (Or.inl ⟨by rfl, ?_⟩) (by assumption) ?_
  rotate_left
  · first
      | (intro w5 hSw; (try dsimp only at hSw); go_simp; done)
      | (intro w5 hSw; (try dsimp only at hSw); go_simp; with_reducible rfl)
  try simp only [Act.put, List.setIfInBounds_toArray, List.set_cons_zero, List.set_cons_succ]
  refine wpAnyH_take (i := 21) (oi := { dst := some 97, op := Op.move (Operand.tmp 96), type := 4, pos := "keeps.go:168", after := #[{ on := 20, ground := Ground.data }, { on := 17, ground := Ground.chain }], guard := none }) (v := ?_) rfl (by kernel_rfl) (by kernel_rfl) (by kernel_rfl) (fun _ _ _ h => h) (Or.inl ⟨by rfl, ?_⟩) (by assumption) ?_
  rotate_left
  · first
      | (intro w5 hSw; (try dsimp only at hSw); go_simp; done)
      | (intro w5 hSw; (try dsimp only at hSw); go_simp; with_reducible rfl)
  try simp only [Act.put, List.setIfInBounds_toArray, List.set_cons_zero, List.set_cons_succ]
  refine wpAnyH_take (i := 22) (oi := { dst := some 98, op := Op.move (Operand.tmp 14), type := 68, pos := "keeps.go:168", after := #[{ on := 21, ground := Ground.guard }], guard := some (21, true) }) (v := ?_) rfl (by kernel_rfl) (by kernel_rfl) (by kernel_rfl) (fun _ _ _ h => h) (Or.inl ⟨by rfl, ?_⟩) (by assumption) ?_
  rotate_left
  · first
      | (intro w5 hSw; (try dsimp only at hSw); go_simp; done)
      | (intro w5 hSw; (try dsimp only at hSw); go_simp; with_reducible rfl)
  try simp only [Act.put, List.setIfInBounds_toArray, List.set_cons_zero, List.set_cons_succ]
  refine wpAnyH_take (i := 23) (oi := { dst := some 99, op := Op.move (Operand.tmp 6), type := 68, pos := "keeps.go:168", after := #[{ on := 21, ground := Ground.guard }], guard := some (21, true) }) (v := ?_) rfl (by kernel_rfl) (by kernel_rfl) (by kernel_rfl) (fun _ _ _ h => h) (Or.inl ⟨by rfl, ?_⟩) (by assumption) ?_
  rotate_left
  · first
      | (intro w5 hSw; (try dsimp only at hSw); go_simp; done)
      | (intro w5 hSw; (try dsimp only at hSw); go_simp; with_reducible rfl)
  try simp only [Act.put, List.setIfInBounds_toArray, List.set_cons_zero, List.set_cons_succ]
  refine wpAnyH_take (i := 24) (oi := { dst := some 100, op := Op.binOp BinOp.eql 68 (Operand.tmp 98) (Operand.tmp 99) 68, type := 4, pos := "keeps.go:168", after := #[{ on := 22, ground := Ground.data }, { on := 23, ground := Ground.data }, { on := 21, ground := Ground.guard }], guard := some (21, true) }) (v := ?_) rfl (by kernel_rfl) (by kernel_rfl) (by kernel_rfl) (fun _ _ _ h => h) (Or.inl ⟨by rfl, ?_⟩) (by assumption) ?_
  rotate_left
  · first
      | (intro w5 hSw; (try dsimp only at hSw); go_simp; done)
      | (intro w5 hSw; (try dsimp only at hSw); go_simp; with_reducible rfl)
  try simp only [Act.put, List.setIfInBounds_toArray, List.set_cons_zero, List.set_cons_succ]
  refine wpAnyH_take (i := 25) (oi := { dst := some 101, op := Op.pick (Operand.tmp 97) (Operand.tmp 100) (Operand.const (Value.bool false)), type := 4, pos := "keeps.go:168", after := #[{ on := 21, ground := Ground.data }, { on := 24, ground := Ground.data }], guard := none }) (v := ?_) rfl (by kernel_rfl) (by kernel_rfl) (by kernel_rfl) (fun _ _ _ h => h) (Or.inl ⟨by rfl, ?_⟩) (by assumption) ?_
  rotate_left
  · first
      | (intro w5 hSw; (try dsimp only at hSw); go_simp; done)
      | (intro w5 hSw; (try dsimp only at hSw); go_simp; with_reducible rfl)
  try simp only [Act.put, List.setIfInBounds_toArray, List.set_cons_zero, List.set_cons_succ]
  refine wpAnyH_take (i := 26) (oi := { dst := some 102, op := Op.move (Operand.tmp 101), type := 4, pos := "keeps.go:168", after := #[{ on := 25, ground := Ground.data }, { on := 21, ground := Ground.chain }], guard := none }) (v := ?_) rfl (by kernel_rfl) (by kernel_rfl) (by kernel_rfl) (fun _ _ _ h => h) (Or.inl ⟨by rfl, ?_⟩) (by assumption) ?_
  rotate_left
  · first
      | (intro w5 hSw; (try dsimp only at hSw); go_simp; done)
      | (intro w5 hSw; (try dsimp only at hSw); go_simp; with_reducible rfl)
  try simp only [Act.put, List.setIfInBounds_toArray, List.set_cons_zero, List.set_cons_succ]
  refine wpAnyH_take (i := 27) (oi := { dst := some 103, op := Op.load 24 (Operand.tmp 16), type := 24, pos := "keeps.go:168", after := #[{ on := 26, ground := Ground.guard }], guard := some (26, true) }) (v := ?_) rfl (by kernel_rfl) (by kernel_rfl) (by kernel_rfl) (fun _ _ _ h => h) (Or.inl ⟨by rfl, ?_⟩) (by assumption) ?_
  rotate_left
  · first
      | (intro w5 hSw; (try dsimp only at hSw); go_simp; done)
      | (intro w5 hSw; (try dsimp only at hSw); go_simp; with_reducible rfl)
  try simp only [Act.put, List.setIfInBounds_toArray, List.set_cons_zero, List.set_cons_succ]
  refine wpAnyH_take (i := 29) (oi := { dst := some 105, op := Op.load 24 (Operand.tmp 18), type := 24, pos := "keeps.go:168", after := #[{ on := 26, ground := Ground.guard }], guard := some (26, true) }) (v := ?_) rfl (by kernel_rfl) (by kernel_rfl) (by kernel_rfl) (fun _ _ _ h => h) (Or.inl ⟨by rfl, ?_⟩) (by assumption) ?_
  rotate_left
  · first
      | (intro w5 hSw; (try dsimp only at hSw); go_simp; done)
      | (intro w5 hSw; (try dsimp only at hSw); go_simp; with_reducible rfl)
  try simp only [Act.put, List.setIfInBounds_toArray, List.set_cons_zero, List.set_cons_succ]
  refine wpAnyH_ready (rs := [28]) (by kernel_rfl) (by simp) ?_
  refine AllReadyH.cons (o := { dst := some 104, op := Op.call { callee := Callee.value (Operand.func 67), args := #[Operand.tmp 103], argTypes := #[24] }, type := 24, pos := "keeps.go:168", after := #[{ on := 27, ground := Ground.data }, { on := 26, ground := Ground.chain }, { on := 26, ground := Ground.guard }], guard := some (26, true) }) rfl (fun K hK => ?_) AllReadyH.nil
  go_simp
  ((with_reducible refine (abs_ok _ hRD HED.out).mono ?_); rintro e w5 ⟨n1, ao1, len1, C1, rfl, hR1, hE1, hbk⟩; have HE1 := hid hE1; clear hE1; have hRD := hRD.keep hbk; have HHD := hid (heap_keep HHD.out hbk); have hRM := hRM.keep hbk; have HHM := hid (heap_keep HHM.out hbk); have hacc := hacc.trans (hbk.mono hacc.size))
  go_wp2_with fail
  refine hK.out _ _ ?_ (fun hHeld => ?_)
  · first
      | (with_reducible exact ⟨(two_cells HHD.out).1, (two_cells HHD.out).2.1, (two_cells HHM.out).1, (two_cells HHM.out).2.1⟩)
      | (dsimp only; with_reducible exact ⟨(two_cells HHD.out).1, (two_cells HHD.out).2.1, (two_cells HHM.out).1, (two_cells HHM.out).2.1⟩)
  clear hK K
  refine wpAnyH_ready (rs := [30]) (by kernel_rfl) (by simp) ?_
  refine AllReadyH.cons (o := { dst := some 106, op := Op.call { callee := Callee.value (Operand.func 30), args := #[Operand.tmp 104, Operand.tmp 105], argTypes := #[24, 24] }, type := 3, pos := "keeps.go:168", after := #[{ on := 28, ground := Ground.data }, { on := 29, ground := Ground.data }, { on := 28, ground := Ground.chain }, { on := 26, ground := Ground.guard }], guard := some (26, true) }) rfl (fun K hK => ?_) AllReadyH.nil
  go_simp
  ((with_reducible refine (cmp_any n1 ao1 len1 len1 C1 nM aM lM cM M _ hR1 hRM).mono ?_); rintro e w5 ⟨rfl, hbk⟩; rw [HE1.out, HEM.out, hsz]; have hRD := hRD.keep hbk; have HHD := hid (heap_keep HHD.out hbk); have hRM := hRM.keep hbk; have HHM := hid (heap_keep HHM.out hbk); have hacc := hacc.trans (hbk.mono hacc.size))
  go_wp2_with fail
  refine hK.out _ _ ?_ (fun hHeld => ?_)
  · first
      | (with_reducible exact ⟨(two_cells HHD.out).1, (two_cells HHD.out).2.1, (two_cells HHM.out).1, (two_cells HHM.out).2.1⟩)
      | (dsimp only; with_reducible exact ⟨(two_cells HHD.out).1, (two_cells HHD.out).2.1, (two_cells HHM.out).1, (two_cells HHM.out).2.1⟩)
  clear hK K
  refine wpAnyH_take (i := 31) (oi := { dst := some 107, op := Op.binOp BinOp.leq 3 (Operand.tmp 106) (Operand.const (Value.int IntKind.i64 0)) 3, type := 4, pos := "keeps.go:168", after := #[{ on := 30, ground := Ground.data }, { on := 26, ground := Ground.guard }], guard := some (26, true) }) (v := ?_) rfl (by kernel_rfl) (by kernel_rfl) (by kernel_rfl) (fun _ _ _ h => h) (Or.inl ⟨by rfl, ?_⟩) (by assumption) ?_
  rotate_left
  · first
      | (intro w5 hSw; (try dsimp only at hSw); go_simp; done)
      | (intro w5 hSw; (try dsimp only at hSw); go_simp; with_reducible rfl)
  try simp only [Act.put, List.setIfInBounds_toArray, List.set_cons_zero, List.set_cons_succ]
  refine wpAnyH_take (i := 32) (oi := { dst := some 108, op := Op.pick (Operand.tmp 102) (Operand.tmp 107) (Operand.const (Value.bool false)), type := 4, pos := "keeps.go:168", after := #[{ on := 26, ground := Ground.data }, { on := 31, ground := Ground.data }], guard := none }) (v := ?_) rfl (by kernel_rfl) (by kernel_rfl) (by kernel_rfl) (fun _ _ _ h => h) (Or.inl ⟨by rfl, ?_⟩) (by assumption) ?_
  rotate_left
  · first
      | (intro w5 hSw; (try dsimp only at hSw); go_simp; done)
      | (intro w5 hSw; (try dsimp only at hSw); go_simp; with_reducible rfl)
  try simp only [Act.put, List.setIfInBounds_toArray, List.set_cons_zero, List.set_cons_succ]
  refine wpAnyH_take (i := 33) (oi := { dst := some 109, op := Op.move (Operand.tmp 108), type := 4, pos := "keeps.go:168", after := #[{ on := 32, ground := Ground.data }, { on := 30, ground := Ground.chain }], guard := none }) (v := ?_) rfl (by kernel_rfl) (by kernel_rfl) (by kernel_rfl) (fun _ _ _ h => h) (Or.inl ⟨by rfl, ?_⟩) (by assumption) ?_
  rotate_left
  · first
      | (intro w5 hSw; (try dsimp only at hSw); go_simp; done)
      | (intro w5 hSw; (try dsimp only at hSw); go_simp; with_reducible rfl)
  try simp only [Act.put, List.setIfInBounds_toArray, List.set_cons_zero, List.set_cons_succ]
  refine wpAnyH_take (i := 34) (oi := { dst := some 110, op := Op.move (Operand.tmp 21), type := 3, pos := "keeps.go:168", after := #[{ on := 33, ground := Ground.guard }], guard := some (33, true) }) (v := ?_) rfl (by kernel_rfl) (by kernel_rfl) (by kernel_rfl) (fun _ _ _ h => h) (Or.inl ⟨by rfl, ?_⟩) (by assumption) ?_
  rotate_left
  · first
      | (intro w5 hSw; (try dsimp only at hSw); go_simp; done)
      | (intro w5 hSw; (try dsimp only at hSw); go_simp; with_reducible rfl)
  try simp only [Act.put, List.setIfInBounds_toArray, List.set_cons_zero, List.set_cons_succ]
  refine wpAnyH_take (i := 35) (oi := { dst := some 111, op := Op.move (Operand.tmp 20), type := 3, pos := "keeps.go:168", after := #[{ on := 33, ground := Ground.guard }], guard := some (33, true) }) (v := ?_) rfl (by kernel_rfl) (by kernel_rfl) (by kernel_rfl) (fun _ _ _ h => h) (Or.inl ⟨by rfl, ?_⟩) (by assumption) ?_
  rotate_left
  · first
      | (intro w5 hSw; (try dsimp only at hSw); go_simp; done)
      | (intro w5 hSw; (try dsimp only at hSw); go_simp; with_reducible rfl)
  try simp only [Act.put, List.setIfInBounds_toArray, List.set_cons_zero, List.set_cons_succ]
  refine wpAnyH_take (i := 36) (oi := { dst := some 112, op := Op.binOp BinOp.eql 3 (Operand.tmp 110) (Operand.tmp 111) 3, type := 4, pos := "keeps.go:168", after := #[{ on := 34, ground := Ground.data }, { on := 35, ground := Ground.data }, { on := 33, ground := Ground.guard }], guard := some (33, true) }) (v := ?_) rfl (by kernel_rfl) (by kernel_rfl) (by kernel_rfl) (fun _ _ _ h => h) (Or.inl ⟨by rfl, ?_⟩) (by assumption) ?_
  rotate_left
  · first
      | (intro w5 hSw; (try dsimp only at hSw); go_simp; done)
      | (intro w5 hSw; (try dsimp only at hSw); go_simp; with_reducible rfl)
  try simp only [Act.put, List.setIfInBounds_toArray, List.set_cons_zero, List.set_cons_succ]
  refine wpAnyH_take (i := 37) (oi := { dst := some 113, op := Op.move (Operand.tmp 112), type := 4, pos := "keeps.go:168", after := #[{ on := 36, ground := Ground.data }, { on := 33, ground := Ground.chain }, { on := 33, ground := Ground.guard }], guard := some (33, true) }) (v := ?_) rfl (by kernel_rfl) (by kernel_rfl) (by kernel_rfl) (fun _ _ _ h => h) (Or.inl ⟨by rfl, ?_⟩) (by assumption) ?_
  rotate_left
  · first
      | (intro w5 hSw; (try dsimp only at hSw); go_simp; done)
      | (intro w5 hSw; (try dsimp only at hSw); go_simp; with_reducible rfl)
  try simp only [Act.put, List.setIfInBounds_toArray, List.set_cons_zero, List.set_cons_succ]
  refine wpAnyH_take (i := 38) (oi := { dst := some 114, op := Op.move (Operand.tmp 21), type := 3, pos := "keeps.go:168", after := #[{ on := 37, ground := Ground.guard }], guard := some (37, false) }) (v := ?_) rfl (by kernel_rfl) (by kernel_rfl) (by kernel_rfl) (fun _ _ _ h => h) (Or.inl ⟨by rfl, ?_⟩) (by assumption) ?_
  rotate_left
  · first
      | (intro w5 hSw; (try dsimp only at hSw); go_simp; done)
      | (intro w5 hSw; (try dsimp only at hSw); go_simp; with_reducible rfl)
  try simp only [Act.put, List.setIfInBounds_toArray, List.set_cons_zero, List.set_cons_succ]
  refine wpAnyH_take (i := 39) (oi := { dst := some 115, op := Op.binOp BinOp.eql 3 (Operand.tmp 114) (Operand.const (Value.int IntKind.i64 0)) 3, type := 4, pos := "keeps.go:168", after := #[{ on := 38, ground := Ground.data }, { on := 37, ground := Ground.guard }], guard := some (37, false) }) (v := ?_) rfl (by kernel_rfl) (by kernel_rfl) (by kernel_rfl) (fun _ _ _ h => h) (Or.inl ⟨by rfl, ?_⟩) (by assumption) ?_
  rotate_left
  · first
      | (intro w5 hSw; (try dsimp only at hSw); go_simp; done)
      | (intro w5 hSw; (try dsimp only at hSw); go_simp; with_reducible rfl)
  try simp only [Act.put, List.setIfInBounds_toArray, List.set_cons_zero, List.set_cons_succ]
  refine wpAnyH_take (i := 40) (oi := { dst := some 116, op := Op.pick (Operand.tmp 113) (Operand.const (Value.bool true)) (Operand.tmp 115), type := 4, pos := "keeps.go:168", after := #[{ on := 37, ground := Ground.data }, { on := 39, ground := Ground.data }, { on := 33, ground := Ground.guard }], guard := some (33, true) }) (v := ?_) rfl (by kernel_rfl) (by kernel_rfl) (by kernel_rfl) (fun _ _ _ h => h) (Or.inl ⟨by rfl, ?_⟩) (by assumption) ?_
  rotate_left
  · first
      | (intro w5 hSw; (try dsimp only at hSw); go_simp; done)
      | (intro w5 hSw; (try dsimp only at hSw); go_simp; with_reducible rfl)
  try simp only [Act.put, List.setIfInBounds_toArray, List.set_cons_zero, List.set_cons_succ]
  refine wpAnyH_take (i := 41) (oi := { dst := some 117, op := Op.pick (Operand.tmp 109) (Operand.tmp 116) (Operand.const (Value.bool false)), type := 4, pos := "keeps.go:168", after := #[{ on := 33, ground := Ground.data }, { on := 40, ground := Ground.data }], guard := none }) (v := ?_) rfl (by kernel_rfl) (by kernel_rfl) (by kernel_rfl) (fun _ _ _ h => h) (Or.inl ⟨by rfl, ?_⟩) (by assumption) ?_
  rotate_left
  · first
      | (intro w5 hSw; (try dsimp only at hSw); go_simp; done)
      | (intro w5 hSw; (try dsimp only at hSw); go_simp; with_reducible rfl)
  try simp only [Act.put, List.setIfInBounds_toArray, List.set_cons_zero, List.set_cons_succ]
  refine wpAnyH_take (i := 42) (oi := { dst := some 4, op := Op.assign (Operand.tmp 117), type := 4, pos := "keeps.go:168", after := #[{ on := 41, ground := Ground.data }, { on := 37, ground := Ground.chain }, { on := 0, ground := Ground.phase }, { on := 1, ground := Ground.phase }, { on := 2, ground := Ground.phase }, { on := 3, ground := Ground.phase }, { on := 4, ground := Ground.phase }, { on := 5, ground := Ground.phase }, { on := 6, ground := Ground.phase }, { on := 7, ground := Ground.phase }, { on := 8, ground := Ground.phase }, { on := 9, ground := Ground.phase }, { on := 10, ground := Ground.phase }, { on := 11, ground := Ground.phase }, { on := 12, ground := Ground.phase }, { on := 13, ground := Ground.phase }, { on := 14, ground := Ground.phase }, { on := 15, ground := Ground.phase }, { on := 16, ground := Ground.phase }, { on := 17, ground := Ground.phase }, { on := 18, ground := Ground.phase }, { on := 19, ground := Ground.phase }, { on := 20, ground := Ground.phase }, { on := 21, ground := Ground.phase }, { on := 22, ground := Ground.phase }, { on := 23, ground := Ground.phase }, { on := 24, ground := Ground.phase }, { on := 25, ground := Ground.phase }, { on := 26, ground := Ground.phase }, { on := 27, ground := Ground.phase }, { on := 28, ground := Ground.phase }, { on := 29, ground := Ground.phase }, { on := 30, ground := Ground.phase }, { on := 31, ground := Ground.phase }, { on := 32, ground := Ground.phase }, { on := 33, ground := Ground.phase }, { on := 34, ground := Ground.phase }, { on := 35, ground := Ground.phase }, { on := 36, ground := Ground.phase }, { on := 37, ground := Ground.phase }, { on := 38, ground := Ground.phase }, { on := 39, ground := Ground.phase }, { on := 40, ground := Ground.phase }, { on := 41, ground := Ground.phase }], guard := none }) (v := ?_) rfl (by kernel_rfl) (by kernel_rfl) (by kernel_rfl) (fun _ _ _ h => h) (Or.inl ⟨by rfl, ?_⟩) (by assumption) ?_
  rotate_left
  · first
      | (intro w5 hSw; (try dsimp only at hSw); go_simp; done)
      | (intro w5 hSw; (try dsimp only at hSw); go_simp; with_reducible rfl)
  try simp only [Act.put, List.setIfInBounds_toArray, List.set_cons_zero, List.set_cons_succ]
  refine wpAnyH_done (by kernel_rfl) ?_ _
  refine NoPanic.normal ?_
  go_wp2
  unfold Q15
  go_ret
  exact ⟨rfl, hb.trans (hacc.mono hb.size)⟩

set_option maxRecDepth 100000 in
set_option maxHeartbeats 20000000 in
theorem NE_15_c21 {fa fb n : Nat} {w wr : World} {g2 g3 g10 g12 g16 g18 : Nat} {u0 u1 u4 u17 u22 u23 u24 u25 u26 u27 u28 u29 u30 u31 u32 u33 u34 u35 u36 u37 u38 u39 u40 u41 u42 u43 u44 u45 u46 u47 u48 u49 u50 u51 u52 u53 u54 u55 u56 u57 u58 u59 u60 u61 u62 u63 u64 u65 u66 u67 u68 u69 u70 u71 u72 u73 u74 u75 u76 u77 u78 u79 u80 u81 u82 u83 u84 u85 u86 u87 u88 u89 u90 u91 u92 u93 u94 u95 u96 u97 u98 u99 u100 u101 u102 u103 u104 u105 u106 u107 u108 u109 u110 u111 u112 u113 u114 u115 u116 u117 : Value} {va vb vm sc so : Int}
    (la : Lt 992 va) (lb : Lt 992 vb) (hf : Hid (fa = ibits va)) (hg : Hid (fb = ibits vb)) (hn : Hid (n = bl va.natAbs)) (hvm : Hid (((va - ival va).natAbs : Int) ≤ vm)) (hsc : Hid (sc = (va - vb).sign)) (hso : Hid (so = (ival va - ival vb).sign)) (hsz : (((va - ival va).natAbs : Int) - vm).sign = -1) (hx : so = 0) (hy : sc = -1)
    (hb : Below w.heap.size w wr) (h0 : w.heap.size ≤ g2)
    (o3 : g2 < g3) (o10 : g3 < g10) (o12 : g10 < g12) (o16 : g12 < g16) (o18 : g16 < g18)
    (b2 : Bx wr g2 (va)) (b3 : Bx wr g3 (vb)) (b10 : Bx wr g10 (ival va)) (b12 : Bx wr g12 (ival vb)) (b16 : Bx wr g16 (va - ival va)) (b18 : Bx wr g18 (vm)) :
    Code.wp Tryd.prog (tail15 15) (Q15 w) ⟨#[u0, u1, .pointer (some ⟨g2, 0, none⟩), .pointer (some ⟨g3, 0, none⟩), u4, .bool true, .int .u64 (fa : Int), .int .i64 0, .int .u64 (fb : Int), .int .i64 0, .pointer (some ⟨g10, 0, none⟩), .int .i64 0, .pointer (some ⟨g12, 0, none⟩), .int .i64 0, .int .u64 (fa : Int), .int .i64 0, .pointer (some ⟨g16, 0, none⟩), u17, .pointer (some ⟨g18, 0, none⟩), .int .i64 (n : Int), .int .i64 sc, .int .i64 so, u22, u23, u24, u25, u26, u27, u28, u29, u30, u31, u32, u33, u34, u35, u36, u37, u38, u39, u40, u41, u42, u43, u44, u45, u46, u47, u48, u49, u50, u51, u52, u53, u54, u55, u56, u57, u58, u59, u60, u61, u62, u63, u64, u65, u66, u67, u68, u69, u70, u71, u72, u73, u74, u75, u76, u77, u78, u79, u80, u81, u82, u83, u84, u85, u86, u87, u88, u89, u90, u91, u92, u93, u94, u95, u96, u97, u98, u99, u100, u101, u102, u103, u104, u105, u106, u107, u108, u109, u110, u111, u112, u113, u114, u115, u116, u117], []⟩ wr := by
  subst hx hy
  have b16' := b16.drew
  obtain ⟨nD, aD, lD, cD, D, hHD, hRD, hED⟩ := b16'
  have HED := hid hED
  have HHD := hid hHD
  clear hED hHD
  have b18' := b18.drew
  obtain ⟨nM, aM, lM, cM, M, hHM, hRM, hEM⟩ := b18'
  have HEM := hid hEM
  have HHM := hid hHM
  clear hEM hHM
  have hacc : Below wr.heap.size wr wr.drew := (Below.refl _ _).drew
  conv => arg 2; whnf
  go_wp2_with fail
  refine wp_region_noPanic ?_
  refine wp_region_held_drew (S := (fun w' => w'.cell? ⟨g16, 0, none⟩ = some (.bool nD) ∧ w'.cell? ⟨g16, 1, none⟩ = some (.slice aD lD cD) ∧ w'.cell? ⟨g18, 0, none⟩ = some (.bool nM) ∧ w'.cell? ⟨g18, 1, none⟩ = some (.slice aM lM cM))) (by kernel_rfl) (by first | (with_reducible exact ⟨(two_cells HHD.out).1, (two_cells HHD.out).2.1, (two_cells HHM.out).1, (two_cells HHM.out).2.1⟩) | (dsimp only; with_reducible exact ⟨(two_cells HHD.out).1, (two_cells HHD.out).2.1, (two_cells HHM.out).1, (two_cells HHM.out).2.1⟩)) (fun hHeld => ?_)
  refine wpAnyH_take (i := 0) (oi := { dst := some 76, op := Op.move (Operand.tmp 5), type := 4, pos := "keeps.go:168", after := #[], guard := none }) (v := ?_) rfl (by kernel_rfl) (by kernel_rfl) (by kernel_rfl) (fun _ _ _ h => h) (Or.inl ⟨by rfl, ?_⟩) (by assumption) ?_
  rotate_left
  · first
      | (intro w5 hSw; (try dsimp only at hSw); go_simp; done)
      | (intro w5 hSw; (try dsimp only at hSw); go_simp; with_reducible rfl)
  try simp only [Act.put, List.setIfInBounds_toArray, List.set_cons_zero, List.set_cons_succ]
  refine wpAnyH_take (i := 1) (oi := { dst := some 77, op := Op.move (Operand.tmp 76), type := 4, pos := "keeps.go:168", after := #[{ on := 0, ground := Ground.data }], guard := none }) (v := ?_) rfl (by kernel_rfl) (by kernel_rfl) (by kernel_rfl) (fun _ _ _ h => h) (Or.inl ⟨by rfl, ?_⟩) (by assumption) ?_
  rotate_left
  · first
      | (intro w5 hSw; (try dsimp only at hSw); go_simp; done)
      | (intro w5 hSw; (try dsimp only at hSw); go_simp; with_reducible rfl)
  try simp only [Act.put, List.setIfInBounds_toArray, List.set_cons_zero, List.set_cons_succ]
  refine wpAnyH_take (i := 2) (oi := { dst := some 78, op := Op.move (Operand.tmp 7), type := 45, pos := "keeps.go:168", after := #[{ on := 1, ground := Ground.guard }], guard := some (1, true) }) (v := ?_) rfl (by kernel_rfl) (by kernel_rfl) (by kernel_rfl) (fun _ _ _ h => h) (Or.inl ⟨by rfl, ?_⟩) (by assumption) ?_
  rotate_left
  · first
      | (intro w5 hSw; (try dsimp only at hSw); go_simp; done)
      | (intro w5 hSw; (try dsimp only at hSw); go_simp; with_reducible rfl)
  try simp only [Act.put, List.setIfInBounds_toArray, List.set_cons_zero, List.set_cons_succ]
  refine wpAnyH_take (i := 3) (oi := { dst := some 79, op := Op.binOp BinOp.eql 45 (Operand.tmp 78) (Operand.const (Value.int IntKind.i64 0)) 45, type := 4, pos := "keeps.go:168", after := #[{ on := 2, ground := Ground.data }, { on := 1, ground := Ground.guard }], guard := some (1, true) }) (v := ?_) rfl (by kernel_rfl) (by kernel_rfl) (by kernel_rfl) (fun _ _ _ h => h) (Or.inl ⟨by rfl, ?_⟩) (by assumption) ?_
  rotate_left
  · first
      | (intro w5 hSw; (try dsimp only at hSw); go_simp; done)
      | (intro w5 hSw; (try dsimp only at hSw); go_simp; with_reducible rfl)
  try simp only [Act.put, List.setIfInBounds_toArray, List.set_cons_zero, List.set_cons_succ]
  refine wpAnyH_take (i := 4) (oi := { dst := some 80, op := Op.pick (Operand.tmp 77) (Operand.tmp 79) (Operand.const (Value.bool false)), type := 4, pos := "keeps.go:168", after := #[{ on := 1, ground := Ground.data }, { on := 3, ground := Ground.data }], guard := none }) (v := ?_) rfl (by kernel_rfl) (by kernel_rfl) (by kernel_rfl) (fun _ _ _ h => h) (Or.inl ⟨by rfl, ?_⟩) (by assumption) ?_
  rotate_left
  · first
      | (intro w5 hSw; (try dsimp only at hSw); go_simp; done)
      | (intro w5 hSw; (try dsimp only at hSw); go_simp; with_reducible rfl)
  try simp only [Act.put, List.setIfInBounds_toArray, List.set_cons_zero, List.set_cons_succ]
  refine wpAnyH_take (i := 5) (oi := { dst := some 81, op := Op.move (Operand.tmp 80), type := 4, pos := "keeps.go:168", after := #[{ on := 4, ground := Ground.data }, { on := 1, ground := Ground.chain }], guard := none }) (v := ?_) rfl (by kernel_rfl) (by kernel_rfl) (by kernel_rfl) (fun _ _ _ h => h) (Or.inl ⟨by rfl, ?_⟩) (by assumption) ?_
  rotate_left
  · first
      | (intro w5 hSw; (try dsimp only at hSw); go_simp; done)
      | (intro w5 hSw; (try dsimp only at hSw); go_simp; with_reducible rfl)
  try simp only [Act.put, List.setIfInBounds_toArray, List.set_cons_zero, List.set_cons_succ]
  refine wpAnyH_take (i := 6) (oi := { dst := some 82, op := Op.move (Operand.tmp 9), type := 45, pos := "keeps.go:168", after := #[{ on := 5, ground := Ground.guard }], guard := some (5, true) }) (v := ?_) rfl (by kernel_rfl) (by kernel_rfl) (by kernel_rfl) (fun _ _ _ h => h) (Or.inl ⟨by rfl, ?_⟩) (by assumption) ?_
  rotate_left
  · first
      | (intro w5 hSw; (try dsimp only at hSw); go_simp; done)
      | (intro w5 hSw; (try dsimp only at hSw); go_simp; with_reducible rfl)
  try simp only [Act.put, List.setIfInBounds_toArray, List.set_cons_zero, List.set_cons_succ]
  refine wpAnyH_take (i := 7) (oi := { dst := some 83, op := Op.binOp BinOp.eql 45 (Operand.tmp 82) (Operand.const (Value.int IntKind.i64 0)) 45, type := 4, pos := "keeps.go:168", after := #[{ on := 6, ground := Ground.data }, { on := 5, ground := Ground.guard }], guard := some (5, true) }) (v := ?_) rfl (by kernel_rfl) (by kernel_rfl) (by kernel_rfl) (fun _ _ _ h => h) (Or.inl ⟨by rfl, ?_⟩) (by assumption) ?_
  rotate_left
  · first
      | (intro w5 hSw; (try dsimp only at hSw); go_simp; done)
      | (intro w5 hSw; (try dsimp only at hSw); go_simp; with_reducible rfl)
  try simp only [Act.put, List.setIfInBounds_toArray, List.set_cons_zero, List.set_cons_succ]
  refine wpAnyH_take (i := 8) (oi := { dst := some 84, op := Op.pick (Operand.tmp 81) (Operand.tmp 83) (Operand.const (Value.bool false)), type := 4, pos := "keeps.go:168", after := #[{ on := 5, ground := Ground.data }, { on := 7, ground := Ground.data }], guard := none }) (v := ?_) rfl (by kernel_rfl) (by kernel_rfl) (by kernel_rfl) (fun _ _ _ h => h) (Or.inl ⟨by rfl, ?_⟩) (by assumption) ?_
  rotate_left
  · first
      | (intro w5 hSw; (try dsimp only at hSw); go_simp; done)
      | (intro w5 hSw; (try dsimp only at hSw); go_simp; with_reducible rfl)
  try simp only [Act.put, List.setIfInBounds_toArray, List.set_cons_zero, List.set_cons_succ]
  refine wpAnyH_take (i := 9) (oi := { dst := some 85, op := Op.move (Operand.tmp 84), type := 4, pos := "keeps.go:168", after := #[{ on := 8, ground := Ground.data }, { on := 5, ground := Ground.chain }], guard := none }) (v := ?_) rfl (by kernel_rfl) (by kernel_rfl) (by kernel_rfl) (fun _ _ _ h => h) (Or.inl ⟨by rfl, ?_⟩) (by assumption) ?_
  rotate_left
  · first
      | (intro w5 hSw; (try dsimp only at hSw); go_simp; done)
      | (intro w5 hSw; (try dsimp only at hSw); go_simp; with_reducible rfl)
  try simp only [Act.put, List.setIfInBounds_toArray, List.set_cons_zero, List.set_cons_succ]
  refine wpAnyH_take (i := 10) (oi := { dst := some 86, op := Op.move (Operand.tmp 11), type := 45, pos := "keeps.go:168", after := #[{ on := 9, ground := Ground.guard }], guard := some (9, true) }) (v := ?_) rfl (by kernel_rfl) (by kernel_rfl) (by kernel_rfl) (fun _ _ _ h => h) (Or.inl ⟨by rfl, ?_⟩) (by assumption) ?_
  rotate_left
  · first
      | (intro w5 hSw; (try dsimp only at hSw); go_simp; done)
      | (intro w5 hSw; (try dsimp only at hSw); go_simp; with_reducible rfl)
  try simp only [Act.put, List.setIfInBounds_toArray, List.set_cons_zero, List.set_cons_succ]
  refine wpAnyH_take (i := 11) (oi := { dst := some 87, op := Op.binOp BinOp.eql 45 (Operand.tmp 86) (Operand.const (Value.int IntKind.i64 0)) 45, type := 4, pos := "keeps.go:168", after := #[{ on := 10, ground := Ground.data }, { on := 9, ground := Ground.guard }], guard := some (9, true) }) (v := ?_) rfl (by kernel_rfl) (by kernel_rfl) (by kernel_rfl) (fun _ _ _ h => h) (Or.inl ⟨by rfl, ?_⟩) (by assumption) ?_
  rotate_left
  · first
      | (intro w5 hSw; (try dsimp only at hSw); go_simp; done)
      | (intro w5 hSw; (try dsimp only at hSw); go_simp; with_reducible rfl)
  try simp only [Act.put, List.setIfInBounds_toArray, List.set_cons_zero, List.set_cons_succ]
  refine wpAnyH_take (i := 12) (oi := { dst := some 88, op := Op.pick (Operand.tmp 85) (Operand.tmp 87) (Operand.const (Value.bool false)), type := 4, pos := "keeps.go:168", after := #[{ on := 9, ground := Ground.data }, { on := 11, ground := Ground.data }], guard := none }) (v := ?_) rfl (by kernel_rfl) (by kernel_rfl) (by kernel_rfl) (fun _ _ _ h => h) (Or.inl ⟨by rfl, ?_⟩) (by assumption) ?_
  rotate_left
  · first
      | (intro w5 hSw; (try dsimp only at hSw); go_simp; done)
      | (intro w5 hSw; (try dsimp only at hSw); go_simp; with_reducible rfl)
  try simp only [Act.put, List.setIfInBounds_toArray, List.set_cons_zero, List.set_cons_succ]
  refine wpAnyH_take (i := 13) (oi := { dst := some 89, op := Op.move (Operand.tmp 88), type := 4, pos := "keeps.go:168", after := #[{ on := 12, ground := Ground.data }, { on := 9, ground := Ground.chain }], guard := none }) (v := ?_) rfl (by kernel_rfl) (by kernel_rfl) (by kernel_rfl) (fun _ _ _ h => h) (Or.inl ⟨by rfl, ?_⟩) (by assumption) ?_
  rotate_left
  · first
      | (intro w5 hSw; (try dsimp only at hSw); go_simp; done)
      | (intro w5 hSw; (try dsimp only at hSw); go_simp; with_reducible rfl)
  try simp only [Act.put, List.setIfInBounds_toArray, List.set_cons_zero, List.set_cons_succ]
  refine wpAnyH_take (i := 14) (oi := { dst := some 90, op := Op.move (Operand.tmp 13), type := 45, pos := "keeps.go:168", after := #[{ on := 13, ground := Ground.guard }], guard := some (13, true) }) (v := ?_) rfl (by kernel_rfl) (by kernel_rfl) (by kernel_rfl) (fun _ _ _ h => h) (Or.inl ⟨by rfl, ?_⟩) (by assumption) ?_
  rotate_left
  · first
      | (intro w5 hSw; (try dsimp only at hSw); go_simp; done)
      | (intro w5 hSw; (try dsimp only at hSw); go_simp; with_reducible rfl)
  try simp only [Act.put, List.setIfInBounds_toArray, List.set_cons_zero, List.set_cons_succ]
  refine wpAnyH_take (i := 15) (oi := { dst := some 91, op := Op.binOp BinOp.eql 45 (Operand.tmp 90) (Operand.const (Value.int IntKind.i64 0)) 45, type := 4, pos := "keeps.go:168", after := #[{ on := 14, ground := Ground.data }, { on := 13, ground := Ground.guard }], guard := some (13, true) }) (v := ?_) rfl (by kernel_rfl) (by kernel_rfl) (by kernel_rfl) (fun _ _ _ h => h) (Or.inl ⟨by rfl, ?_⟩) (by assumption) ?_
  rotate_left
  · first
      | (intro w5 hSw; (try dsimp only at hSw); go_simp; done)
      | (intro w5 hSw; (try dsimp only at hSw); go_simp; with_reducible rfl)
  try simp only [Act.put, List.setIfInBounds_toArray, List.set_cons_zero, List.set_cons_succ]
  refine wpAnyH_take (i := 16) (oi := { dst := some 92, op := Op.pick (Operand.tmp 89) (Operand.tmp 91) (Operand.const (Value.bool false)), type := 4, pos := "keeps.go:168", after := #[{ on := 13, ground := Ground.data }, { on := 15, ground := Ground.data }], guard := none }) (v := ?_) rfl (by kernel_rfl) (by kernel_rfl) (by kernel_rfl) (fun _ _ _ h => h) (Or.inl ⟨by rfl, ?_⟩) (by assumption) ?_
  rotate_left
  · first
      | (intro w5 hSw; (try dsimp only at hSw); go_simp; done)
      | (intro w5 hSw; (try dsimp only at hSw); go_simp; with_reducible rfl)
  try simp only [Act.put, List.setIfInBounds_toArray, List.set_cons_zero, List.set_cons_succ]
  refine wpAnyH_take (i := 17) (oi := { dst := some 93, op := Op.move (Operand.tmp 92), type := 4, pos := "keeps.go:168", after := #[{ on := 16, ground := Ground.data }, { on := 13, ground := Ground.chain }], guard := none }) (v := ?_) rfl (by kernel_rfl) (by kernel_rfl) (by kernel_rfl) (fun _ _ _ h => h) (Or.inl ⟨by rfl, ?_⟩) (by assumption) ?_
  rotate_left
  · first
      | (intro w5 hSw; (try dsimp only at hSw); go_simp; done)
      | (intro w5 hSw; (try dsimp only at hSw); go_simp; with_reducible rfl)
  try simp only [Act.put, List.setIfInBounds_toArray, List.set_cons_zero, List.set_cons_succ]
  refine wpAnyH_take (i := 18) (oi := { dst := some 94, op := Op.move (Operand.tmp 15), type := 45, pos := "keeps.go:168", after := #[{ on := 17, ground := Ground.guard }], guard := some (17, true) }) (v := ?_) rfl (by kernel_rfl) (by kernel_rfl) (by kernel_rfl) (fun _ _ _ h => h) (Or.inl ⟨by rfl, ?_⟩) (by assumption) ?_
  rotate_left
  · first
      | (intro w5 hSw; (try dsimp only at hSw); go_simp; done)
      | (intro w5 hSw; (try dsimp only at hSw); go_simp; with_reducible rfl)
  try simp only [Act.put, List.setIfInBounds_toArray, List.set_cons_zero, List.set_cons_succ]
  refine wpAnyH_take (i := 19) (oi := { dst := some 95, op := Op.binOp BinOp.eql 45 (Operand.tmp 94) (Operand.const (Value.int IntKind.i64 0)) 45, type := 4, pos := "keeps.go:168", after := #[{ on := 18, ground := Ground.data }, { on := 17, ground := Ground.guard }], guard := some (17, true) }) (v := ?_) rfl (by kernel_rfl) (by kernel_rfl) (by kernel_rfl) (fun _ _ _ h => h) (Or.inl ⟨by rfl, ?_⟩) (by assumption) ?_
  rotate_left
  · first
      | (intro w5 hSw; (try dsimp only at hSw); go_simp; done)
      | (intro w5 hSw; (try dsimp only at hSw); go_simp; with_reducible rfl)
  try simp only [Act.put, List.setIfInBounds_toArray, List.set_cons_zero, List.set_cons_succ]
  refine wpAnyH_take (i := 20) (oi := { dst := some 96, op := Op.pick (Operand.tmp 93) (Operand.tmp 95) (Operand.const (Value.bool false)), type := 4, pos := "keeps.go:168", after := #[{ on := 17, ground := Ground.data }, { on := 19, ground := Ground.data }], guard := none }) (v := ?_) rfl (by kernel_rfl) (by kernel_rfl) (by kernel_rfl) (fun _ _ _ h => h) (Or.inl ⟨by rfl, ?_⟩) (by assumption) ?_
  rotate_left
  · first
      | (intro w5 hSw; (try dsimp only at hSw); go_simp; done)
      | (intro w5 hSw; (try dsimp only at hSw); go_simp; with_reducible rfl)
  try simp only [Act.put, List.setIfInBounds_toArray, List.set_cons_zero, List.set_cons_succ]
  refine wpAnyH_take (i := 21) (oi := { dst := some 97, op := Op.move (Operand.tmp 96), type := 4, pos := "keeps.go:168", after := #[{ on := 20, ground := Ground.data }, { on := 17, ground := Ground.chain }], guard := none }) (v := ?_) rfl (by kernel_rfl) (by kernel_rfl) (by kernel_rfl) (fun _ _ _ h => h) (Or.inl ⟨by rfl, ?_⟩) (by assumption) ?_
  rotate_left
  · first
      | (intro w5 hSw; (try dsimp only at hSw); go_simp; done)
      | (intro w5 hSw; (try dsimp only at hSw); go_simp; with_reducible rfl)
  try simp only [Act.put, List.setIfInBounds_toArray, List.set_cons_zero, List.set_cons_succ]
  refine wpAnyH_take (i := 22) (oi := { dst := some 98, op := Op.move (Operand.tmp 14), type := 68, pos := "keeps.go:168", after := #[{ on := 21, ground := Ground.guard }], guard := some (21, true) }) (v := ?_) rfl (by kernel_rfl) (by kernel_rfl) (by kernel_rfl) (fun _ _ _ h => h) (Or.inl ⟨by rfl, ?_⟩) (by assumption) ?_
  rotate_left
  · first
      | (intro w5 hSw; (try dsimp only at hSw); go_simp; done)
      | (intro w5 hSw; (try dsimp only at hSw); go_simp; with_reducible rfl)
  try simp only [Act.put, List.setIfInBounds_toArray, List.set_cons_zero, List.set_cons_succ]
  refine wpAnyH_take (i := 23) (oi := { dst := some 99, op := Op.move (Operand.tmp 6), type := 68, pos := "keeps.go:168", after := #[{ on := 21, ground := Ground.guard }], guard := some (21, true) }) (v := ?_) rfl (by kernel_rfl) (by kernel_rfl) (by kernel_rfl) (fun _ _ _ h => h) (Or.inl ⟨by rfl, ?_⟩) (by assumption) ?_
  rotate_left
  · first
      | (intro w5 hSw; (try dsimp only at hSw); go_simp; done)
      | (intro w5 hSw; (try dsimp only at hSw); go_simp; with_reducible rfl)
  try simp only [Act.put, List.setIfInBounds_toArray, List.set_cons_zero, List.set_cons_succ]
  refine wpAnyH_take (i := 24) (oi := { dst := some 100, op := Op.binOp BinOp.eql 68 (Operand.tmp 98) (Operand.tmp 99) 68, type := 4, pos := "keeps.go:168", after := #[{ on := 22, ground := Ground.data }, { on := 23, ground := Ground.data }, { on := 21, ground := Ground.guard }], guard := some (21, true) }) (v := ?_) rfl (by kernel_rfl) (by kernel_rfl) (by kernel_rfl) (fun _ _ _ h => h) (Or.inl ⟨by rfl, ?_⟩) (by assumption) ?_
  rotate_left
  · first
      | (intro w5 hSw; (try dsimp only at hSw); go_simp; done)
      | (intro w5 hSw; (try dsimp only at hSw); go_simp; with_reducible rfl)
  try simp only [Act.put, List.setIfInBounds_toArray, List.set_cons_zero, List.set_cons_succ]
  refine wpAnyH_take (i := 25) (oi := { dst := some 101, op := Op.pick (Operand.tmp 97) (Operand.tmp 100) (Operand.const (Value.bool false)), type := 4, pos := "keeps.go:168", after := #[{ on := 21, ground := Ground.data }, { on := 24, ground := Ground.data }], guard := none }) (v := ?_) rfl (by kernel_rfl) (by kernel_rfl) (by kernel_rfl) (fun _ _ _ h => h) (Or.inl ⟨by rfl, ?_⟩) (by assumption) ?_
  rotate_left
  · first
      | (intro w5 hSw; (try dsimp only at hSw); go_simp; done)
      | (intro w5 hSw; (try dsimp only at hSw); go_simp; with_reducible rfl)
  try simp only [Act.put, List.setIfInBounds_toArray, List.set_cons_zero, List.set_cons_succ]
  refine wpAnyH_take (i := 26) (oi := { dst := some 102, op := Op.move (Operand.tmp 101), type := 4, pos := "keeps.go:168", after := #[{ on := 25, ground := Ground.data }, { on := 21, ground := Ground.chain }], guard := none }) (v := ?_) rfl (by kernel_rfl) (by kernel_rfl) (by kernel_rfl) (fun _ _ _ h => h) (Or.inl ⟨by rfl, ?_⟩) (by assumption) ?_
  rotate_left
  · first
      | (intro w5 hSw; (try dsimp only at hSw); go_simp; done)
      | (intro w5 hSw; (try dsimp only at hSw); go_simp; with_reducible rfl)
  try simp only [Act.put, List.setIfInBounds_toArray, List.set_cons_zero, List.set_cons_succ]
  refine wpAnyH_take (i := 27) (oi := { dst := some 103, op := Op.load 24 (Operand.tmp 16), type := 24, pos := "keeps.go:168", after := #[{ on := 26, ground := Ground.guard }], guard := some (26, true) }) (v := ?_) rfl (by kernel_rfl) (by kernel_rfl) (by kernel_rfl) (fun _ _ _ h => h) (Or.inl ⟨by rfl, ?_⟩) (by assumption) ?_
  rotate_left
  · first
      | (intro w5 hSw; (try dsimp only at hSw); go_simp; done)
      | (intro w5 hSw; (try dsimp only at hSw); go_simp; with_reducible rfl)
  try simp only [Act.put, List.setIfInBounds_toArray, List.set_cons_zero, List.set_cons_succ]
  refine wpAnyH_take (i := 29) (oi := { dst := some 105, op := Op.load 24 (Operand.tmp 18), type := 24, pos := "keeps.go:168", after := #[{ on := 26, ground := Ground.guard }], guard := some (26, true) }) (v := ?_) rfl (by kernel_rfl) (by kernel_rfl) (by kernel_rfl) (fun _ _ _ h => h) (Or.inl ⟨by rfl, ?_⟩) (by assumption) ?_
  rotate_left
  · first
      | (intro w5 hSw; (try dsimp only at hSw); go_simp; done)
      | (intro w5 hSw; (try dsimp only at hSw); go_simp; with_reducible rfl)
  try simp only [Act.put, List.setIfInBounds_toArray, List.set_cons_zero, List.set_cons_succ]
  refine wpAnyH_ready (rs := [28]) (by kernel_rfl) (by simp) ?_
  refine AllReadyH.cons (o := { dst := some 104, op := Op.call { callee := Callee.value (Operand.func 67), args := #[Operand.tmp 103], argTypes := #[24] }, type := 24, pos := "keeps.go:168", after := #[{ on := 27, ground := Ground.data }, { on := 26, ground := Ground.chain }, { on := 26, ground := Ground.guard }], guard := some (26, true) }) rfl (fun K hK => ?_) AllReadyH.nil
  go_simp
  ((with_reducible refine (abs_ok _ hRD HED.out).mono ?_); rintro e w5 ⟨n1, ao1, len1, C1, rfl, hR1, hE1, hbk⟩; have HE1 := hid hE1; clear hE1; have hRD := hRD.keep hbk; have HHD := hid (heap_keep HHD.out hbk); have hRM := hRM.keep hbk; have HHM := hid (heap_keep HHM.out hbk); have hacc := hacc.trans (hbk.mono hacc.size))
  go_wp2_with fail
  refine hK.out _ _ ?_ (fun hHeld => ?_)
  · first
      | (with_reducible exact ⟨(two_cells HHD.out).1, (two_cells HHD.out).2.1, (two_cells HHM.out).1, (two_cells HHM.out).2.1⟩)
      | (dsimp only; with_reducible exact ⟨(two_cells HHD.out).1, (two_cells HHD.out).2.1, (two_cells HHM.out).1, (two_cells HHM.out).2.1⟩)
  clear hK K
  refine wpAnyH_ready (rs := [30]) (by kernel_rfl) (by simp) ?_
  refine AllReadyH.cons (o := { dst := some 106, op := Op.call { callee := Callee.value (Operand.func 30), args := #[Operand.tmp 104, Operand.tmp 105], argTypes := #[24, 24] }, type := 3, pos := "keeps.go:168", after := #[{ on := 28, ground := Ground.data }, { on := 29, ground := Ground.data }, { on := 28, ground := Ground.chain }, { on := 26, ground := Ground.guard }], guard := some (26, true) }) rfl (fun K hK => ?_) AllReadyH.nil
  go_simp
  ((with_reducible refine (cmp_any n1 ao1 len1 len1 C1 nM aM lM cM M _ hR1 hRM).mono ?_); rintro e w5 ⟨rfl, hbk⟩; rw [HE1.out, HEM.out, hsz]; have hRD := hRD.keep hbk; have HHD := hid (heap_keep HHD.out hbk); have hRM := hRM.keep hbk; have HHM := hid (heap_keep HHM.out hbk); have hacc := hacc.trans (hbk.mono hacc.size))
  go_wp2_with fail
  refine hK.out _ _ ?_ (fun hHeld => ?_)
  · first
      | (with_reducible exact ⟨(two_cells HHD.out).1, (two_cells HHD.out).2.1, (two_cells HHM.out).1, (two_cells HHM.out).2.1⟩)
      | (dsimp only; with_reducible exact ⟨(two_cells HHD.out).1, (two_cells HHD.out).2.1, (two_cells HHM.out).1, (two_cells HHM.out).2.1⟩)
  clear hK K
  refine wpAnyH_take (i := 31) (oi := { dst := some 107, op := Op.binOp BinOp.leq 3 (Operand.tmp 106) (Operand.const (Value.int IntKind.i64 0)) 3, type := 4, pos := "keeps.go:168", after := #[{ on := 30, ground := Ground.data }, { on := 26, ground := Ground.guard }], guard := some (26, true) }) (v := ?_) rfl (by kernel_rfl) (by kernel_rfl) (by kernel_rfl) (fun _ _ _ h => h) (Or.inl ⟨by rfl, ?_⟩) (by assumption) ?_
  rotate_left
  · first
      | (intro w5 hSw; (try dsimp only at hSw); go_simp; done)
      | (intro w5 hSw; (try dsimp only at hSw); go_simp; with_reducible rfl)
  try simp only [Act.put, List.setIfInBounds_toArray, List.set_cons_zero, List.set_cons_succ]
  refine wpAnyH_take (i := 32) (oi := { dst := some 108, op := Op.pick (Operand.tmp 102) (Operand.tmp 107) (Operand.const (Value.bool false)), type := 4, pos := "keeps.go:168", after := #[{ on := 26, ground := Ground.data }, { on := 31, ground := Ground.data }], guard := none }) (v := ?_) rfl (by kernel_rfl) (by kernel_rfl) (by kernel_rfl) (fun _ _ _ h => h) (Or.inl ⟨by rfl, ?_⟩) (by assumption) ?_
  rotate_left
  · first
      | (intro w5 hSw; (try dsimp only at hSw); go_simp; done)
      | (intro w5 hSw; (try dsimp only at hSw); go_simp; with_reducible rfl)
  try simp only [Act.put, List.setIfInBounds_toArray, List.set_cons_zero, List.set_cons_succ]
  refine wpAnyH_take (i := 33) (oi := { dst := some 109, op := Op.move (Operand.tmp 108), type := 4, pos := "keeps.go:168", after := #[{ on := 32, ground := Ground.data }, { on := 30, ground := Ground.chain }], guard := none }) (v := ?_) rfl (by kernel_rfl) (by kernel_rfl) (by kernel_rfl) (fun _ _ _ h => h) (Or.inl ⟨by rfl, ?_⟩) (by assumption) ?_
  rotate_left
  · first
      | (intro w5 hSw; (try dsimp only at hSw); go_simp; done)
      | (intro w5 hSw; (try dsimp only at hSw); go_simp; with_reducible rfl)
  try simp only [Act.put, List.setIfInBounds_toArray, List.set_cons_zero, List.set_cons_succ]
  refine wpAnyH_take (i := 34) (oi := { dst := some 110, op := Op.move (Operand.tmp 21), type := 3, pos := "keeps.go:168", after := #[{ on := 33, ground := Ground.guard }], guard := some (33, true) }) (v := ?_) rfl (by kernel_rfl) (by kernel_rfl) (by kernel_rfl) (fun _ _ _ h => h) (Or.inl ⟨by rfl, ?_⟩) (by assumption) ?_
  rotate_left
  · first
      | (intro w5 hSw; (try dsimp only at hSw); go_simp; done)
      | (intro w5 hSw; (try dsimp only at hSw); go_simp; with_reducible rfl)
  try simp only [Act.put, List.setIfInBounds_toArray, List.set_cons_zero, List.set_cons_succ]
  refine wpAnyH_take (i := 35) (oi := { dst := some 111, op := Op.move (Operand.tmp 20), type := 3, pos := "keeps.go:168", after := #[{ on := 33, ground := Ground.guard }], guard := some (33, true) }) (v := ?_) rfl (by kernel_rfl) (by kernel_rfl) (by kernel_rfl) (fun _ _ _ h => h) (Or.inl ⟨by rfl, ?_⟩) (by assumption) ?_
  rotate_left
  · first
      | (intro w5 hSw; (try dsimp only at hSw); go_simp; done)
      | (intro w5 hSw; (try dsimp only at hSw); go_simp; with_reducible rfl)
  try simp only [Act.put, List.setIfInBounds_toArray, List.set_cons_zero, List.set_cons_succ]
  refine wpAnyH_take (i := 36) (oi := { dst := some 112, op := Op.binOp BinOp.eql 3 (Operand.tmp 110) (Operand.tmp 111) 3, type := 4, pos := "keeps.go:168", after := #[{ on := 34, ground := Ground.data }, { on := 35, ground := Ground.data }, { on := 33, ground := Ground.guard }], guard := some (33, true) }) (v := ?_) rfl (by kernel_rfl) (by kernel_rfl) (by kernel_rfl) (fun _ _ _ h => h) (Or.inl ⟨by rfl, ?_⟩) (by assumption) ?_
  rotate_left
  · first
      | (intro w5 hSw; (try dsimp only at hSw); go_simp; done)
      | (intro w5 hSw; (try dsimp only at hSw); go_simp; with_reducible rfl)
  try simp only [Act.put, List.setIfInBounds_toArray, List.set_cons_zero, List.set_cons_succ]
  refine wpAnyH_take (i := 37) (oi := { dst := some 113, op := Op.move (Operand.tmp 112), type := 4, pos := "keeps.go:168", after := #[{ on := 36, ground := Ground.data }, { on := 33, ground := Ground.chain }, { on := 33, ground := Ground.guard }], guard := some (33, true) }) (v := ?_) rfl (by kernel_rfl) (by kernel_rfl) (by kernel_rfl) (fun _ _ _ h => h) (Or.inl ⟨by rfl, ?_⟩) (by assumption) ?_
  rotate_left
  · first
      | (intro w5 hSw; (try dsimp only at hSw); go_simp; done)
      | (intro w5 hSw; (try dsimp only at hSw); go_simp; with_reducible rfl)
  try simp only [Act.put, List.setIfInBounds_toArray, List.set_cons_zero, List.set_cons_succ]
  refine wpAnyH_take (i := 38) (oi := { dst := some 114, op := Op.move (Operand.tmp 21), type := 3, pos := "keeps.go:168", after := #[{ on := 37, ground := Ground.guard }], guard := some (37, false) }) (v := ?_) rfl (by kernel_rfl) (by kernel_rfl) (by kernel_rfl) (fun _ _ _ h => h) (Or.inl ⟨by rfl, ?_⟩) (by assumption) ?_
  rotate_left
  · first
      | (intro w5 hSw; (try dsimp only at hSw); go_simp; done)
      | (intro w5 hSw; (try dsimp only at hSw); go_simp; with_reducible rfl)
  try simp only [Act.put, List.setIfInBounds_toArray, List.set_cons_zero, List.set_cons_succ]
  refine wpAnyH_take (i := 39) (oi := { dst := some 115, op := Op.binOp BinOp.eql 3 (Operand.tmp 114) (Operand.const (Value.int IntKind.i64 0)) 3, type := 4, pos := "keeps.go:168", after := #[{ on := 38, ground := Ground.data }, { on := 37, ground := Ground.guard }], guard := some (37, false) }) (v := ?_) rfl (by kernel_rfl) (by kernel_rfl) (by kernel_rfl) (fun _ _ _ h => h) (Or.inl ⟨by rfl, ?_⟩) (by assumption) ?_
  rotate_left
  · first
      | (intro w5 hSw; (try dsimp only at hSw); go_simp; done)
      | (intro w5 hSw; (try dsimp only at hSw); go_simp; with_reducible rfl)
  try simp only [Act.put, List.setIfInBounds_toArray, List.set_cons_zero, List.set_cons_succ]
  refine wpAnyH_take (i := 40) (oi := { dst := some 116, op := Op.pick (Operand.tmp 113) (Operand.const (Value.bool true)) (Operand.tmp 115), type := 4, pos := "keeps.go:168", after := #[{ on := 37, ground := Ground.data }, { on := 39, ground := Ground.data }, { on := 33, ground := Ground.guard }], guard := some (33, true) }) (v := ?_) rfl (by kernel_rfl) (by kernel_rfl) (by kernel_rfl) (fun _ _ _ h => h) (Or.inl ⟨by rfl, ?_⟩) (by assumption) ?_
  rotate_left
  · first
      | (intro w5 hSw; (try dsimp only at hSw); go_simp; done)
      | (intro w5 hSw; (try dsimp only at hSw); go_simp; with_reducible rfl)
  try simp only [Act.put, List.setIfInBounds_toArray, List.set_cons_zero, List.set_cons_succ]
  refine wpAnyH_take (i := 41) (oi := { dst := some 117, op := Op.pick (Operand.tmp 109) (Operand.tmp 116) (Operand.const (Value.bool false)), type := 4, pos := "keeps.go:168", after := #[{ on := 33, ground := Ground.data }, { on := 40, ground := Ground.data }], guard := none }) (v := ?_) rfl (by kernel_rfl) (by kernel_rfl) (by kernel_rfl) (fun _ _ _ h => h) (Or.inl ⟨by rfl, ?_⟩) (by assumption) ?_
  rotate_left
  · first
      | (intro w5 hSw; (try dsimp only at hSw); go_simp; done)
      | (intro w5 hSw; (try dsimp only at hSw); go_simp; with_reducible rfl)
  try simp only [Act.put, List.setIfInBounds_toArray, List.set_cons_zero, List.set_cons_succ]
  refine wpAnyH_take (i := 42) (oi := { dst := some 4, op := Op.assign (Operand.tmp 117), type := 4, pos := "keeps.go:168", after := #[{ on := 41, ground := Ground.data }, { on := 37, ground := Ground.chain }, { on := 0, ground := Ground.phase }, { on := 1, ground := Ground.phase }, { on := 2, ground := Ground.phase }, { on := 3, ground := Ground.phase }, { on := 4, ground := Ground.phase }, { on := 5, ground := Ground.phase }, { on := 6, ground := Ground.phase }, { on := 7, ground := Ground.phase }, { on := 8, ground := Ground.phase }, { on := 9, ground := Ground.phase }, { on := 10, ground := Ground.phase }, { on := 11, ground := Ground.phase }, { on := 12, ground := Ground.phase }, { on := 13, ground := Ground.phase }, { on := 14, ground := Ground.phase }, { on := 15, ground := Ground.phase }, { on := 16, ground := Ground.phase }, { on := 17, ground := Ground.phase }, { on := 18, ground := Ground.phase }, { on := 19, ground := Ground.phase }, { on := 20, ground := Ground.phase }, { on := 21, ground := Ground.phase }, { on := 22, ground := Ground.phase }, { on := 23, ground := Ground.phase }, { on := 24, ground := Ground.phase }, { on := 25, ground := Ground.phase }, { on := 26, ground := Ground.phase }, { on := 27, ground := Ground.phase }, { on := 28, ground := Ground.phase }, { on := 29, ground := Ground.phase }, { on := 30, ground := Ground.phase }, { on := 31, ground := Ground.phase }, { on := 32, ground := Ground.phase }, { on := 33, ground := Ground.phase }, { on := 34, ground := Ground.phase }, { on := 35, ground := Ground.phase }, { on := 36, ground := Ground.phase }, { on := 37, ground := Ground.phase }, { on := 38, ground := Ground.phase }, { on := 39, ground := Ground.phase }, { on := 40, ground := Ground.phase }, { on := 41, ground := Ground.phase }], guard := none }) (v := ?_) rfl (by kernel_rfl) (by kernel_rfl) (by kernel_rfl) (fun _ _ _ h => h) (Or.inl ⟨by rfl, ?_⟩) (by assumption) ?_
  rotate_left
  · first
      | (intro w5 hSw; (try dsimp only at hSw); go_simp; done)
      | (intro w5 hSw; (try dsimp only at hSw); go_simp; with_reducible rfl)
  try simp only [Act.put, List.setIfInBounds_toArray, List.set_cons_zero, List.set_cons_succ]
  refine wpAnyH_done (by kernel_rfl) ?_ _
  refine NoPanic.normal ?_
  go_wp2
  unfold Q15
  go_ret
  exact ⟨rfl, hb.trans (hacc.mono hb.size)⟩

set_option maxRecDepth 100000 in
set_option maxHeartbeats 2000000 in
theorem NE_15 {fa fb n : Nat} {w wr : World} {g2 g3 g10 g12 g16 g18 : Nat} {u0 u1 u4 u17 u22 u23 u24 u25 u26 u27 u28 u29 u30 u31 u32 u33 u34 u35 u36 u37 u38 u39 u40 u41 u42 u43 u44 u45 u46 u47 u48 u49 u50 u51 u52 u53 u54 u55 u56 u57 u58 u59 u60 u61 u62 u63 u64 u65 u66 u67 u68 u69 u70 u71 u72 u73 u74 u75 u76 u77 u78 u79 u80 u81 u82 u83 u84 u85 u86 u87 u88 u89 u90 u91 u92 u93 u94 u95 u96 u97 u98 u99 u100 u101 u102 u103 u104 u105 u106 u107 u108 u109 u110 u111 u112 u113 u114 u115 u116 u117 : Value} {va vb vm sc so : Int}
    (la : Lt 992 va) (lb : Lt 992 vb) (hf : Hid (fa = ibits va)) (hg : Hid (fb = ibits vb)) (hn : Hid (n = bl va.natAbs)) (hvm : Hid (((va - ival va).natAbs : Int) ≤ vm)) (hsc : Hid (sc = (va - vb).sign)) (hso : Hid (so = (ival va - ival vb).sign))
    (hb : Below w.heap.size w wr) (h0 : w.heap.size ≤ g2)
    (o3 : g2 < g3) (o10 : g3 < g10) (o12 : g10 < g12) (o16 : g12 < g16) (o18 : g16 < g18)
    (b2 : Bx wr g2 (va)) (b3 : Bx wr g3 (vb)) (b10 : Bx wr g10 (ival va)) (b12 : Bx wr g12 (ival vb)) (b16 : Bx wr g16 (va - ival va)) (b18 : Bx wr g18 (vm)) :
    Code.wp Tryd.prog (tail15 15) (Q15 w) ⟨#[u0, u1, .pointer (some ⟨g2, 0, none⟩), .pointer (some ⟨g3, 0, none⟩), u4, .bool true, .int .u64 (fa : Int), .int .i64 0, .int .u64 (fb : Int), .int .i64 0, .pointer (some ⟨g10, 0, none⟩), .int .i64 0, .pointer (some ⟨g12, 0, none⟩), .int .i64 0, .int .u64 (fa : Int), .int .i64 0, .pointer (some ⟨g16, 0, none⟩), u17, .pointer (some ⟨g18, 0, none⟩), .int .i64 (n : Int), .int .i64 sc, .int .i64 so, u22, u23, u24, u25, u26, u27, u28, u29, u30, u31, u32, u33, u34, u35, u36, u37, u38, u39, u40, u41, u42, u43, u44, u45, u46, u47, u48, u49, u50, u51, u52, u53, u54, u55, u56, u57, u58, u59, u60, u61, u62, u63, u64, u65, u66, u67, u68, u69, u70, u71, u72, u73, u74, u75, u76, u77, u78, u79, u80, u81, u82, u83, u84, u85, u86, u87, u88, u89, u90, u91, u92, u93, u94, u95, u96, u97, u98, u99, u100, u101, u102, u103, u104, u105, u106, u107, u108, u109, u110, u111, u112, u113, u114, u115, u116, u117], []⟩ wr := by
  have hle := sign_le (x := ((va - ival va).natAbs : Int) - vm) (by have := hvm.out; omega)
  rcases near_order va vb with h | ⟨h, h' | h'⟩ <;> rcases hle with hsz | hsz
  · exact NE_15_c00 la lb hf hg hn hvm hsc hso hsz (by rw [hso.out, hsc.out]; exact h) hb h0 o3 o10 o12 o16 o18 b2 b3 b10 b12 b16 b18
  · exact NE_15_c01 la lb hf hg hn hvm hsc hso hsz (by rw [hso.out, hsc.out]; exact h) hb h0 o3 o10 o12 o16 o18 b2 b3 b10 b12 b16 b18
  · exact NE_15_c10 la lb hf hg hn hvm hsc hso hsz (by rw [hso.out]; exact h) (by rw [hsc.out]; exact h') hb h0 o3 o10 o12 o16 o18 b2 b3 b10 b12 b16 b18
  · exact NE_15_c11 la lb hf hg hn hvm hsc hso hsz (by rw [hso.out]; exact h) (by rw [hsc.out]; exact h') hb h0 o3 o10 o12 o16 o18 b2 b3 b10 b12 b16 b18
  · exact NE_15_c20 la lb hf hg hn hvm hsc hso hsz (by rw [hso.out]; exact h) (by rw [hsc.out]; exact h') hb h0 o3 o10 o12 o16 o18 b2 b3 b10 b12 b16 b18
  · exact NE_15_c21 la lb hf hg hn hvm hsc hso hsz (by rw [hso.out]; exact h) (by rw [hsc.out]; exact h') hb h0 o3 o10 o12 o16 o18 b2 b3 b10 b12 b16 b18

set_option maxRecDepth 100000 in
set_option maxHeartbeats 2000000 in
theorem NE_14 {fa fb n : Nat} {w wr : World} {g2 g3 g10 g12 g16 g18 : Nat} {u0 u1 u4 u17 u21 u22 u23 u24 u25 u26 u27 u28 u29 u30 u31 u32 u33 u34 u35 u36 u37 u38 u39 u40 u41 u42 u43 u44 u45 u46 u47 u48 u49 u50 u51 u52 u53 u54 u55 u56 u57 u58 u59 u60 u61 u62 u63 u64 u65 u66 u67 u68 u69 u70 u71 u72 u73 u74 u75 u76 u77 u78 u79 u80 u81 u82 u83 u84 u85 u86 u87 u88 u89 u90 u91 u92 u93 u94 u95 u96 u97 u98 u99 u100 u101 u102 u103 u104 u105 u106 u107 u108 u109 u110 u111 u112 u113 u114 u115 u116 u117 : Value} {va vb vm sc : Int}
    (la : Lt 992 va) (lb : Lt 992 vb) (hf : Hid (fa = ibits va)) (hg : Hid (fb = ibits vb)) (hn : Hid (n = bl va.natAbs)) (hvm : Hid (((va - ival va).natAbs : Int) ≤ vm)) (hsc : Hid (sc = (va - vb).sign))
    (hb : Below w.heap.size w wr) (h0 : w.heap.size ≤ g2)
    (o3 : g2 < g3) (o10 : g3 < g10) (o12 : g10 < g12) (o16 : g12 < g16) (o18 : g16 < g18)
    (b2 : Bx wr g2 (va)) (b3 : Bx wr g3 (vb)) (b10 : Bx wr g10 (ival va)) (b12 : Bx wr g12 (ival vb)) (b16 : Bx wr g16 (va - ival va)) (b18 : Bx wr g18 (vm)) :
    Code.wp Tryd.prog (tail15 14) (Q15 w) ⟨#[u0, u1, .pointer (some ⟨g2, 0, none⟩), .pointer (some ⟨g3, 0, none⟩), u4, .bool true, .int .u64 (fa : Int), .int .i64 0, .int .u64 (fb : Int), .int .i64 0, .pointer (some ⟨g10, 0, none⟩), .int .i64 0, .pointer (some ⟨g12, 0, none⟩), .int .i64 0, .int .u64 (fa : Int), .int .i64 0, .pointer (some ⟨g16, 0, none⟩), u17, .pointer (some ⟨g18, 0, none⟩), .int .i64 (n : Int), .int .i64 sc, u21, u22, u23, u24, u25, u26, u27, u28, u29, u30, u31, u32, u33, u34, u35, u36, u37, u38, u39, u40, u41, u42, u43, u44, u45, u46, u47, u48, u49, u50, u51, u52, u53, u54, u55, u56, u57, u58, u59, u60, u61, u62, u63, u64, u65, u66, u67, u68, u69, u70, u71, u72, u73, u74, u75, u76, u77, u78, u79, u80, u81, u82, u83, u84, u85, u86, u87, u88, u89, u90, u91, u92, u93, u94, u95, u96, u97, u98, u99, u100, u101, u102, u103, u104, u105, u106, u107, u108, u109, u110, u111, u112, u113, u114, u115, u116, u117], []⟩ wr := by
  have b10' := b10
  obtain ⟨nA, aA, lA, cA, A, hHA, hRA, hEA⟩ := b10'
  obtain ⟨kA0, kA1, _, _⟩ := two_cells hHA
  have HEA := hid hEA
  clear hEA hHA
  have b12' := b12
  obtain ⟨nB, aB, lB, cB, B, hHB, hRB, hEB⟩ := b12'
  obtain ⟨kB0, kB1, _, _⟩ := two_cells hHB
  have HEB := hid hEB
  clear hEB hHB
  show Code.wp Tryd.prog (Code.seq (head15 14) (tail15 15)) _ _ _
  conv => arg 2; arg 1; whnf
  go_wp2_with fail
  refine (cmp_any nA aA lA cA A nB aB lB cB B _ hRA hRB).mono ?_
  rintro e w2 ⟨rfl, hb2⟩
  rw [HEA.out, HEB.out]
  obtain ⟨so, hx⟩ : ∃ so, so = (ival va - ival vb).sign := ⟨_, rfl⟩
  rw [← hx]
  have hso := hid hx
  clear hx
  go_wp2
  exact NE_15 la lb hf hg hn hvm hsc hso (hb.trans (hb2.mono hb.size)) h0 o3 o10 o12 o16 o18 (b2.keep hb2) (b3.keep hb2) (b10.keep hb2) (b12.keep hb2) (b16.keep hb2) (b18.keep hb2)

set_option maxRecDepth 100000 in
set_option maxHeartbeats 2000000 in
theorem NE_13 {fa fb n : Nat} {w wr : World} {g2 g3 g10 g12 g16 g18 : Nat} {u0 u1 u4 u17 u20 u21 u22 u23 u24 u25 u26 u27 u28 u29 u30 u31 u32 u33 u34 u35 u36 u37 u38 u39 u40 u41 u42 u43 u44 u45 u46 u47 u48 u49 u50 u51 u52 u53 u54 u55 u56 u57 u58 u59 u60 u61 u62 u63 u64 u65 u66 u67 u68 u69 u70 u71 u72 u73 u74 u75 u76 u77 u78 u79 u80 u81 u82 u83 u84 u85 u86 u87 u88 u89 u90 u91 u92 u93 u94 u95 u96 u97 u98 u99 u100 u101 u102 u103 u104 u105 u106 u107 u108 u109 u110 u111 u112 u113 u114 u115 u116 u117 : Value} {va vb vm : Int}
    (la : Lt 992 va) (lb : Lt 992 vb) (hf : Hid (fa = ibits va)) (hg : Hid (fb = ibits vb)) (hn : Hid (n = bl va.natAbs)) (hvm : Hid (((va - ival va).natAbs : Int) ≤ vm))
    (hb : Below w.heap.size w wr) (h0 : w.heap.size ≤ g2)
    (o3 : g2 < g3) (o10 : g3 < g10) (o12 : g10 < g12) (o16 : g12 < g16) (o18 : g16 < g18)
    (b2 : Bx wr g2 (va)) (b3 : Bx wr g3 (vb)) (b10 : Bx wr g10 (ival va)) (b12 : Bx wr g12 (ival vb)) (b16 : Bx wr g16 (va - ival va)) (b18 : Bx wr g18 (vm)) :
    Code.wp Tryd.prog (tail15 13) (Q15 w) ⟨#[u0, u1, .pointer (some ⟨g2, 0, none⟩), .pointer (some ⟨g3, 0, none⟩), u4, .bool true, .int .u64 (fa : Int), .int .i64 0, .int .u64 (fb : Int), .int .i64 0, .pointer (some ⟨g10, 0, none⟩), .int .i64 0, .pointer (some ⟨g12, 0, none⟩), .int .i64 0, .int .u64 (fa : Int), .int .i64 0, .pointer (some ⟨g16, 0, none⟩), u17, .pointer (some ⟨g18, 0, none⟩), .int .i64 (n : Int), u20, u21, u22, u23, u24, u25, u26, u27, u28, u29, u30, u31, u32, u33, u34, u35, u36, u37, u38, u39, u40, u41, u42, u43, u44, u45, u46, u47, u48, u49, u50, u51, u52, u53, u54, u55, u56, u57, u58, u59, u60, u61, u62, u63, u64, u65, u66, u67, u68, u69, u70, u71, u72, u73, u74, u75, u76, u77, u78, u79, u80, u81, u82, u83, u84, u85, u86, u87, u88, u89, u90, u91, u92, u93, u94, u95, u96, u97, u98, u99, u100, u101, u102, u103, u104, u105, u106, u107, u108, u109, u110, u111, u112, u113, u114, u115, u116, u117], []⟩ wr := by
  have b2' := b2
  obtain ⟨nA, aA, lA, cA, A, hHA, hRA, hEA⟩ := b2'
  obtain ⟨kA0, kA1, _, _⟩ := two_cells hHA
  have HEA := hid hEA
  clear hEA hHA
  have b3' := b3
  obtain ⟨nB, aB, lB, cB, B, hHB, hRB, hEB⟩ := b3'
  obtain ⟨kB0, kB1, _, _⟩ := two_cells hHB
  have HEB := hid hEB
  clear hEB hHB
  show Code.wp Tryd.prog (Code.seq (head15 13) (tail15 14)) _ _ _
  conv => arg 2; arg 1; whnf
  go_wp2_with fail
  refine (cmp_any nA aA lA cA A nB aB lB cB B _ hRA hRB).mono ?_
  rintro e w2 ⟨rfl, hb2⟩
  rw [HEA.out, HEB.out]
  obtain ⟨sc, hx⟩ : ∃ sc, sc = (va - vb).sign := ⟨_, rfl⟩
  rw [← hx]
  have hsc := hid hx
  clear hx
  go_wp2
  exact NE_14 la lb hf hg hn hvm hsc (hb.trans (hb2.mono hb.size)) h0 o3 o10 o12 o16 o18 (b2.keep hb2) (b3.keep hb2) (b10.keep hb2) (b12.keep hb2) (b16.keep hb2) (b18.keep hb2)

set_option maxRecDepth 100000 in
set_option maxHeartbeats 2000000 in
theorem NE_12 {fa fb n : Nat} {w wr : World} {g2 g3 g10 g12 g16 g18 : Nat} {u0 u1 u4 u17 u20 u21 u22 u23 u24 u25 u26 u27 u28 u29 u30 u31 u32 u33 u34 u35 u36 u37 u38 u39 u40 u41 u42 u43 u44 u45 u46 u47 u48 u49 u50 u51 u52 u53 u54 u55 u56 u57 u58 u59 u60 u61 u62 u63 u64 u65 u66 u67 u68 u69 u70 u71 u72 u73 u74 u75 u76 u77 u78 u79 u80 u81 u82 u83 u84 u85 u86 u87 u88 u89 u90 u91 u92 u93 u94 u95 u96 u97 u98 u99 u100 u101 u102 u103 u104 u105 u106 u107 u108 u109 u110 u111 u112 u113 u114 u115 u116 u117 : Value} {va vb : Int}
    (la : Lt 992 va) (lb : Lt 992 vb) (hf : Hid (fa = ibits va)) (hg : Hid (fb = ibits vb)) (hn : Hid (n = bl va.natAbs))
    (hb : Below w.heap.size w wr) (h0 : w.heap.size ≤ g2)
    (o3 : g2 < g3) (o10 : g3 < g10) (o12 : g10 < g12) (o16 : g12 < g16) (o18 : g16 < g18)
    (b2 : Bx wr g2 (va)) (b3 : Bx wr g3 (vb)) (b10 : Bx wr g10 (ival va)) (b12 : Bx wr g12 (ival vb)) (b16 : Bx wr g16 (va - ival va)) (b18 : Bx wr g18 (0)) :
    Code.wp Tryd.prog (tail15 12) (Q15 w) ⟨#[u0, u1, .pointer (some ⟨g2, 0, none⟩), .pointer (some ⟨g3, 0, none⟩), u4, .bool true, .int .u64 (fa : Int), .int .i64 0, .int .u64 (fb : Int), .int .i64 0, .pointer (some ⟨g10, 0, none⟩), .int .i64 0, .pointer (some ⟨g12, 0, none⟩), .int .i64 0, .int .u64 (fa : Int), .int .i64 0, .pointer (some ⟨g16, 0, none⟩), u17, .pointer (some ⟨g18, 0, none⟩), .int .i64 (n : Int), u20, u21, u22, u23, u24, u25, u26, u27, u28, u29, u30, u31, u32, u33, u34, u35, u36, u37, u38, u39, u40, u41, u42, u43, u44, u45, u46, u47, u48, u49, u50, u51, u52, u53, u54, u55, u56, u57, u58, u59, u60, u61, u62, u63, u64, u65, u66, u67, u68, u69, u70, u71, u72, u73, u74, u75, u76, u77, u78, u79, u80, u81, u82, u83, u84, u85, u86, u87, u88, u89, u90, u91, u92, u93, u94, u95, u96, u97, u98, u99, u100, u101, u102, u103, u104, u105, u106, u107, u108, u109, u110, u111, u112, u113, u114, u115, u116, u117], []⟩ wr := by
  by_cases hn3 : 53 < n
  · obtain ⟨m, hm⟩ : ∃ m, n = m + 54 := ⟨n - 54, by omega⟩
    have hn4 : n ≤ 992 := by rw [hn.out]; exact bl_of_lt la
    have HV := hid (near_large (v := va) m (by rw [← hn.out]; exact hm))
    have HMM := hid hm
    have hm2 : m < 939 := by omega
    clear hm
    show Code.wp Tryd.prog (Code.seq (head15 12) (tail15 13)) _ _ _
    conv => arg 2; arg 1; whnf
    go_wp2_with (first
      | (go_at_call 24; refine (from_any 1 wr (by decide) (by decide)).mono ?_; rintro e w5 ⟨n1, ao1, len1, rfl, hnum, hbk⟩; obtain ⟨C1, hR1, hE1⟩ := hnum.read; have HE1 := hid hE1; clear hE1)
      | (go_at_call 53; rw [show (n : Int) - 54 = (m : Int) by have := HMM.out; omega]; refine (shift_up_ok m w5 hR1 HE1.out (Lt.sm (k := 1) (by unfold Lt; decide) (by decide)) (Lt.sm ((show Lt 1 1 by unfold Lt; decide).mul (lt_two_of m 939 hm2)) (by decide)) (by omega)).mono ?_; rintro e w2 ⟨n2, ao2, len2, C2, rfl, hR2, hE2, hbl⟩; have HE2 := hid hE2; have hb2 := hbk.trans (hbl.mono hbk.size); clear hE2; obtain ⟨nP, aP, lP, cP, P, hHP, _, _⟩ := b18.keep hb2; obtain ⟨kP0, kP1, kP2, kP3⟩ := two_cells hHP; clear hHP))
    have hb3 := hb.trans (hb2.mono hb.size)
    exact NE_13 la lb hf hg hn HV (below_put hb3 (by omega) _ _) h0 o3 o10 o12 o16 o18 ((b2.keep hb2).put_other (b18.keep hb2) (by omega) _ _) ((b3.keep hb2).put_other (b18.keep hb2) (by omega) _ _) ((b10.keep hb2).put_other (b18.keep hb2) (by omega) _ _) ((b12.keep hb2).put_other (b18.keep hb2) (by omega) _ _) ((b16.keep hb2).put_other (b18.keep hb2) (by omega) _ _) ((b18.keep hb2).put hR2 HE2.out)
  · have HV := hid (near_small (v := va) (by rw [← hn.out]; exact hn3))
    show Code.wp Tryd.prog (Code.seq (head15 12) (tail15 13)) _ _ _
    conv => arg 2; arg 1; whnf
    go_wp2
    exact NE_13 la lb hf hg hn HV (hb) h0 o3 o10 o12 o16 o18 (b2) (b3) (b10) (b12) (b16) (b18)

set_option maxRecDepth 100000 in
set_option maxHeartbeats 2000000 in
theorem NE_11 {fa fb : Nat} {w wr : World} {g2 g3 g10 g12 g16 g18 : Nat} {u0 u1 u4 u17 u19 u20 u21 u22 u23 u24 u25 u26 u27 u28 u29 u30 u31 u32 u33 u34 u35 u36 u37 u38 u39 u40 u41 u42 u43 u44 u45 u46 u47 u48 u49 u50 u51 u52 u53 u54 u55 u56 u57 u58 u59 u60 u61 u62 u63 u64 u65 u66 u67 u68 u69 u70 u71 u72 u73 u74 u75 u76 u77 u78 u79 u80 u81 u82 u83 u84 u85 u86 u87 u88 u89 u90 u91 u92 u93 u94 u95 u96 u97 u98 u99 u100 u101 u102 u103 u104 u105 u106 u107 u108 u109 u110 u111 u112 u113 u114 u115 u116 u117 : Value} {va vb : Int}
    (la : Lt 992 va) (lb : Lt 992 vb) (hf : Hid (fa = ibits va)) (hg : Hid (fb = ibits vb))
    (hb : Below w.heap.size w wr) (h0 : w.heap.size ≤ g2)
    (o3 : g2 < g3) (o10 : g3 < g10) (o12 : g10 < g12) (o16 : g12 < g16) (o18 : g16 < g18)
    (b2 : Bx wr g2 (va)) (b3 : Bx wr g3 (vb)) (b10 : Bx wr g10 (ival va)) (b12 : Bx wr g12 (ival vb)) (b16 : Bx wr g16 (va - ival va)) (b18 : Bx wr g18 (0)) :
    Code.wp Tryd.prog (tail15 11) (Q15 w) ⟨#[u0, u1, .pointer (some ⟨g2, 0, none⟩), .pointer (some ⟨g3, 0, none⟩), u4, .bool true, .int .u64 (fa : Int), .int .i64 0, .int .u64 (fb : Int), .int .i64 0, .pointer (some ⟨g10, 0, none⟩), .int .i64 0, .pointer (some ⟨g12, 0, none⟩), .int .i64 0, .int .u64 (fa : Int), .int .i64 0, .pointer (some ⟨g16, 0, none⟩), u17, .pointer (some ⟨g18, 0, none⟩), u19, u20, u21, u22, u23, u24, u25, u26, u27, u28, u29, u30, u31, u32, u33, u34, u35, u36, u37, u38, u39, u40, u41, u42, u43, u44, u45, u46, u47, u48, u49, u50, u51, u52, u53, u54, u55, u56, u57, u58, u59, u60, u61, u62, u63, u64, u65, u66, u67, u68, u69, u70, u71, u72, u73, u74, u75, u76, u77, u78, u79, u80, u81, u82, u83, u84, u85, u86, u87, u88, u89, u90, u91, u92, u93, u94, u95, u96, u97, u98, u99, u100, u101, u102, u103, u104, u105, u106, u107, u108, u109, u110, u111, u112, u113, u114, u115, u116, u117], []⟩ wr := by
  have b2' := b2
  obtain ⟨nA, aA, lA, cA, A, hHA, hRA, hEA⟩ := b2'
  obtain ⟨kA0, kA1, _, _⟩ := two_cells hHA
  have HEA := hid hEA
  clear hEA hHA
  show Code.wp Tryd.prog (Code.seq (head15 11) (tail15 12)) _ _ _
  conv => arg 2; arg 1; whnf
  go_wp2_with fail
  refine (bits_any nA aA lA cA A _ hRA).mono ?_
  rintro e w2 ⟨rfl, hb2⟩
  rw [val_of_num HEA.out]
  obtain ⟨n, hx⟩ : ∃ n, n = bl va.natAbs := ⟨_, rfl⟩
  rw [← hx]
  have hn := hid hx
  clear hx
  go_wp2
  exact NE_12 la lb hf hg hn (hb.trans (hb2.mono hb.size)) h0 o3 o10 o12 o16 o18 (b2.keep hb2) (b3.keep hb2) (b10.keep hb2) (b12.keep hb2) (b16.keep hb2) (b18.keep hb2)

set_option maxRecDepth 100000 in
set_option maxHeartbeats 2000000 in
theorem NE_10 {fa fb : Nat} {w wr : World} {g2 g3 g10 g12 g16 : Nat} {u0 u1 u4 u17 u18 u19 u20 u21 u22 u23 u24 u25 u26 u27 u28 u29 u30 u31 u32 u33 u34 u35 u36 u37 u38 u39 u40 u41 u42 u43 u44 u45 u46 u47 u48 u49 u50 u51 u52 u53 u54 u55 u56 u57 u58 u59 u60 u61 u62 u63 u64 u65 u66 u67 u68 u69 u70 u71 u72 u73 u74 u75 u76 u77 u78 u79 u80 u81 u82 u83 u84 u85 u86 u87 u88 u89 u90 u91 u92 u93 u94 u95 u96 u97 u98 u99 u100 u101 u102 u103 u104 u105 u106 u107 u108 u109 u110 u111 u112 u113 u114 u115 u116 u117 : Value} {va vb : Int}
    (la : Lt 992 va) (lb : Lt 992 vb) (hf : Hid (fa = ibits va)) (hg : Hid (fb = ibits vb))
    (hb : Below w.heap.size w wr) (h0 : w.heap.size ≤ g2)
    (o3 : g2 < g3) (o10 : g3 < g10) (o12 : g10 < g12) (o16 : g12 < g16)
    (b2 : Bx wr g2 (va)) (b3 : Bx wr g3 (vb)) (b10 : Bx wr g10 (ival va)) (b12 : Bx wr g12 (ival vb)) (b16 : Bx wr g16 (va - ival va)) :
    Code.wp Tryd.prog (tail15 10) (Q15 w) ⟨#[u0, u1, .pointer (some ⟨g2, 0, none⟩), .pointer (some ⟨g3, 0, none⟩), u4, .bool true, .int .u64 (fa : Int), .int .i64 0, .int .u64 (fb : Int), .int .i64 0, .pointer (some ⟨g10, 0, none⟩), .int .i64 0, .pointer (some ⟨g12, 0, none⟩), .int .i64 0, .int .u64 (fa : Int), .int .i64 0, .pointer (some ⟨g16, 0, none⟩), u17, u18, u19, u20, u21, u22, u23, u24, u25, u26, u27, u28, u29, u30, u31, u32, u33, u34, u35, u36, u37, u38, u39, u40, u41, u42, u43, u44, u45, u46, u47, u48, u49, u50, u51, u52, u53, u54, u55, u56, u57, u58, u59, u60, u61, u62, u63, u64, u65, u66, u67, u68, u69, u70, u71, u72, u73, u74, u75, u76, u77, u78, u79, u80, u81, u82, u83, u84, u85, u86, u87, u88, u89, u90, u91, u92, u93, u94, u95, u96, u97, u98, u99, u100, u101, u102, u103, u104, u105, u106, u107, u108, u109, u110, u111, u112, u113, u114, u115, u116, u117], []⟩ wr := by
  show Code.wp Tryd.prog (Code.seq (head15 10) (tail15 11)) _ _ _
  conv => arg 2; arg 1; whnf
  go_wp2_with fail
  refine (from_any 0 wr (by decide) (by decide)).mono ?_
  rintro e w2 ⟨n2, ao2, len2, rfl, hnum, hb2⟩
  obtain ⟨C2, hR2, hE2⟩ := hnum.read
  have HE2 := hid hE2
  clear hE2
  go_wp2
  have hlast : g16 < w2.heap.size := (b16.keep hb2).lt
  have hb3 := hb.trans (hb2.mono hb.size)
  exact NE_11 la lb hf hg (hb3.alloc hb3.size _) h0 o3 o10 o12 o16 hlast ((b2.keep hb2).alloc _) ((b3.keep hb2).alloc _) ((b10.keep hb2).alloc _) ((b12.keep hb2).alloc _) ((b16.keep hb2).alloc _) (Bx.new hR2 HE2.out)

set_option maxRecDepth 100000 in
set_option maxHeartbeats 2000000 in
theorem NE_9 {fa fb : Nat} {w wr : World} {g2 g3 g10 g12 : Nat} {u0 u1 u4 u16 u17 u18 u19 u20 u21 u22 u23 u24 u25 u26 u27 u28 u29 u30 u31 u32 u33 u34 u35 u36 u37 u38 u39 u40 u41 u42 u43 u44 u45 u46 u47 u48 u49 u50 u51 u52 u53 u54 u55 u56 u57 u58 u59 u60 u61 u62 u63 u64 u65 u66 u67 u68 u69 u70 u71 u72 u73 u74 u75 u76 u77 u78 u79 u80 u81 u82 u83 u84 u85 u86 u87 u88 u89 u90 u91 u92 u93 u94 u95 u96 u97 u98 u99 u100 u101 u102 u103 u104 u105 u106 u107 u108 u109 u110 u111 u112 u113 u114 u115 u116 u117 : Value} {va vb : Int}
    (la : Lt 992 va) (lb : Lt 992 vb) (hf : Hid (fa = ibits va)) (hg : Hid (fb = ibits vb))
    (hb : Below w.heap.size w wr) (h0 : w.heap.size ≤ g2)
    (o3 : g2 < g3) (o10 : g3 < g10) (o12 : g10 < g12)
    (b2 : Bx wr g2 (va)) (b3 : Bx wr g3 (vb)) (b10 : Bx wr g10 (ival va)) (b12 : Bx wr g12 (ival vb)) :
    Code.wp Tryd.prog (tail15 9) (Q15 w) ⟨#[u0, u1, .pointer (some ⟨g2, 0, none⟩), .pointer (some ⟨g3, 0, none⟩), u4, .bool true, .int .u64 (fa : Int), .int .i64 0, .int .u64 (fb : Int), .int .i64 0, .pointer (some ⟨g10, 0, none⟩), .int .i64 0, .pointer (some ⟨g12, 0, none⟩), .int .i64 0, .int .u64 (fa : Int), .int .i64 0, u16, u17, u18, u19, u20, u21, u22, u23, u24, u25, u26, u27, u28, u29, u30, u31, u32, u33, u34, u35, u36, u37, u38, u39, u40, u41, u42, u43, u44, u45, u46, u47, u48, u49, u50, u51, u52, u53, u54, u55, u56, u57, u58, u59, u60, u61, u62, u63, u64, u65, u66, u67, u68, u69, u70, u71, u72, u73, u74, u75, u76, u77, u78, u79, u80, u81, u82, u83, u84, u85, u86, u87, u88, u89, u90, u91, u92, u93, u94, u95, u96, u97, u98, u99, u100, u101, u102, u103, u104, u105, u106, u107, u108, u109, u110, u111, u112, u113, u114, u115, u116, u117], []⟩ wr := by
  have b2' := b2
  obtain ⟨nA, aA, lA, cA, A, hHA, hRA, hEA⟩ := b2'
  obtain ⟨kA0, kA1, _, _⟩ := two_cells hHA
  have HEA := hid hEA
  clear hEA hHA
  have b10' := b10
  obtain ⟨nB, aB, lB, cB, B, hHB, hRB, hEB⟩ := b10'
  obtain ⟨kB0, kB1, _, _⟩ := two_cells hHB
  have HEB := hid hEB
  clear hEB hHB
  show Code.wp Tryd.prog (Code.seq (head15 9) (tail15 10)) _ _ _
  conv => arg 2; arg 1; whnf
  go_wp2_with fail
  refine (sub_ok _ hRA hRB HEA.out HEB.out ((la).sm (by decide)) ((ival_lt la).sm (by decide)) ((Lt.sub la (ival_lt la)).sm (by decide))).mono ?_
  rintro e w2 ⟨n2, ao2, len2, C2, rfl, hR2, hE2, hb2⟩
  have HE2 := hid hE2
  clear hE2
  go_wp2
  have hlast : g12 < w2.heap.size := (b12.keep hb2).lt
  have hb3 := hb.trans (hb2.mono hb.size)
  exact NE_10 la lb hf hg (hb3.alloc hb3.size _) h0 o3 o10 o12 hlast ((b2.keep hb2).alloc _) ((b3.keep hb2).alloc _) ((b10.keep hb2).alloc _) ((b12.keep hb2).alloc _) (Bx.new hR2 HE2.out)

set_option maxRecDepth 100000 in
set_option maxHeartbeats 2000000 in
theorem NE_8 {fa fb : Nat} {w wr : World} {g2 g3 g10 g12 : Nat} {u0 u1 u4 u14 u15 u16 u17 u18 u19 u20 u21 u22 u23 u24 u25 u26 u27 u28 u29 u30 u31 u32 u33 u34 u35 u36 u37 u38 u39 u40 u41 u42 u43 u44 u45 u46 u47 u48 u49 u50 u51 u52 u53 u54 u55 u56 u57 u58 u59 u60 u61 u62 u63 u64 u65 u66 u67 u68 u69 u70 u71 u72 u73 u74 u75 u76 u77 u78 u79 u80 u81 u82 u83 u84 u85 u86 u87 u88 u89 u90 u91 u92 u93 u94 u95 u96 u97 u98 u99 u100 u101 u102 u103 u104 u105 u106 u107 u108 u109 u110 u111 u112 u113 u114 u115 u116 u117 : Value} {va vb : Int}
    (la : Lt 992 va) (lb : Lt 992 vb) (hf : Hid (fa = ibits va)) (hg : Hid (fb = ibits vb))
    (hb : Below w.heap.size w wr) (h0 : w.heap.size ≤ g2)
    (o3 : g2 < g3) (o10 : g3 < g10) (o12 : g10 < g12)
    (b2 : Bx wr g2 (va)) (b3 : Bx wr g3 (vb)) (b10 : Bx wr g10 (ival va)) (b12 : Bx wr g12 (ival vb)) :
    Code.wp Tryd.prog (tail15 8) (Q15 w) ⟨#[u0, u1, .pointer (some ⟨g2, 0, none⟩), .pointer (some ⟨g3, 0, none⟩), u4, .bool true, .int .u64 (fa : Int), .int .i64 0, .int .u64 (fb : Int), .int .i64 0, .pointer (some ⟨g10, 0, none⟩), .int .i64 0, .pointer (some ⟨g12, 0, none⟩), .int .i64 0, u14, u15, u16, u17, u18, u19, u20, u21, u22, u23, u24, u25, u26, u27, u28, u29, u30, u31, u32, u33, u34, u35, u36, u37, u38, u39, u40, u41, u42, u43, u44, u45, u46, u47, u48, u49, u50, u51, u52, u53, u54, u55, u56, u57, u58, u59, u60, u61, u62, u63, u64, u65, u66, u67, u68, u69, u70, u71, u72, u73, u74, u75, u76, u77, u78, u79, u80, u81, u82, u83, u84, u85, u86, u87, u88, u89, u90, u91, u92, u93, u94, u95, u96, u97, u98, u99, u100, u101, u102, u103, u104, u105, u106, u107, u108, u109, u110, u111, u112, u113, u114, u115, u116, u117], []⟩ wr := by
  have b10' := b10
  obtain ⟨nA, aA, lA, cA, A, hHA, hRA, hEA⟩ := b10'
  obtain ⟨kA0, kA1, _, _⟩ := two_cells hHA
  have HEA := hid hEA
  clear hEA hHA
  show Code.wp Tryd.prog (Code.seq (head15 8) (tail15 9)) _ _ _
  conv => arg 2; arg 1; whnf
  go_wp2_with fail
  refine (toFloat_ok _ hRA HEA.out (ival_lt la)).mono ?_
  rintro e w2 ⟨rfl, hb2⟩
  rw [ibits_ival, ← hf.out]
  go_wp2
  exact NE_9 la lb hf hg (hb.trans (hb2.mono hb.size)) h0 o3 o10 o12 (b2.keep hb2) (b3.keep hb2) (b10.keep hb2) (b12.keep hb2)

set_option maxRecDepth 100000 in
set_option maxHeartbeats 2000000 in
theorem NE_7 {fa fb : Nat} {w wr : World} {g2 g3 g10 : Nat} {u0 u1 u4 u12 u13 u14 u15 u16 u17 u18 u19 u20 u21 u22 u23 u24 u25 u26 u27 u28 u29 u30 u31 u32 u33 u34 u35 u36 u37 u38 u39 u40 u41 u42 u43 u44 u45 u46 u47 u48 u49 u50 u51 u52 u53 u54 u55 u56 u57 u58 u59 u60 u61 u62 u63 u64 u65 u66 u67 u68 u69 u70 u71 u72 u73 u74 u75 u76 u77 u78 u79 u80 u81 u82 u83 u84 u85 u86 u87 u88 u89 u90 u91 u92 u93 u94 u95 u96 u97 u98 u99 u100 u101 u102 u103 u104 u105 u106 u107 u108 u109 u110 u111 u112 u113 u114 u115 u116 u117 : Value} {va vb : Int}
    (la : Lt 992 va) (lb : Lt 992 vb) (hf : Hid (fa = ibits va)) (hg : Hid (fb = ibits vb))
    (hb : Below w.heap.size w wr) (h0 : w.heap.size ≤ g2)
    (o3 : g2 < g3) (o10 : g3 < g10)
    (b2 : Bx wr g2 (va)) (b3 : Bx wr g3 (vb)) (b10 : Bx wr g10 (ival va)) :
    Code.wp Tryd.prog (tail15 7) (Q15 w) ⟨#[u0, u1, .pointer (some ⟨g2, 0, none⟩), .pointer (some ⟨g3, 0, none⟩), u4, .bool true, .int .u64 (fa : Int), .int .i64 0, .int .u64 (fb : Int), .int .i64 0, .pointer (some ⟨g10, 0, none⟩), .int .i64 0, u12, u13, u14, u15, u16, u17, u18, u19, u20, u21, u22, u23, u24, u25, u26, u27, u28, u29, u30, u31, u32, u33, u34, u35, u36, u37, u38, u39, u40, u41, u42, u43, u44, u45, u46, u47, u48, u49, u50, u51, u52, u53, u54, u55, u56, u57, u58, u59, u60, u61, u62, u63, u64, u65, u66, u67, u68, u69, u70, u71, u72, u73, u74, u75, u76, u77, u78, u79, u80, u81, u82, u83, u84, u85, u86, u87, u88, u89, u90, u91, u92, u93, u94, u95, u96, u97, u98, u99, u100, u101, u102, u103, u104, u105, u106, u107, u108, u109, u110, u111, u112, u113, u114, u115, u116, u117], []⟩ wr := by
  have hc := ofFloat_ok vb wr lb
  rw [← hg.out] at hc
  have hc := hid hc
  show Code.wp Tryd.prog (Code.seq (head15 7) (tail15 8)) _ _ _
  conv => arg 2; arg 1; whnf
  go_wp2_with fail
  refine hc.out.mono ?_
  rintro e w2 ⟨n2, ao2, len2, C2, rfl, hR2, hE2, hb2⟩
  have HE2 := hid hE2
  clear hE2 hc
  go_wp2
  have hlast : g10 < w2.heap.size := (b10.keep hb2).lt
  have hb3 := hb.trans (hb2.mono hb.size)
  exact NE_8 la lb hf hg (hb3.alloc hb3.size _) h0 o3 o10 hlast ((b2.keep hb2).alloc _) ((b3.keep hb2).alloc _) ((b10.keep hb2).alloc _) (Bx.new hR2 HE2.out)

set_option maxRecDepth 100000 in
set_option maxHeartbeats 2000000 in
theorem NE_6 {fa fb : Nat} {w wr : World} {g2 g3 : Nat} {u0 u1 u4 u10 u11 u12 u13 u14 u15 u16 u17 u18 u19 u20 u21 u22 u23 u24 u25 u26 u27 u28 u29 u30 u31 u32 u33 u34 u35 u36 u37 u38 u39 u40 u41 u42 u43 u44 u45 u46 u47 u48 u49 u50 u51 u52 u53 u54 u55 u56 u57 u58 u59 u60 u61 u62 u63 u64 u65 u66 u67 u68 u69 u70 u71 u72 u73 u74 u75 u76 u77 u78 u79 u80 u81 u82 u83 u84 u85 u86 u87 u88 u89 u90 u91 u92 u93 u94 u95 u96 u97 u98 u99 u100 u101 u102 u103 u104 u105 u106 u107 u108 u109 u110 u111 u112 u113 u114 u115 u116 u117 : Value} {va vb : Int}
    (la : Lt 992 va) (lb : Lt 992 vb) (hf : Hid (fa = ibits va)) (hg : Hid (fb = ibits vb))
    (hb : Below w.heap.size w wr) (h0 : w.heap.size ≤ g2)
    (o3 : g2 < g3)
    (b2 : Bx wr g2 (va)) (b3 : Bx wr g3 (vb)) :
    Code.wp Tryd.prog (tail15 6) (Q15 w) ⟨#[u0, u1, .pointer (some ⟨g2, 0, none⟩), .pointer (some ⟨g3, 0, none⟩), u4, .bool true, .int .u64 (fa : Int), .int .i64 0, .int .u64 (fb : Int), .int .i64 0, u10, u11, u12, u13, u14, u15, u16, u17, u18, u19, u20, u21, u22, u23, u24, u25, u26, u27, u28, u29, u30, u31, u32, u33, u34, u35, u36, u37, u38, u39, u40, u41, u42, u43, u44, u45, u46, u47, u48, u49, u50, u51, u52, u53, u54, u55, u56, u57, u58, u59, u60, u61, u62, u63, u64, u65, u66, u67, u68, u69, u70, u71, u72, u73, u74, u75, u76, u77, u78, u79, u80, u81, u82, u83, u84, u85, u86, u87, u88, u89, u90, u91, u92, u93, u94, u95, u96, u97, u98, u99, u100, u101, u102, u103, u104, u105, u106, u107, u108, u109, u110, u111, u112, u113, u114, u115, u116, u117], []⟩ wr := by
  have hc := ofFloat_ok va wr la
  rw [← hf.out] at hc
  have hc := hid hc
  show Code.wp Tryd.prog (Code.seq (head15 6) (tail15 7)) _ _ _
  conv => arg 2; arg 1; whnf
  go_wp2_with fail
  refine hc.out.mono ?_
  rintro e w2 ⟨n2, ao2, len2, C2, rfl, hR2, hE2, hb2⟩
  have HE2 := hid hE2
  clear hE2 hc
  go_wp2
  have hlast : g3 < w2.heap.size := (b3.keep hb2).lt
  have hb3 := hb.trans (hb2.mono hb.size)
  exact NE_7 la lb hf hg (hb3.alloc hb3.size _) h0 o3 hlast ((b2.keep hb2).alloc _) ((b3.keep hb2).alloc _) (Bx.new hR2 HE2.out)

set_option maxRecDepth 100000 in
set_option maxHeartbeats 2000000 in
theorem NE_5 {fa : Nat} {w wr : World} {g2 g3 : Nat} {u0 u1 u4 u8 u9 u10 u11 u12 u13 u14 u15 u16 u17 u18 u19 u20 u21 u22 u23 u24 u25 u26 u27 u28 u29 u30 u31 u32 u33 u34 u35 u36 u37 u38 u39 u40 u41 u42 u43 u44 u45 u46 u47 u48 u49 u50 u51 u52 u53 u54 u55 u56 u57 u58 u59 u60 u61 u62 u63 u64 u65 u66 u67 u68 u69 u70 u71 u72 u73 u74 u75 u76 u77 u78 u79 u80 u81 u82 u83 u84 u85 u86 u87 u88 u89 u90 u91 u92 u93 u94 u95 u96 u97 u98 u99 u100 u101 u102 u103 u104 u105 u106 u107 u108 u109 u110 u111 u112 u113 u114 u115 u116 u117 : Value} {va vb : Int}
    (la : Lt 992 va) (lb : Lt 992 vb) (hf : Hid (fa = ibits va))
    (hb : Below w.heap.size w wr) (h0 : w.heap.size ≤ g2)
    (o3 : g2 < g3)
    (b2 : Bx wr g2 (va)) (b3 : Bx wr g3 (vb)) :
    Code.wp Tryd.prog (tail15 5) (Q15 w) ⟨#[u0, u1, .pointer (some ⟨g2, 0, none⟩), .pointer (some ⟨g3, 0, none⟩), u4, .bool true, .int .u64 (fa : Int), .int .i64 0, u8, u9, u10, u11, u12, u13, u14, u15, u16, u17, u18, u19, u20, u21, u22, u23, u24, u25, u26, u27, u28, u29, u30, u31, u32, u33, u34, u35, u36, u37, u38, u39, u40, u41, u42, u43, u44, u45, u46, u47, u48, u49, u50, u51, u52, u53, u54, u55, u56, u57, u58, u59, u60, u61, u62, u63, u64, u65, u66, u67, u68, u69, u70, u71, u72, u73, u74, u75, u76, u77, u78, u79, u80, u81, u82, u83, u84, u85, u86, u87, u88, u89, u90, u91, u92, u93, u94, u95, u96, u97, u98, u99, u100, u101, u102, u103, u104, u105, u106, u107, u108, u109, u110, u111, u112, u113, u114, u115, u116, u117], []⟩ wr := by
  have b3' := b3
  obtain ⟨nA, aA, lA, cA, A, hHA, hRA, hEA⟩ := b3'
  obtain ⟨kA0, kA1, _, _⟩ := two_cells hHA
  have HEA := hid hEA
  clear hEA hHA
  show Code.wp Tryd.prog (Code.seq (head15 5) (tail15 6)) _ _ _
  conv => arg 2; arg 1; whnf
  go_wp2_with fail
  refine (toFloat_ok _ hRA HEA.out (lb.mono (by decide))).mono ?_
  rintro e w2 ⟨rfl, hb2⟩
  obtain ⟨fb, hx⟩ : ∃ fb, fb = ibits vb := ⟨_, rfl⟩
  rw [← hx]
  have hg := hid hx
  clear hx
  go_wp2
  exact NE_6 la lb hf hg (hb.trans (hb2.mono hb.size)) h0 o3 (b2.keep hb2) (b3.keep hb2)

set_option maxRecDepth 100000 in
set_option maxHeartbeats 2000000 in
theorem NE_4 {w wr : World} {g2 g3 : Nat} {u0 u1 u4 u6 u7 u8 u9 u10 u11 u12 u13 u14 u15 u16 u17 u18 u19 u20 u21 u22 u23 u24 u25 u26 u27 u28 u29 u30 u31 u32 u33 u34 u35 u36 u37 u38 u39 u40 u41 u42 u43 u44 u45 u46 u47 u48 u49 u50 u51 u52 u53 u54 u55 u56 u57 u58 u59 u60 u61 u62 u63 u64 u65 u66 u67 u68 u69 u70 u71 u72 u73 u74 u75 u76 u77 u78 u79 u80 u81 u82 u83 u84 u85 u86 u87 u88 u89 u90 u91 u92 u93 u94 u95 u96 u97 u98 u99 u100 u101 u102 u103 u104 u105 u106 u107 u108 u109 u110 u111 u112 u113 u114 u115 u116 u117 : Value} {va vb : Int}
    (la : Lt 992 va) (lb : Lt 992 vb)
    (hb : Below w.heap.size w wr) (h0 : w.heap.size ≤ g2)
    (o3 : g2 < g3)
    (b2 : Bx wr g2 (va)) (b3 : Bx wr g3 (vb)) :
    Code.wp Tryd.prog (tail15 4) (Q15 w) ⟨#[u0, u1, .pointer (some ⟨g2, 0, none⟩), .pointer (some ⟨g3, 0, none⟩), u4, .bool true, u6, u7, u8, u9, u10, u11, u12, u13, u14, u15, u16, u17, u18, u19, u20, u21, u22, u23, u24, u25, u26, u27, u28, u29, u30, u31, u32, u33, u34, u35, u36, u37, u38, u39, u40, u41, u42, u43, u44, u45, u46, u47, u48, u49, u50, u51, u52, u53, u54, u55, u56, u57, u58, u59, u60, u61, u62, u63, u64, u65, u66, u67, u68, u69, u70, u71, u72, u73, u74, u75, u76, u77, u78, u79, u80, u81, u82, u83, u84, u85, u86, u87, u88, u89, u90, u91, u92, u93, u94, u95, u96, u97, u98, u99, u100, u101, u102, u103, u104, u105, u106, u107, u108, u109, u110, u111, u112, u113, u114, u115, u116, u117], []⟩ wr := by
  have b2' := b2
  obtain ⟨nA, aA, lA, cA, A, hHA, hRA, hEA⟩ := b2'
  obtain ⟨kA0, kA1, _, _⟩ := two_cells hHA
  have HEA := hid hEA
  clear hEA hHA
  show Code.wp Tryd.prog (Code.seq (head15 4) (tail15 5)) _ _ _
  conv => arg 2; arg 1; whnf
  go_wp2_with fail
  refine (toFloat_ok _ hRA HEA.out (la.mono (by decide))).mono ?_
  rintro e w2 ⟨rfl, hb2⟩
  obtain ⟨fa, hx⟩ : ∃ fa, fa = ibits va := ⟨_, rfl⟩
  rw [← hx]
  have hf := hid hx
  clear hx
  go_wp2
  exact NE_5 la lb hf (hb.trans (hb2.mono hb.size)) h0 o3 (b2.keep hb2) (b3.keep hb2)

set_option maxRecDepth 100000 in
set_option maxHeartbeats 2000000 in
theorem NE_3 {w wr : World} {g2 g3 : Nat} {u0 u1 u4 u6 u7 u8 u9 u10 u11 u12 u13 u14 u15 u16 u17 u18 u19 u20 u21 u22 u23 u24 u25 u26 u27 u28 u29 u30 u31 u32 u33 u34 u35 u36 u37 u38 u39 u40 u41 u42 u43 u44 u45 u46 u47 u48 u49 u50 u51 u52 u53 u54 u55 u56 u57 u58 u59 u60 u61 u62 u63 u64 u65 u66 u67 u68 u69 u70 u71 u72 u73 u74 u75 u76 u77 u78 u79 u80 u81 u82 u83 u84 u85 u86 u87 u88 u89 u90 u91 u92 u93 u94 u95 u96 u97 u98 u99 u100 u101 u102 u103 u104 u105 u106 u107 u108 u109 u110 u111 u112 u113 u114 u115 u116 u117 : Value} {va vb : Int}
    (la : Lt 992 va)
    (hb : Below w.heap.size w wr) (h0 : w.heap.size ≤ g2)
    (o3 : g2 < g3)
    (b2 : Bx wr g2 (va)) (b3 : Bx wr g3 (vb)) :
    Code.wp Tryd.prog (tail15 3) (Q15 w) ⟨#[u0, u1, .pointer (some ⟨g2, 0, none⟩), .pointer (some ⟨g3, 0, none⟩), u4, .bool true, u6, u7, u8, u9, u10, u11, u12, u13, u14, u15, u16, u17, u18, u19, u20, u21, u22, u23, u24, u25, u26, u27, u28, u29, u30, u31, u32, u33, u34, u35, u36, u37, u38, u39, u40, u41, u42, u43, u44, u45, u46, u47, u48, u49, u50, u51, u52, u53, u54, u55, u56, u57, u58, u59, u60, u61, u62, u63, u64, u65, u66, u67, u68, u69, u70, u71, u72, u73, u74, u75, u76, u77, u78, u79, u80, u81, u82, u83, u84, u85, u86, u87, u88, u89, u90, u91, u92, u93, u94, u95, u96, u97, u98, u99, u100, u101, u102, u103, u104, u105, u106, u107, u108, u109, u110, u111, u112, u113, u114, u115, u116, u117], []⟩ wr := by
  have b3' := b3
  obtain ⟨nA, aA, lA, cA, A, hHA, hRA, hEA⟩ := b3'
  obtain ⟨kA0, kA1, _, _⟩ := two_cells hHA
  have HEA := hid hEA
  clear hEA hHA
  show Code.wp Tryd.prog (Code.seq (head15 3) (tail15 4)) _ _ _
  conv => arg 2; arg 1; whnf
  go_wp2_with fail
  refine (few_any nA aA lA cA A 31 _ hRA (by decide) (by decide)).mono ?_
  rintro e w2 ⟨ao2, len2, cap2, rfl, hR2, hb2⟩
  have hlt : Lt 992 (num nA (A.take 31)) := lt_take hRA.ok _ rfl
  obtain ⟨nP, aP, lP, cP, P, hHP, _, _⟩ := b3.keep hb2
  obtain ⟨kP0, kP1, kP2, kP3⟩ := two_cells hHP
  clear hHP
  go_wp2
  have hb3 := hb.trans (hb2.mono hb.size)
  exact NE_4 la hlt (below_put hb3 (by omega) _ _) h0 o3 ((b2.keep hb2).put_other (b3.keep hb2) (by omega) _ _) ((b3.keep hb2).put hR2 rfl)

set_option maxRecDepth 100000 in
set_option maxHeartbeats 2000000 in
theorem NE_2 {w wr : World} {g2 g3 : Nat} {u0 u1 u4 u6 u7 u8 u9 u10 u11 u12 u13 u14 u15 u16 u17 u18 u19 u20 u21 u22 u23 u24 u25 u26 u27 u28 u29 u30 u31 u32 u33 u34 u35 u36 u37 u38 u39 u40 u41 u42 u43 u44 u45 u46 u47 u48 u49 u50 u51 u52 u53 u54 u55 u56 u57 u58 u59 u60 u61 u62 u63 u64 u65 u66 u67 u68 u69 u70 u71 u72 u73 u74 u75 u76 u77 u78 u79 u80 u81 u82 u83 u84 u85 u86 u87 u88 u89 u90 u91 u92 u93 u94 u95 u96 u97 u98 u99 u100 u101 u102 u103 u104 u105 u106 u107 u108 u109 u110 u111 u112 u113 u114 u115 u116 u117 : Value} {va vb : Int}
    
    (hb : Below w.heap.size w wr) (h0 : w.heap.size ≤ g2)
    (o3 : g2 < g3)
    (b2 : Bx wr g2 (va)) (b3 : Bx wr g3 (vb)) :
    Code.wp Tryd.prog (tail15 2) (Q15 w) ⟨#[u0, u1, .pointer (some ⟨g2, 0, none⟩), .pointer (some ⟨g3, 0, none⟩), u4, .bool true, u6, u7, u8, u9, u10, u11, u12, u13, u14, u15, u16, u17, u18, u19, u20, u21, u22, u23, u24, u25, u26, u27, u28, u29, u30, u31, u32, u33, u34, u35, u36, u37, u38, u39, u40, u41, u42, u43, u44, u45, u46, u47, u48, u49, u50, u51, u52, u53, u54, u55, u56, u57, u58, u59, u60, u61, u62, u63, u64, u65, u66, u67, u68, u69, u70, u71, u72, u73, u74, u75, u76, u77, u78, u79, u80, u81, u82, u83, u84, u85, u86, u87, u88, u89, u90, u91, u92, u93, u94, u95, u96, u97, u98, u99, u100, u101, u102, u103, u104, u105, u106, u107, u108, u109, u110, u111, u112, u113, u114, u115, u116, u117], []⟩ wr := by
  have b2' := b2
  obtain ⟨nA, aA, lA, cA, A, hHA, hRA, hEA⟩ := b2'
  obtain ⟨kA0, kA1, _, _⟩ := two_cells hHA
  have HEA := hid hEA
  clear hEA hHA
  show Code.wp Tryd.prog (Code.seq (head15 2) (tail15 3)) _ _ _
  conv => arg 2; arg 1; whnf
  go_wp2_with fail
  refine (few_any nA aA lA cA A 31 _ hRA (by decide) (by decide)).mono ?_
  rintro e w2 ⟨ao2, len2, cap2, rfl, hR2, hb2⟩
  have hlt : Lt 992 (num nA (A.take 31)) := lt_take hRA.ok _ rfl
  obtain ⟨nP, aP, lP, cP, P, hHP, _, _⟩ := b2.keep hb2
  obtain ⟨kP0, kP1, kP2, kP3⟩ := two_cells hHP
  clear hHP
  go_wp2
  have hb3 := hb.trans (hb2.mono hb.size)
  exact NE_3 hlt (below_put hb3 (by omega) _ _) h0 o3 ((b2.keep hb2).put hR2 rfl) ((b3.keep hb2).put_other (b2.keep hb2) (by omega) _ _)

set_option maxRecDepth 100000 in
set_option maxHeartbeats 2000000 in
theorem near_yes {na : Bool} {aa : Option Addr} {la ca : Nat} {A : List Nat} {nb : Bool} {ab : Option Addr} {lb cb : Nat} {B : List Nat} (w : World) (hA : Rd w aa la ca A) (hB : Rd w ab lb cb B) :
    Calls Tryd.prog 15 #[.agg #[.bool na, .slice aa la ca], .agg #[.bool nb, .slice ab lb cb]] w fun e w' => e = .returned (.bool true) ∧ Below w.heap.size w w' := by
  have X0 := (Bx.new (n := na) hA rfl).alloc (.cells #[.bool nb, .slice ab lb cb] 24)
  have X1 := Bx.new (n := nb) (hB.alloc (.cells #[.bool na, .slice aa la ca] 24)) rfl
  rw [show (w.alloc (.cells #[.bool na, .slice aa la ca] 24)).heap.size = w.heap.size + 1 by simp] at X1
  have hb := ((Below.refl w.heap.size w).alloc (Nat.le_refl _) (.cells #[.bool na, .slice aa la ca] 24)).alloc (by simp) (.cells #[.bool nb, .slice ab lb cb] 24)
  go_enter Tryd.func15, Tryd.ntmps15
  change Code.wp Tryd.prog (Code.seq (head15 0) (tail15 1)) (Q15 w) _ _
  conv => arg 2; arg 1; whnf
  go_wp2
  show Code.wp Tryd.prog (Code.seq (head15 1) (tail15 2)) _ _ _
  conv => arg 2; arg 1; whnf
  go_wp2_with fail
  refine (awake_yes _).mono ?_
  rintro e w2 ⟨rfl, hb2⟩
  go_wp2
  exact NE_2 (hb.trans (hb2.mono hb.size)) (Nat.le_refl _) (by simp) (X0.keep hb2) (X1.keep hb2)
end Go.Proofs.YtldafoojkimdeaaDoor
