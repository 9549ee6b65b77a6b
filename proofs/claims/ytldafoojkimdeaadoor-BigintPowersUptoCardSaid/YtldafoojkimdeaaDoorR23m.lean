/- Walk of the document's answer: Shift. No condition but those that each theorem names. Walk of the document's answer: Shift downwards, item by item. No condition but those that each theorem names. -/
import Derived.Test.YtldafoojkimdeaaDoorRefdm
import Derived.Deep.AppendLies
import Derived.Deep.CutBlock
namespace Go.Proofs.YtldafoojkimdeaaDoor
open Go.RowKit Lm

/-- make of a whole slice, at a step of a region that draws its order. -/
theorem step_make_full {P : Program} {w : World} {ops : Array Oper} {o : Oper} {a : Act} {K : Act → World → Prop} {Q : Exit → Act → World → Prop} {E : Prop}
    (hg : o.guard = none) (l c : Operand) (t : TypeId) (hop : o.op = Op.makeSlice t l c)
    (base : Nat) (e : TypeId) (i : TypeInfo) (z : Value) (size : Nat) (h1 : P.underlying t = some (.slice e)) (h2 : P.info? e = some i) (h3 : i.zero = some z) (h4 : i.size = size)
    (kl kc : IntKind) (L C : Int) (n : Nat) (hl : a.eval l = .int kl L) (hc : a.eval c = .int kc C) (hL : L = (n : Int)) (hC : C = (n : Int)) (b2 : i.bytes * n ≤ 281474976710656) (b3 : n ≤ maxLen) (b4 : base ≤ w.heap.size)
    (hK : ∀ w', w'.ownsRow base e size (.slice (some ⟨w.heap.size, 0, none⟩) n n) n (madeCells z.cells (n * size)).toList → w.grownBy w' none → K (a.put o.dst (.slice (some ⟨w.heap.size, 0, none⟩) n n)) w') :
    if Region.wanted o (yielded ops a.tmps) = true then Oper.wp P o a w K Q else E := by
  have hw : Region.wanted o (yielded ops a.tmps) = true := by simp [Region.wanted, hg]
  rw [if_pos hw]
  obtain ⟨w', hrun, r1, r2⟩ := run_make_full (P := P) w base t e i z size h1 h2 h3 h4 kl kc n b2 b3 b4
  subst hL
  subst hC
  unfold Oper.wp
  simp [execOp, hop, hl, hc, hrun, Result.andThen]
  exact hK w' r1 r2

theorem sg_shift (n : Bool) (k : Nat) (L : List Nat) : sg n (List.replicate k 0 ++ L) = sg n L * ((2 ^ k : Nat) : Int) := by
  unfold sg
  rw [bv_append, bv_zeros, List.length_replicate, Nat.zero_add]
  cases n <;> simp [Int.natCast_mul, Int.mul_comm, Int.neg_mul]
theorem B1_shift {L : List Nat} (h : B1 L) (k : Nat) : B1 (List.replicate k 0 ++ L) := (B1.zeros k).append h

theorem shift_ri {B : Nat} {w : World} {g n xl cap : Nat} {L : List Nat} (hl : L.length = xl) (h : w.ownsRow B 3 1 (.slice (some ⟨g, 0, none⟩) (n + xl) cap) (n + xl) ((madeCells (Value.int .i64 0).cells (n * 1)).toList ++ ints L)) (hm : n + xl ≤ 4294967296) : Ri w (some ⟨g, 0, none⟩) (n + xl) cap (List.replicate n 0 ++ L) := by
  have e : (madeCells (Value.int .i64 0).cells (n * 1)).toList ++ ints L = ints (List.replicate n 0 ++ L) := by
    rw [made_zeros_i n (n * 1) (by omega)]; simp [ints]
  rw [e] at h
  have hlen : (List.replicate n 0 ++ L).length = n + xl := by simp [hl]
  have hG : Gri B w (.slice (some ⟨g, 0, none⟩) (n + xl) cap) (List.replicate n 0 ++ L) := by unfold Gri; rw [hlen]; exact h
  obtain ⟨ao, cp, e2, hR⟩ := hG.rd (by rw [hlen]; exact hm)
  simp only [Value.slice.injEq] at e2
  obtain ⟨e3, _, e4⟩ := e2
  subst e3 e4
  rwa [hlen] at hR

set_option maxRecDepth 100000 in
set_option maxHeartbeats 2000000 in
theorem shiftR_up (nx : Bool) (xo : Option Addr) (xl xc : Nat) (v : Int) (n : Nat) (w : World) (hX : Big w nx xo xl xc v) (h0 : 0 < xl) (sx : xl ≤ 1048576) (hn : n ≤ 1048576) :
    Calls Tryd.prog 56 #[.agg #[.bool nx, .slice xo xl xc], .int .i64 (n : Int)] w fun e w' => ∃ n' o l c, e = .returned (.agg #[.bool n', .slice o l c]) ∧ Big w' n' o l c (v * ((2 ^ n : Nat) : Int)) ∧ Below w.heap.size w w' := by
  obtain ⟨i0, hi, hz0, hz1, hz2⟩ := info_parts Tryd.infoI
  obtain ⟨L, rL, bL, tL, _, ev⟩ := hX
  have HV := hid ev
  have HL := hid rL.size
  clear ev
  go_enter Tryd.func56, Tryd.ntmps56
  go_upto_region 1 with fail
  obtain ⟨wz, hz⟩ : ∃ wz, wz = (w.alloc (.cells #[.bool nx, .slice xo xl xc] 28)).alloc (.cells #[.bool false, .slice none 0 0] 28) := ⟨_, rfl⟩
  obtain ⟨hpx, hpr, hzb, hzl⟩ := new2 hz
  rw [← hz]
  clear hz
  have zL := rL.keep hzb
  obtain ⟨b, off, rfl, -⟩ := zL.cells h0
  have hnews := hid (zL.srcs h0)
  obtain ⟨x0, x1, _, _⟩ := two_cells hpx
  have HPx := hid hpx
  have HPr := hid hpr
  clear hpx hpr
  have hn0 : (0 : Int) ≤ (n : Int) := by omega
  have HB1 := hid (show 8 * n ≤ 281474976710656 by omega)
  have HB2 := hid (show n ≤ maxLen by unfold maxLen; omega)
  have HB3 := hid (show n + xl ≤ maxLen by unfold maxLen; omega)
  have HB4 := hid (show (n + xl) * 8 ≤ 140737488355328 by omega)
  have x0d := show wz.drew.cell? ⟨w.heap.size, 0, none⟩ = _ from x0
  have x1d := show wz.drew.cell? ⟨w.heap.size, 1, none⟩ = _ from x1
  obtain ⟨w1, hrun, hown, hgrow⟩ := run_make_full (P := Tryd.prog) wz.drew wz.heap.size 26 3 i0 (.int .i64 0) 1 Tryd.underlying26 hi hz0 hz1 .i64 .i64 n (by rw [hz2]; exact HB1.out) HB2.out (Nat.le_refl _)
  have hb1 : Below wz.heap.size wz w1 := ((Below.refl _ _).drew).grown hgrow (Nat.le_refl _) (by intro k hk; simp at hk)
  have p1 := hid (heap_keep HPx.out hb1)
  obtain ⟨a10, a11, _, _⟩ := two_cells p1.out
  go_wp2_with fail
  go_region_held3 (fun w' => w'.cell? ⟨w.heap.size, 0, none⟩ = some (.bool nx) ∧ w'.cell? ⟨w.heap.size, 1, none⟩ = some (.slice (some ⟨b, off, none⟩) xl xc))
    (first
      | (with_reducible exact ⟨x0, x1⟩)
      | (with_reducible exact ⟨x0d, x1d⟩)
      | (with_reducible exact ⟨a10, a11⟩)
      | (with_reducible exact ⟨a20, a21⟩)
      | (with_reducible exact ⟨a30, a31⟩)
      | (simp [go_sem, a30, a31]; done))
    (first
      | ((refine step_append_lies _ (by rfl) _ _ _ (by rfl) wz.heap.size 3 i0 _ 1 8 Tryd.underlying26 hi hz0 hz1 hz2 rfl (by omega) _ n _ (by rfl) hown ⟨b, off, none⟩ xl xc (ints L) (by rfl) (by rw [ints_len, HL.out, Nat.mul_one]) (fun j u hj => cell_keep (hnews.out j u hj) hb1) (ints_one L) h0 HB3.out HB4.out hb1.size w1.heap.size rfl ?_); intro gg cap w5 hown5 hgrow5 hat hlt; have hb5 : Below wz.heap.size wz w5 := hb1.grown hgrow5 hb1.size (by intro k hk; simp [Value.ownBlock] at hk; omega); have p5 := hid (heap_keep HPx.out hb5); have r5 := hid (heap_keep HPr.out hb5); obtain ⟨a20, a21, _, _⟩ := two_cells p5.out; have hR5 := shift_ri HL.out hown5 (by omega))
      | (go_at_call 68; (with_reducible refine (laidR _ _ _ _ (List.replicate n 0 ++ L) _ hR5 (B1_shift bL n)).mono ?_); rintro e w6 ⟨n', len', rfl, hle, hbig, hb6⟩; have r6 := hid (heap_keep r5.out hb6); obtain ⟨c0, c1, _, _⟩ := two_cells r6.out; have p6 := heap_keep p5.out hb6; obtain ⟨a30, a31, _, _⟩ := two_cells p6))
  all_goals
    have hball := hzb.trans ((hb5.trans (hb6.mono hb5.size)).mono hzb.size)
    go_wp2
    refine bodyPost_ret (v := .agg #[.bool n', .slice (some ⟨gg, 0, none⟩) len' cap]) (by simp [results, Tryd.results56, go_sem, c0, c1]) rfl ⟨_, _, _, _, rfl, ?_, ?_⟩
    · exact (hbig.other r6.out (by simp) (by simp) _ _).cast (by rw [sg_shift, HV.out])
    · exact (hball.setCell (by simp) _).setCell (by simp) _

theorem Ri.cut {w : World} {b off len cap : Nat} {A : List Nat} (h : Ri w (some ⟨b, off, none⟩) len cap A) {k : Nat} (hk : k ≤ len) : Ri w (some ⟨b, off + k, none⟩) (len - k) (cap - k) (A.drop k) := by
  have hr := h.room
  have hm := h.most
  refine ⟨by rw [List.length_drop, h.size], by omega, by omega, fun h0 => ?_⟩
  obtain ⟨b', off', e, hc⟩ := h.cells (by omega)
  simp only [Option.some.injEq, Addr.mk.injEq, and_true] at e
  obtain ⟨rfl, rfl⟩ := e
  refine ⟨b, off + k, rfl, fun i hi => ?_⟩
  rw [dg_drop, Nat.add_assoc]; exact hc (k + i) (by omega)
/-- Divided downwards by a power of two. -/
theorem sg_down (n : Bool) (L : List Nat) (hL : B1 L) (k : Nat) : sg n L / ((2 ^ k : Nat) : Int) = sg n (L.drop k) + if n = true ∧ bv (L.take k) ≠ 0 then -1 else 0 := by
  have s := bv_split_any L k
  have hp : 0 < 2 ^ k := Nat.pow_pos (by decide)
  have hlt0 := bv_lt (hL.take k)
  have hlt : bv (L.take k) < 2 ^ k := Nat.lt_of_lt_of_le hlt0 (Nat.pow_le_pow_right (by decide) (by rw [List.length_take]; omega))
  generalize 2 ^ k = p at *
  unfold sg
  generalize bv (L.take k) = r at *
  generalize bv (L.drop k) = q at *
  have e : (bv L : Int) = (r : Int) + (q : Int) * (p : Int) := by rw [s]; simp [Int.mul_comm]
  have hpi : (p : Int) ≠ 0 := by omega
  cases n
  · simp only [Bool.false_eq_true, if_false, false_and]
    rw [e, Int.add_mul_ediv_right _ _ hpi, Int.ediv_eq_zero_of_lt (by omega) (by omega)]; omega
  · simp only [if_true, true_and]
    have e2 : -(bv L : Int) = -(r : Int) + (-(q : Int)) * (p : Int) := by rw [e, Int.neg_mul]; omega
    rw [e2, Int.add_mul_ediv_right _ _ hpi]
    by_cases hr : r = 0
    · subst hr; simp
    · rw [if_pos hr]
      have : -(r : Int) / (p : Int) = -1 := by
        apply Int.le_antisymm
        · have := Int.ediv_neg_of_neg_of_pos (a := -(r : Int)) (b := (p : Int)) (by omega) (by omega)
          omega
        · rw [Int.le_ediv_iff_mul_le (by omega)]; omega
      rw [this]; omega
/-- More places than there are: as if all were passed over. -/
theorem sg_down_all (n : Bool) (L : List Nat) (hL : B1 L) (k : Nat) (h : L.length ≤ k) : sg n L / ((2 ^ k : Nat) : Int) = sg n (L.drop L.length) + if n = true ∧ bv (L.take L.length) ≠ 0 then -1 else 0 := by
  rw [sg_down n L hL k, List.drop_eq_nil_of_le h, List.drop_length, List.take_of_length_le h, List.take_length]
end Go.Proofs.YtldafoojkimdeaaDoor

namespace Go.Proofs.YtldafoojkimdeaaDoor
open Go.RowKit Lm

noncomputable def tail56 (n : Nat) : Code := seqDrop n (Tryd.f56.body.getD .skip)
noncomputable def head56 (n : Nat) : Code := seqHead (tail56 n)
noncomputable def Q56 (w : World) (V : Int) : Exit → Act → World → Prop := bodyPost Tryd.prog Tryd.f56 fun e w' => ∃ n' o l c, e = .returned (.agg #[.bool n', .slice o l c]) ∧ Big w' n' o l c V ∧ Below w.heap.size w w'


set_option maxRecDepth 100000 in
set_option maxHeartbeats 8000000 in
theorem SH_8 {w wr : World} {V : Int} {nx : Bool} {n6 : Bool} {o6 : Option Addr} {L : List Nat} {g4 : Nat} {g7 : Nat} {m : Nat} {l6 : Nat} {c6 : Nat} {u0 u1 u2 u3 u5 u6 u8 u9 u10 u11 u12 u13 u14 u15 u16 u17 u18 u19 u20 u21 u22 u23 u24 u25 u26 u27 u28 u29 u30 u31 u32 u33 u34 u35 u36 u37 u38 u39 u40 u41 u42 u43 u44 u45 u46 u47 u48 u49 u50 u51 u52 u53 u54 u55 u56 u57 u58 u59 u60 u61 u62 u63 u64 u65 u66 : Value}
    (hV8 : Hid (V = sg nx (L.drop m)))
    (hgg : w.heap.size ≤ g4)
    (hb : Below w.heap.size w wr)
    (pr : Pr wr g4 28 (.bool false) (.slice none 0 0))
    (p7 : Pr wr g7 28 (.bool n6) (.slice o6 l6 c6))
    (b7 : Big wr n6 o6 l6 c6 (sg nx (L.drop m))) :
    Code.wp Tryd.prog (tail56 8) (Q56 w V) ⟨#[u0, u1, u2, u3, .pointer (some ⟨g4, 0, none⟩), u5, u6, .pointer (some ⟨g7, 0, none⟩), u8, u9, u10, u11, u12, u13, u14, u15, u16, u17, u18, u19, u20, u21, u22, u23, u24, u25, u26, u27, u28, u29, u30, u31, u32, u33, u34, u35, u36, u37, u38, u39, u40, u41, u42, u43, u44, u45, u46, u47, u48, u49, u50, u51, u52, u53, u54, u55, u56, u57, u58, u59, u60, u61, u62, u63, u64, u65, u66], []⟩ wr := by
  obtain ⟨kp70, kp71, _, _⟩ := two_cells p7
  obtain ⟨z0, z1, _, _⟩ := two_cells pr
  have PR := hid pr
  conv => arg 2; whnf
  unfold Q56
  go_wp2
  refine bodyPost_ret (v := .agg #[.bool n6, .slice o6 l6 c6]) (by simp [results, Tryd.results56, go_sem, z0, z1]) rfl ⟨_, _, _, _, rfl, ?_, ?_⟩
  · exact (b7.other PR.out (by simp) (by simp) _ _).cast hV8.out.symm
  · exact (hb.setCell hgg _).setCell hgg _

set_option maxRecDepth 100000 in
set_option maxHeartbeats 8000000 in
theorem SH_7 {w wr : World} {V : Int} {nx : Bool} {n6 : Bool} {o6 : Option Addr} {L : List Nat} {xl : Nat} {xc : Nat} {g2 : Nat} {g4 : Nat} {g7 : Nat} {m : Nat} {l6 : Nat} {c6 : Nat} {b : Nat} {off : Nat} {u0 u1 u3 u8 u9 u10 u11 u12 u13 u14 u15 u16 u17 u18 u19 u20 u21 u22 u23 u24 u25 u26 u27 u28 u29 u30 u31 u32 u33 u34 u35 u36 u37 u38 u39 u40 u41 u42 u43 u44 u45 u46 u47 u48 u49 u50 u51 u52 u53 u54 u55 u56 u57 u58 u59 u60 u61 u62 u63 u64 u65 u66 : Value}
    (sx : xl ≤ 1000000)
    (h0' : 0 < xl)
    (hm' : m ≤ xl)
    (bL : B1 L)
    (hV : Hid (V = sg nx (L.drop m) + if nx = true ∧ 0 < (tl (L.take m)).length then -1 else 0))
    (hgg : w.heap.size ≤ g4)
    (hne : ¬ g4 = g7)
    (hb : Below w.heap.size w wr)
    (px : Pr wr g2 28 (.bool nx) (.slice (some ⟨b, off, none⟩) xl xc))
    (rL : Ri wr (some ⟨b, off, none⟩) xl xc L)
    (pr : Pr wr g4 28 (.bool false) (.slice none 0 0))
    (p7 : Pr wr g7 28 (.bool n6) (.slice o6 l6 c6))
    (b7 : Big wr n6 o6 l6 c6 (sg nx (L.drop m))) :
    Code.wp Tryd.prog (tail56 7) (Q56 w V) ⟨#[u0, u1, .pointer (some ⟨g2, 0, none⟩), u3, .pointer (some ⟨g4, 0, none⟩), .int .i64 (m : Int), .bool (decide (0 < (tl (L.take m)).length)), .pointer (some ⟨g7, 0, none⟩), u8, u9, u10, u11, u12, u13, u14, u15, u16, u17, u18, u19, u20, u21, u22, u23, u24, u25, u26, u27, u28, u29, u30, u31, u32, u33, u34, u35, u36, u37, u38, u39, u40, u41, u42, u43, u44, u45, u46, u47, u48, u49, u50, u51, u52, u53, u54, u55, u56, u57, u58, u59, u60, u61, u62, u63, u64, u65, u66], []⟩ wr := by
  obtain ⟨kpx0, kpx1, _, _⟩ := two_cells px
  obtain ⟨kp70, kp71, _, _⟩ := two_cells p7
  have P7 := hid p7
  have PR := hid pr
  have PX := hid px
  show Code.wp Tryd.prog (Code.seq (head56 7) (tail56 8)) _ _ _
  conv => arg 2; arg 1; whnf
  cases nx with
  | false =>
    have hV8 : Hid (V = sg false (L.drop m)) := hid (by rw [hV.out]; simp)
    go_wp2
    exact SH_8 hV8 hgg hb pr p7 b7
  | true =>
    by_cases hl : 0 < (tl (L.take m)).length
    · have hV9 : Hid (V = sg true (L.drop m) + -1) := hid (by rw [hV.out, if_pos ⟨rfl, hl⟩])
      have hd : decide (0 < (tl (L.take m)).length) = true := decide_eq_true hl
      rw [hd]
      clear hl hd
      have hl7 : l6 ≤ 1000000 := by
        have h1 := b7.len
        rw [sg_abs] at h1
        have h2 := bv_lt (bL.drop m)
        have h3 := (bl_le (bv (L.drop m)) (L.drop m).length).2 h2
        rw [List.length_drop, rL.size] at h3
        omega
      have hne2 : ¬ g7 = g4 := fun e => hne e.symm
      have b7d := b7.drew
      have h7 := hid (heap_keep P7.out (Below.refl _ _).drew)
      have h4 := hid (heap_keep PR.out (Below.refl _ _).drew)
      have hacc : Below wr.heap.size wr wr.drew := (Below.refl _ _).drew
      have e70 := show wr.drew.cell? ⟨g7, 0, none⟩ = _ from kp70
      have e71 := show wr.drew.cell? ⟨g7, 1, none⟩ = _ from kp71
      go_wp2_with fail
      go_region_held3 (fun w' => w'.cell? ⟨g7, 0, none⟩ = some (.bool n6) ∧ w'.cell? ⟨g7, 1, none⟩ = some (.slice o6 l6 c6))
        (first
          | (with_reducible exact ⟨kp70, kp71⟩)
          | (with_reducible exact ⟨e70, e71⟩)
          | (with_reducible exact ⟨(two_cells h7.out).1, (two_cells h7.out).2.1⟩)
          | (simp [go_sem, s70, s71, hne, hne2]; done))
        (first
          | (go_at_call 25; (with_reducible refine (smallR (-1) _ (by omega) (by omega)).mono ?_); rintro e w2 ⟨n5, o5, l5, k5, rfl, hl5, hS5, hkk⟩; have h7 := hid (heap_keep h7.out hkk); have h4 := hid (heap_keep h4.out hkk); have b7d := b7d.keep hkk; have hacc := hacc.trans (hkk.mono hacc.size))
          | (go_at_call 39; (with_reducible refine (sumR _ _ _ _ (sg true (L.drop m)) _ _ _ _ (-1) _ b7d hS5 (by omega) (by omega)).mono ?_); rintro e w2 ⟨n3, o3, l3, k3, rfl, hl3, hS3, hkk⟩; have h7 := hid (heap_keep h7.out hkk); have h4 := hid (heap_keep h4.out hkk); have hacc := hacc.trans (hkk.mono hacc.size); obtain ⟨z40, z41, _, _⟩ := two_cells h4.out; obtain ⟨s70, s71, _, _⟩ := two_cells h7.out))
      all_goals
        have hba := hb.trans (hacc.mono hb.size)
        unfold Q56
        go_wp2
        refine bodyPost_ret (v := .agg #[.bool n3, .slice o3 l3 k3]) (by simp [results, Tryd.results56, go_sem, z40, z41]) rfl ⟨_, _, _, _, rfl, ?_, ?_⟩
        · exact (hS3.other h4.out (by simp) (by simp) _ _).cast hV9.out.symm
        · exact (hba.setCell hgg _).setCell hgg _
    · have hV8 : Hid (V = sg true (L.drop m)) := hid (by rw [hV.out, if_neg (fun h => hl h.2)]; omega)
      have hd : decide (0 < (tl (L.take m)).length) = false := decide_eq_false hl
      rw [hd]
      clear hl hd
      go_wp2
      exact SH_8 hV8 hgg hb pr p7 b7

set_option maxRecDepth 100000 in
set_option maxHeartbeats 8000000 in
theorem SH_6 {w wr : World} {V : Int} {nx : Bool} {L : List Nat} {xl : Nat} {xc : Nat} {g2 : Nat} {g4 : Nat} {m : Nat} {b : Nat} {off : Nat} {u0 u1 u3 u7 u8 u9 u10 u11 u12 u13 u14 u15 u16 u17 u18 u19 u20 u21 u22 u23 u24 u25 u26 u27 u28 u29 u30 u31 u32 u33 u34 u35 u36 u37 u38 u39 u40 u41 u42 u43 u44 u45 u46 u47 u48 u49 u50 u51 u52 u53 u54 u55 u56 u57 u58 u59 u60 u61 u62 u63 u64 u65 u66 : Value}
    (sx : xl ≤ 1000000)
    (h0' : 0 < xl)
    (hm' : m ≤ xl)
    (bL : B1 L)
    (hV : Hid (V = sg nx (L.drop m) + if nx = true ∧ 0 < (tl (L.take m)).length then -1 else 0))
    (hgg : w.heap.size ≤ g4)
    (hb : Below w.heap.size w wr)
    (px : Pr wr g2 28 (.bool nx) (.slice (some ⟨b, off, none⟩) xl xc))
    (rL : Ri wr (some ⟨b, off, none⟩) xl xc L)
    (pr : Pr wr g4 28 (.bool false) (.slice none 0 0)) :
    Code.wp Tryd.prog (tail56 6) (Q56 w V) ⟨#[u0, u1, .pointer (some ⟨g2, 0, none⟩), u3, .pointer (some ⟨g4, 0, none⟩), .int .i64 (m : Int), .bool (decide (0 < (tl (L.take m)).length)), u7, u8, u9, u10, u11, u12, u13, u14, u15, u16, u17, u18, u19, u20, u21, u22, u23, u24, u25, u26, u27, u28, u29, u30, u31, u32, u33, u34, u35, u36, u37, u38, u39, u40, u41, u42, u43, u44, u45, u46, u47, u48, u49, u50, u51, u52, u53, u54, u55, u56, u57, u58, u59, u60, u61, u62, u63, u64, u65, u66], []⟩ wr := by
  have ng1 : ¬ wr.heap.size = g2 := by have := px.lt; omega
  have ng2 : ¬ g2 = wr.heap.size := by have := px.lt; omega
  have hrm := rL.room
  have hrs := hid rL.size
  have bD := bL.drop m
  have RDD : Ri wr (if xc = m then some ⟨b, off, none⟩ else some ⟨b, off + m, none⟩) (xl - m) (xc - m) (L.drop m) := by
    by_cases h : xc = m
    · rw [if_pos h]
      exact ⟨by rw [List.length_drop, hrs.out], by omega, by have := rL.most; omega, fun h2 => by omega⟩
    · rw [if_neg h]; exact rL.cut hm'
  have hb7d : Below wr.heap.size wr wr.drew := (Below.refl _ _).drew
  have hb7e := ((Below.refl wr.heap.size wr).alloc (Nat.le_refl _) (.cells #[.bool false, .slice none 0 0] 28)).drew
  obtain ⟨x0, x1, _, _⟩ := two_cells px
  have x0d := show wr.drew.cell? ⟨g2, 0, none⟩ = _ from x0
  have x1d := show wr.drew.cell? ⟨g2, 1, none⟩ = _ from x1
  have HPX : Hid (wr.heap[g2]? = some (.cells #[.bool nx, .slice (some ⟨b, off, none⟩) xl xc] 28 (0, 0))) := hid px
  by_cases hcm : xc = m
  · subst hcm
    have RD1 : Ri wr (some ⟨b, off, none⟩) 0 0 (L.drop xc) := by
      have := RDD
      rw [if_pos rfl, show xl - xc = 0 by omega, Nat.sub_self] at this
      exact this
    have RD2 := hid RD1.drew
    have RD3 := hid (RD1.alloc (.cells #[.bool false, .slice none 0 0] 28)).drew
    clear RDD RD1
    show Code.wp Tryd.prog (Code.seq (head56 6) (tail56 7)) _ _ _
    conv => arg 2; arg 1; whnf
    go_wp2_with fail
    go_region_held3 (fun w' => w'.cell? ⟨g2, 0, none⟩ = some (.bool nx) ∧ w'.cell? ⟨g2, 1, none⟩ = some (.slice (some ⟨b, off, none⟩) xl xc))
      (first
        | (with_reducible exact ⟨x0, x1⟩)
        | (with_reducible exact ⟨x0d, x1d⟩)
        | (with_reducible exact ⟨a30, a31⟩)
        | go_keep
        | (simp [go_sem, a30, a31, ng1, ng2]; done))
      (first
        | (go_at_call 68; (with_reducible refine (laidR _ _ _ _ (L.drop xc) _ (by first | exact RD2.out | exact RD3.out) bD).mono ?_); rintro e w6 ⟨n6, l6, rfl, hle6, hbig, hb6⟩; have hb7 : Below wr.heap.size wr w6 := (by first | exact hb7d.trans hb6 | exact hb7e.trans (hb6.mono hb7e.size)); obtain ⟨a30, a31, _, _⟩ := two_cells (heap_keep HPX.out hb7); (first | (have hz7 : w6.heap[wr.heap.size]? = some (.cells #[.bool false, .slice none 0 0] 28 (0, 0)) := heap_keep (w := (wr.alloc (.cells #[.bool false, .slice none 0 0] 28)).drew) (heap_alloc_new wr _) hb6; have z70 := (two_cells hz7).1; have z71 := (two_cells hz7).2.1; have z72 := (two_cells hz7).2.2.1; have z73 := (two_cells hz7).2.2.2) | skip)))
    all_goals
      go_wp2
      have hb8 := hb.trans (hb7.mono hb.size)
      have hs8 := hb.size
      have px8 := Pr.keep (t := 28) HPX.out hb7
      have rL8 := rL.keep hb7
      have pr8 := pr.keep hb7
      first
      | exact SH_7 sx h0' hm' bL hV hgg (by have := pr8.lt; omega) (hb8.alloc hb8.size _) (px8.alloc _) (rL8.alloc _) (pr8.alloc _) (Pr.new _ _ _ _) (hbig.alloc _)
      | exact SH_7 sx h0' hm' bL hV hgg (by have := pr.lt; omega) ((hb8.setCell hs8 _).setCell hs8 _) (heap_set (heap_set px8 ng2) ng2) ((rL8.other hz7 (by simp) (by simp) _ _)) (heap_set (heap_set pr8 (by have := pr.lt; simp; omega)) (by have := pr.lt; simp; omega)) (set_pair hz7 _ _) (hbig.other hz7 (by simp) (by simp) _ _)
  · have RD1 := RDD
    rw [if_neg hcm] at RD1
    have RD2 := hid RD1.drew
    have RD3 := hid (RD1.alloc (.cells #[.bool false, .slice none 0 0] 28)).drew
    clear RDD RD1
    show Code.wp Tryd.prog (Code.seq (head56 6) (tail56 7)) _ _ _
    conv => arg 2; arg 1; whnf
    go_wp2_with fail
    go_region_held3 (fun w' => w'.cell? ⟨g2, 0, none⟩ = some (.bool nx) ∧ w'.cell? ⟨g2, 1, none⟩ = some (.slice (some ⟨b, off, none⟩) xl xc))
      (first
        | (with_reducible exact ⟨x0, x1⟩)
        | (with_reducible exact ⟨x0d, x1d⟩)
        | (with_reducible exact ⟨a30, a31⟩)
        | go_keep
        | (simp [go_sem, a30, a31, ng1, ng2]; done))
      (first
        | (go_at_call 68; (with_reducible refine (laidR _ _ _ _ (L.drop m) _ (by first | exact RD2.out | exact RD3.out) bD).mono ?_); rintro e w6 ⟨n6, l6, rfl, hle6, hbig, hb6⟩; have hb7 : Below wr.heap.size wr w6 := (by first | exact hb7d.trans hb6 | exact hb7e.trans (hb6.mono hb7e.size)); obtain ⟨a30, a31, _, _⟩ := two_cells (heap_keep HPX.out hb7); (first | (have hz7 : w6.heap[wr.heap.size]? = some (.cells #[.bool false, .slice none 0 0] 28 (0, 0)) := heap_keep (w := (wr.alloc (.cells #[.bool false, .slice none 0 0] 28)).drew) (heap_alloc_new wr _) hb6; have z70 := (two_cells hz7).1; have z71 := (two_cells hz7).2.1; have z72 := (two_cells hz7).2.2.1; have z73 := (two_cells hz7).2.2.2) | skip)))
    all_goals
      go_wp2
      have hb8 := hb.trans (hb7.mono hb.size)
      have hs8 := hb.size
      have px8 := Pr.keep (t := 28) HPX.out hb7
      have rL8 := rL.keep hb7
      have pr8 := pr.keep hb7
      first
      | exact SH_7 sx h0' hm' bL hV hgg (by have := pr8.lt; omega) (hb8.alloc hb8.size _) (px8.alloc _) (rL8.alloc _) (pr8.alloc _) (Pr.new _ _ _ _) (hbig.alloc _)
      | exact SH_7 sx h0' hm' bL hV hgg (by have := pr.lt; omega) ((hb8.setCell hs8 _).setCell hs8 _) (heap_set (heap_set px8 ng2) ng2) ((rL8.other hz7 (by simp) (by simp) _ _)) (heap_set (heap_set pr8 (by have := pr.lt; simp; omega)) (by have := pr.lt; simp; omega)) (set_pair hz7 _ _) (hbig.other hz7 (by simp) (by simp) _ _)

set_option maxRecDepth 100000 in
set_option maxHeartbeats 8000000 in
theorem SH_5 {w wr : World} {V : Int} {nx : Bool} {L : List Nat} {xl : Nat} {xc : Nat} {g2 : Nat} {g4 : Nat} {m : Nat} {b : Nat} {off : Nat} {u0 u1 u3 u6 u7 u8 u9 u10 u11 u12 u13 u14 u15 u16 u17 u18 u19 u20 u21 u22 u23 u24 u25 u26 u27 u28 u29 u30 u31 u32 u33 u34 u35 u36 u37 u38 u39 u40 u41 u42 u43 u44 u45 u46 u47 u48 u49 u50 u51 u52 u53 u54 u55 u56 u57 u58 u59 u60 u61 u62 u63 u64 u65 u66 : Value}
    (sx : xl ≤ 1000000)
    (h0' : 0 < xl)
    (hm' : m ≤ xl)
    (bL : B1 L)
    (hV : Hid (V = sg nx (L.drop m) + if nx = true ∧ 0 < (tl (L.take m)).length then -1 else 0))
    (hgg : w.heap.size ≤ g4)
    (hb : Below w.heap.size w wr)
    (px : Pr wr g2 28 (.bool nx) (.slice (some ⟨b, off, none⟩) xl xc))
    (rL : Ri wr (some ⟨b, off, none⟩) xl xc L)
    (pr : Pr wr g4 28 (.bool false) (.slice none 0 0)) :
    Code.wp Tryd.prog (tail56 5) (Q56 w V) ⟨#[u0, u1, .pointer (some ⟨g2, 0, none⟩), u3, .pointer (some ⟨g4, 0, none⟩), .int .i64 (m : Int), u6, u7, u8, u9, u10, u11, u12, u13, u14, u15, u16, u17, u18, u19, u20, u21, u22, u23, u24, u25, u26, u27, u28, u29, u30, u31, u32, u33, u34, u35, u36, u37, u38, u39, u40, u41, u42, u43, u44, u45, u46, u47, u48, u49, u50, u51, u52, u53, u54, u55, u56, u57, u58, u59, u60, u61, u62, u63, u64, u65, u66], []⟩ wr := by
  obtain ⟨kpx0, kpx1, _, _⟩ := two_cells px
  have rT := rL.take hm'
  have hrm := rL.room
  show Code.wp Tryd.prog (Code.seq (head56 5) (tail56 6)) _ _ _
  conv => arg 2; arg 1; whnf
  go_wp2_with (go_at_call 98; refine (cutR _ _ _ (L.take m) _ rT).mono ?_; rintro e w' ⟨rfl, rfl⟩)
  exact SH_6 (sx) (h0') (hm') (bL) (hV) (hgg) (hb) (px) (rL) (pr)

set_option maxRecDepth 100000 in
set_option maxHeartbeats 8000000 in
theorem SH_4 {w wr : World} {V : Int} {nx : Bool} {L : List Nat} {xl : Nat} {xc : Nat} {g2 : Nat} {g4 : Nat} {kq : Nat} {m : Nat} {b : Nat} {off : Nat} {u0 u3 u5 u6 u7 u8 u9 u10 u11 u12 u13 u14 u15 u16 u17 u18 u19 u20 u21 u22 u23 u24 u25 u26 u27 u28 u29 u30 u31 u32 u33 u34 u35 u36 u37 u38 u39 u40 u41 u42 u43 u44 u45 u46 u47 u48 u49 u50 u51 u52 u53 u54 u55 u56 u57 u58 u59 u60 u61 u62 u63 u64 u65 u66 : Value}
    (sx : xl ≤ 1000000)
    (hk' : kq ≤ 1000001)
    (h0' : 0 < xl)
    (hm' : m ≤ xl)
    (hmin : Hid (min (kq : Int) (xl : Int) = (m : Int)))
    (bL : B1 L)
    (hV : Hid (V = sg nx (L.drop m) + if nx = true ∧ 0 < (tl (L.take m)).length then -1 else 0))
    (hgg : w.heap.size ≤ g4)
    (hb : Below w.heap.size w wr)
    (px : Pr wr g2 28 (.bool nx) (.slice (some ⟨b, off, none⟩) xl xc))
    (rL : Ri wr (some ⟨b, off, none⟩) xl xc L)
    (pr : Pr wr g4 28 (.bool false) (.slice none 0 0)) :
    Code.wp Tryd.prog (tail56 4) (Q56 w V) ⟨#[u0, .int .i64 (-(kq : Int)), .pointer (some ⟨g2, 0, none⟩), u3, .pointer (some ⟨g4, 0, none⟩), u5, u6, u7, u8, u9, u10, u11, u12, u13, u14, u15, u16, u17, u18, u19, u20, u21, u22, u23, u24, u25, u26, u27, u28, u29, u30, u31, u32, u33, u34, u35, u36, u37, u38, u39, u40, u41, u42, u43, u44, u45, u46, u47, u48, u49, u50, u51, u52, u53, u54, u55, u56, u57, u58, u59, u60, u61, u62, u63, u64, u65, u66], []⟩ wr := by
  obtain ⟨kpx0, kpx1, _, _⟩ := two_cells px
  have hmn := hmin.out
  show Code.wp Tryd.prog (Code.seq (head56 4) (tail56 5)) _ _ _
  conv => arg 2; arg 1; whnf
  go_wp2
  exact SH_5 (sx) (h0') (hm') (bL) (hV) (hgg) (hb) (px) (rL) (pr)


set_option maxRecDepth 100000 in
set_option maxHeartbeats 2000000 in
theorem shiftR_down (nx : Bool) (xo : Option Addr) (xl xc : Nat) (v : Int) (k : Nat) (w : World) (hX : Big w nx xo xl xc v) (h0 : 0 < xl) (sx : xl ≤ 1000000) (hk : 0 < k) (hk2 : k ≤ 1000000) :
    Calls Tryd.prog 56 #[.agg #[.bool nx, .slice xo xl xc], .int .i64 (-(k : Int))] w fun e w' => ∃ n' o l c, e = .returned (.agg #[.bool n', .slice o l c]) ∧ Big w' n' o l c (v / ((2 ^ k : Nat) : Int)) ∧ Below w.heap.size w w' := by
  obtain ⟨L, rL, bL, tL, _, ev⟩ := hX
  have HL := hid rL.size
  obtain ⟨b, off, rfl, -⟩ := rL.cells h0
  have hlost : ∀ m, (bv (L.take m) ≠ 0 ↔ 0 < (tl (L.take m)).length) := fun m => by
    constructor
    · intro h
      rcases Nat.eq_zero_or_pos (tl (L.take m)).length with h1 | h1
      · exact absurd (by rw [← tl_bv, List.eq_nil_of_length_eq_zero h1]; rfl) h
      · exact h1
    · intro h h1
      have := btop_zero (tl_top (L.take m)) (by rw [tl_bv]; exact h1)
      rw [this] at h; simp at h
  have HQ : ∀ m, (k ≤ xl ∧ m = k) ∨ (xl < k ∧ m = xl) → Hid (v / ((2 ^ k : Nat) : Int) = sg nx (L.drop m) + if nx = true ∧ 0 < (tl (L.take m)).length then -1 else 0) := fun m hm => hid (by
    have e : (if nx = true ∧ 0 < (tl (L.take m)).length then (-1 : Int) else 0) = if nx = true ∧ bv (L.take m) ≠ 0 then -1 else 0 := by simp only [hlost m]
    rw [e, ← ev]
    rcases hm with ⟨h1, rfl⟩ | ⟨h1, rfl⟩
    · exact sg_down nx L bL m
    · have := sg_down_all nx L bL k (by rw [HL.out]; omega)
      rw [HL.out] at this; exact this)
  have HH := hid HQ
  clear HQ hlost ev
  have hz := new2 (w := w) (o1 := .cells #[.bool nx, .slice (some ⟨b, off, none⟩) xl xc] 28) (o2 := .cells #[.bool false, .slice none 0 0] 28) rfl
  obtain ⟨hpx, hpr, hzb, -⟩ := hz
  have PX := hid hpx
  have PR := hid hpr
  have rz := hid (rL.keep hzb)
  obtain ⟨x0, x1, _, _⟩ := two_cells hpx
  clear hpx hpr rL
  have HB := hid hzb
  clear hzb
  go_enter Tryd.func56, Tryd.ntmps56
  change Code.wp Tryd.prog (Code.seq (head56 0) (Code.seq (head56 1) (Code.seq (head56 2) (Code.seq (head56 3) (tail56 4))))) (Q56 w (v / ((2 ^ k : Nat) : Int))) _ _
  conv => arg 2; arg 1; whnf
  conv => arg 2; arg 2; arg 1; whnf
  conv => arg 2; arg 2; arg 2; arg 1; whnf
  conv => arg 2; arg 2; arg 2; arg 2; arg 1; whnf
  by_cases h1 : k ≤ xl
  · go_wp2
    exact SH_4 sx (by omega) h0 h1 (hid (by omega)) bL (HH.out k (.inl ⟨h1, rfl⟩)) (by simp) HB.out PX.out rz.out PR.out
  · have h2 : xl < k := by omega
    go_wp2
    rw [show -(xl : Int) - 1 = -((xl + 1 : Nat) : Int) by omega]
    exact SH_4 (kq := xl + 1) sx (by omega) h0 (Nat.le_refl _) (hid (by omega)) bL (HH.out xl (.inr ⟨h2, rfl⟩)) (by simp) HB.out PX.out rz.out PR.out

end Go.Proofs.YtldafoojkimdeaaDoor
