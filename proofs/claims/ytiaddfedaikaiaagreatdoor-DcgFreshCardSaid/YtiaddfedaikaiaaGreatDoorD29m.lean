/- Walks: the deferred function of made. No condition but those that each theorem names. Walks: made, whose function gives up. No condition but those that each theorem names. Walk: made, whose function comes to a term of not too many nodes. No condition but those that the theorem names. Walk: made, whose function comes to a term of too many nodes. No condition but those that the theorem names. Walks: made, over the function that Rule hands it. No condition but those that each theorem names. -/
import Derived.Tactics
import Derived.Tactics2
import Derived.Defers
import Derived.Recover
import Derived.Test.YtiaddfedaikaiaaGreatDoorD24m
namespace Go.Proofs.YtiaddfedaikaiaaGreatDoor
open Go.RowKit

set_option maxRecDepth 100000 in
set_option maxHeartbeats 4000000 in
theorem made_idle (p0 p1 p2 : Value) (w : World) :
    CallsD Tryz.prog 102 #[p0, p1, p2] .returning w fun e u' w' => e = .returned (.tuple #[]) ∧ u' = .returning ∧ w' = w := by
  have hta : (Instr.typeAssert Value.nilIface 20 105 true).run Tryz.prog w = .ok (.tuple #[.pointer none, .bool false]) w := by
    first
      | kernel_rfl
      | simp [Instr.typeAssert, run_underlying Tryz.underlying105, typeInfo, zeroValue]
  refine callsD_of_wpS Tryz.func102 rfl fun c₀ cs hu => ?_
  apply wpS_seq
  apply wpS_region
  simp [wpOpsS, go_sem, recoverD, hu, Tryz.ntmps102, Exit.thenS]
  apply wpS_seq
  apply wpS_region
  simp [wpOpsS, go_sem, hta, Exit.thenS]
  apply wpS_seq
  apply wpS_region
  simp [wpOpsS, go_sem, Exit.thenS]
  refine wpS_cond (t := false) (by simp [Act.eval, Array.replicate]) ?_
  simp only [Bool.false_eq_true, if_false]
  apply wpS_seq
  apply wpS_region
  simp [wpOpsS, go_sem, Exit.thenS]
  refine wpS_cond (t := false) (by simp [Act.eval, Array.replicate]) ?_
  simp only [Bool.false_eq_true, if_false]
  refine wpS_of_wp (wp_skip ?_)
  cases c₀
  simp_all [bodyPostS, results, Tryz.results102]
theorem one_free {W : World} {b : Nat} {c0 : Value} {t : TypeId} (h : W.heap[b]? = some (.cells #[c0] t (0, 0))) : W.cell? ⟨b, 0, none⟩ = some c0 ∧ W.frozen? ⟨b, 0, none⟩ = false :=
  ⟨(cells_of h 0).trans rfl, by simp [World.frozen?, h]⟩
set_option maxRecDepth 100000 in
set_option maxHeartbeats 4000000 in
theorem made_caught (ob bh er k : Nat) (y0 y1 y2 y3 y4 y5 yb ye : Value) (tb te : TypeId) (older : List PanicEntry) (w : World) (ho : w.heap[ob]? = some (.cells #[y0, y1, y2, y3, y4, y5] 25 (0, 0))) (hb : w.heap[bh]? = some (.cells #[yb] tb (0, 0))) (he : w.heap[er]? = some (.cells #[ye] te (0, 0))) (h1 : ob < bh) (h2 : bh < er) :
    CallsD Tryz.prog 102 #[.pointer (some ⟨ob, 0, none⟩), .pointer (some ⟨bh, 0, none⟩), .pointer (some ⟨er, 0, none⟩)] (.panicking ({ v := .iface 105 (.pointer (some ⟨k, 0, none⟩)), recovered := false } :: older)) w fun e u' w' =>
      e = .returned (.tuple #[]) ∧ u' = .panicking ({ v := .iface 105 (.pointer (some ⟨k, 0, none⟩)), recovered := true } :: older) ∧ w' = ((((((((w.setCell ⟨ob, 0, none⟩ (.int .i64 0)).setCell ⟨ob, 1, none⟩ (.string ⟨#[]⟩)).setCell ⟨ob, 2, none⟩ (.string ⟨#[]⟩)).setCell ⟨ob, 3, none⟩ (.int .u64 0)).setCell ⟨ob, 4, none⟩ (.int .i64 0)).setCell ⟨ob, 5, none⟩ (.slice none 0 0)).setCell ⟨bh, 0, none⟩ (.int .i64 0)).setCell ⟨er, 0, none⟩ (.iface 105 (.pointer (some ⟨k, 0, none⟩)))) := by
  have htb : (Instr.typeAssert (Value.iface 105 (.pointer (some ⟨k, 0, none⟩))) 20 105 true).run Tryz.prog w = .ok (.tuple #[.pointer (some ⟨k, 0, none⟩), .bool true]) w := by
    first
      | kernel_rfl
      | simp [Instr.typeAssert, run_underlying Tryz.underlying105, typeInfo, zeroValue]
  obtain ⟨⟨z0, z1, z2, z3, z4, z5⟩, ⟨f0, f1, f2, f3, f4, f5⟩⟩ := six_free ho
  have hg := set6_grown w ob (.int .i64 0) (.string ⟨#[]⟩) (.string ⟨#[]⟩) (.int .u64 0) (.int .i64 0) (.slice none 0 0)
  obtain ⟨b0, b1⟩ := one_free ((hg.block bh (lt_of_block hb) (fun e => by have := Option.some.inj e; omega)).trans hb)
  have he6 := (hg.block er (lt_of_block he) (fun e => by have := Option.some.inj e; omega)).trans he
  have he7 := (heap_setCell_other _ ⟨bh, 0, none⟩ er (.int .i64 0) (show er ≠ bh by omega)).trans he6
  obtain ⟨c0, c1⟩ := one_free he7
  clear hg he6 he7 hb he ho
  refine callsD_of_wpS Tryz.func102 rfl fun c₀ cs hu => ?_
  apply wpS_seq
  apply wpS_region
  simp [wpOpsS, go_sem, recoverD, hu, Tryz.ntmps102, Exit.thenS]
  apply wpS_seq
  apply wpS_region
  simp [wpOpsS, go_sem, htb, Exit.thenS]
  apply wpS_seq
  apply wpS_region
  simp [wpOpsS, go_sem, Exit.thenS]
  refine wpS_cond (t := true) (by simp [Act.eval, Array.replicate]) ?_
  simp only [if_true]
  apply wpS_region
  simp [wpOpsS, go_sem, z0, z1, z2, z3, z4, z5, f0, f1, f2, f3, f4, f5, b0, b1, c0, c1, bodyPostS, results, Tryz.results102]
end Go.Proofs.YtiaddfedaikaiaaGreatDoor

namespace Go.Proofs.YtiaddfedaikaiaaGreatDoor
open Go.RowKit

mutual
theorem TmAt.one {W W' : World} {b : Nat} {c : Value} {ty : TypeId} (hb : W.heap[b]? = some (.cells #[c] ty (0, 0))) (hk : Past W W' b) : ∀ {t : Tm} {p : Option Addr}, TmAt W t p → TmAt W' t p
  | .mk kk nn uu bb vv l, p, k => by
    unfold TmAt at k ⊢
    refine ⟨k.1, ?_⟩
    rcases k.2 with k | ⟨b', o, e, k⟩
    · exact .inl k
    · exact .inr ⟨b', o, e, RowT.one hb hk k⟩
theorem RowT.one {W W' : World} {b : Nat} {c : Value} {ty : TypeId} (hb : W.heap[b]? = some (.cells #[c] ty (0, 0))) (hk : Past W W' b) : ∀ {l : List Tm} {k o : Nat}, RowT W l k o → RowT W' l k o
  | [], _, _, _ => by unfold RowT; trivial
  | t :: l, k, o, q => by
    unfold RowT at q ⊢
    obtain ⟨⟨p, cap, h1, h2⟩, h3⟩ := q
    have hlt : k < W.heap.size := by
      have := World.block_lt_of_cell? W _ h1.c0
      simpa using this
    have hne : k ≠ b := by
      rintro rfl
      have h5 := h1.c1
      rw [cells_of hb] at h5
      have h6 := h1.c0
      rw [cells_of hb] at h6
      have := (Array.getElem?_eq_some_iff.1 h5).1
      simp at this
    exact ⟨⟨p, cap, h1.same (hk k hlt hne), TmAt.one hb hk h2⟩, RowT.one hb hk h3⟩
end
/-- A ball outlives a store into a block of one cell. -/
theorem BallAt.one {W : World} {b k : Nat} {c d : Value} {ty : TypeId} {t : Tm} (hb : W.heap[b]? = some (.cells #[c] ty (0, 0))) (h : BallAt W k t) : BallAt (W.setCell ⟨b, 0, none⟩ d) k t := by
  obtain ⟨q, cp, h1, h2⟩ := h
  have hp : Past W (W.setCell ⟨b, 0, none⟩ d) b := fun x _ hne => heap_setCell_other W ⟨b, 0, none⟩ x d hne
  have hne : k ≠ b := by
    rintro rfl
    rw [hb] at h1
    simp at h1
  exact ⟨q, cp, (hp k (lt_of_block h1) hne).trans h1, h2.one hb hp⟩
/-- A blank block written over by a blank. -/
theorem set_blank {W : World} {b : Nat} (hb : Blank W b) : Below W.heap.size W ((((((W.setCell ⟨b, 0, none⟩ (.int .i64 0)).setCell ⟨b, 1, none⟩ (.string ⟨#[]⟩)).setCell ⟨b, 2, none⟩ (.string ⟨#[]⟩)).setCell ⟨b, 3, none⟩ (.int .u64 0)).setCell ⟨b, 4, none⟩ (.int .i64 0)).setCell ⟨b, 5, none⟩ (.slice none 0 0)) := by
  have hg := set6_grown W b (.int .i64 0) (.string ⟨#[]⟩) (.string ⟨#[]⟩) (.int .u64 0) (.int .i64 0) (.slice none 0 0)
  refine ⟨hg.os, hg.tape, hg.output, hg.size, fun k hk => ?_⟩
  by_cases e : k = b
  · rw [e, set6 hb (.int .i64 0) (.string ⟨#[]⟩) (.string ⟨#[]⟩) (.int .u64 0) (.int .i64 0) (.slice none 0 0)]
    exact hb.symm
  · exact hg.block k hk (fun h => e (Option.some.inj h))
set_option maxRecDepth 100000 in
set_option maxHeartbeats 8000000 in
theorem made_ball (n : Int) (bt bf be : Nat) (bb : Tm) (w : World)
    (HC : ∀ W bx, Below w.heap.size w W → w.heap.size ≤ bx → Box1 W bx n → Calls Tryz.prog 67 #[.func (.func 104) #[] #[.pointer (some ⟨bx, 0, none⟩)], .pointer (some ⟨bt, 0, none⟩), .pointer (some ⟨bf, 0, none⟩), .pointer (some ⟨be, 0, none⟩)] W fun x w' => ∃ k, x = .panicked [{ v := .iface 105 (.pointer (some ⟨k, 0, none⟩)), recovered := false }] ∧ BallAt w' k bb ∧ But1 bx W w') :
    Calls Tryz.prog 50 #[.int .i64 n, .func (.func 67) #[] #[.pointer (some ⟨bt, 0, none⟩), .pointer (some ⟨bf, 0, none⟩), .pointer (some ⟨be, 0, none⟩)]] w fun x w' => ∃ k, x = .returned (.tuple #[.agg #[.int .i64 0, .string ⟨#[]⟩, .string ⟨#[]⟩, .int .u64 0, .int .i64 0, .slice none 0 0], .int .i64 0, .iface 105 (.pointer (some ⟨k, 0, none⟩))]) ∧ BallAt w' k bb ∧ Below w.heap.size w w' := by
  have hmf : ∀ (fn : Fn) (first cap : Array Value) (w : World), (Instr.makeFunc fn first cap).run Tryz.prog w = .ok (.func fn first cap) w := fun _ _ _ _ => rfl
  obtain ⟨W0, hW0⟩ : ∃ W0, W0 = (((w.alloc (.cells #[.int .i64 n] 3)).alloc (.cells #[.int .i64 0, .string ⟨#[]⟩, .string ⟨#[]⟩, .int .u64 0, .int .i64 0, .slice none 0 0] 25)).alloc (.cells #[.int .i64 0] 3)).alloc (.cells #[.nilIface] 29) := ⟨_, rfl⟩
  have B0 := hid (show Below w.heap.size w W0 by rw [hW0]; exact ((((Below.refl w.heap.size w).alloc (Nat.le_refl _) _).alloc (by simp) _).alloc (by simp <;> omega) _).alloc (by simp <;> omega) _)
  have e0 := hid (show W0.heap[w.heap.size]? = some (.cells #[.int .i64 n] 3 (0, 0)) by rw [hW0]; exact (heap_alloc_old (((w.alloc _).alloc _).alloc _) _ (by simp <;> omega)).trans ((heap_alloc_old ((w.alloc _).alloc _) _ (by simp <;> omega)).trans ((heap_alloc_old (w.alloc _) _ (by simp)).trans (heap_alloc_new w _))))
  have e1 := hid (show W0.heap[w.heap.size + 1]? = some (.cells #[.int .i64 0, .string ⟨#[]⟩, .string ⟨#[]⟩, .int .u64 0, .int .i64 0, .slice none 0 0] 25 (0, 0)) by rw [hW0]; exact (heap_alloc_old (((w.alloc _).alloc _).alloc _) _ (by simp <;> omega)).trans ((heap_alloc_old ((w.alloc _).alloc _) _ (by simp)).trans (by have h := heap_alloc_new (w.alloc (.cells #[.int .i64 n] 3)) (.cells #[.int .i64 0, .string ⟨#[]⟩, .string ⟨#[]⟩, .int .u64 0, .int .i64 0, .slice none 0 0] 25); rwa [World.size_alloc] at h)))
  have e2 := hid (show W0.heap[w.heap.size + 1 + 1]? = some (.cells #[.int .i64 0] 3 (0, 0)) by rw [hW0]; exact (heap_alloc_old (((w.alloc _).alloc _).alloc _) _ (by simp)).trans (by have h := heap_alloc_new ((w.alloc (.cells #[.int .i64 n] 3)).alloc (.cells #[.int .i64 0, .string ⟨#[]⟩, .string ⟨#[]⟩, .int .u64 0, .int .i64 0, .slice none 0 0] 25)) (.cells #[.int .i64 0] 3); rwa [World.size_alloc, World.size_alloc] at h))
  have e3 := hid (show W0.heap[w.heap.size + 1 + 1 + 1]? = some (.cells #[.nilIface] 29 (0, 0)) by rw [hW0]; have h := heap_alloc_new (((w.alloc (.cells #[.int .i64 n] 3)).alloc (.cells #[.int .i64 0, .string ⟨#[]⟩, .string ⟨#[]⟩, .int .u64 0, .int .i64 0, .slice none 0 0] 25)).alloc (.cells #[.int .i64 0] 3)) (.cells #[.nilIface] 29); rw [World.size_alloc, World.size_alloc, World.size_alloc] at h; exact h)
  have CB := hid (HC W0 w.heap.size B0.out (Nat.le_refl _) e0.out)
  clear HC
  go_enter_defers Tryz.func50, Tryz.ntmps50
  go_upto_region 1 with fail
  rw [← hW0]
  clear hW0
  go_wp2_with (first
    | (go_at_call 67; (with_reducible refine CB.out.mono ?_); rintro x w4 ⟨k, rfl, hk, hb4⟩; have K4 := hid hk; have D4 := hid hb4; have E1 := hid (hb4.obj e1.out (by omega)); have E2 := hid (hb4.obj e2.out (by omega)); have E3 := hid (hb4.obj e3.out (by omega)); clear hb4 hk)
    | fail)
  refine leaves_cons (f := 102) (args := #[.pointer (some ⟨w.heap.size + 1, 0, none⟩), .pointer (some ⟨w.heap.size + 1 + 1, 0, none⟩), .pointer (some ⟨w.heap.size + 1 + 1 + 1, 0, none⟩)]) (by simp) (by simp [go_sem]) ?_
  refine (made_caught _ _ _ k _ _ _ _ _ _ _ _ _ _ [] w4 E1.out E2.out E3.out (by omega) (by omega)).mono ?_
  rintro x u' w5 ⟨rfl, rfl, rfl⟩
  have hB6 := set_blank (show Blank w4 (w.heap.size + 1) from E1.out)
  obtain ⟨W6, h6⟩ : ∃ W6, W6 = ((((((w4.setCell ⟨w.heap.size + 1, 0, none⟩ (.int .i64 0)).setCell ⟨w.heap.size + 1, 1, none⟩ (.string ⟨#[]⟩)).setCell ⟨w.heap.size + 1, 2, none⟩ (.string ⟨#[]⟩)).setCell ⟨w.heap.size + 1, 3, none⟩ (.int .u64 0)).setCell ⟨w.heap.size + 1, 4, none⟩ (.int .i64 0)).setCell ⟨w.heap.size + 1, 5, none⟩ (.slice none 0 0)) := ⟨_, rfl⟩
  rw [← h6] at hB6 ⊢
  have L6 := (D4.out.below (Nat.le_refl _) w rfl B0.out).trans (hB6.mono (D4.out.below (Nat.le_refl _) w rfl B0.out).size)
  have F1 := obj_keep E1.out hB6
  have F2 := obj_keep E2.out hB6
  have F3 := obj_keep E3.out hB6
  have K6 := K4.out.keep hB6
  have K7 := K6.one (d := .int .i64 0) F2
  have G1 := (heap_setCell_other W6 ⟨w.heap.size + 1 + 1, 0, none⟩ (w.heap.size + 1) (.int .i64 0) (by simp)).trans F1
  have G2 := heap_setCell_same W6 (w.heap.size + 1 + 1) 0 _ _ (.int .i64 0) F2
  have G3 := (heap_setCell_other W6 ⟨w.heap.size + 1 + 1, 0, none⟩ (w.heap.size + 1 + 1 + 1) (.int .i64 0) (by simp)).trans F3
  obtain ⟨W7, h7⟩ : ∃ W7, W7 = W6.setCell ⟨w.heap.size + 1 + 1, 0, none⟩ (.int .i64 0) := ⟨_, rfl⟩
  have L7 : Below w.heap.size w (W6.setCell ⟨w.heap.size + 1 + 1, 0, none⟩ (.int .i64 0)) := L6.setCell (show w.heap.size ≤ w.heap.size + 1 + 1 by omega) _
  rw [← h7] at L7 K7 G1 G2 G3 ⊢
  have K8 := K7.one (d := .iface 105 (.pointer (some ⟨k, 0, none⟩))) G3
  have I1 := (heap_setCell_other W7 ⟨w.heap.size + 1 + 1 + 1, 0, none⟩ (w.heap.size + 1) (.iface 105 (.pointer (some ⟨k, 0, none⟩))) (by simp)).trans G1
  have I2 := (heap_setCell_other W7 ⟨w.heap.size + 1 + 1 + 1, 0, none⟩ (w.heap.size + 1 + 1) (.iface 105 (.pointer (some ⟨k, 0, none⟩))) (by simp)).trans G2
  have I3 := heap_setCell_same W7 (w.heap.size + 1 + 1 + 1) 0 _ _ (.iface 105 (.pointer (some ⟨k, 0, none⟩))) G3
  obtain ⟨W8, h8⟩ : ∃ W8, W8 = W7.setCell ⟨w.heap.size + 1 + 1 + 1, 0, none⟩ (.iface 105 (.pointer (some ⟨k, 0, none⟩))) := ⟨_, rfl⟩
  have L8 : Below w.heap.size w (W7.setCell ⟨w.heap.size + 1 + 1 + 1, 0, none⟩ (.iface 105 (.pointer (some ⟨k, 0, none⟩)))) := L7.setCell (show w.heap.size ≤ w.heap.size + 1 + 1 + 1 by omega) _
  rw [← h8] at L8 K8 I1 I2 I3 ⊢
  obtain ⟨⟨z0, z1, z2, z3, z4, z5⟩, -⟩ := six_free I1
  have y2 := (cells_of I2 0).trans rfl
  have y3 := (cells_of I3 0).trans rfl
  clear h6 h7 h8 hB6 F1 F2 F3 G1 G2 G3 I1 I2 I3 K6 K7
  have K9 := hid K8
  have L9 := hid L8
  clear K8 L8 L7 L6
  simp [Leaves, settle, results, Tryz.results50, go_sem, z0, z1, z2, z3, z4, z5, y2, y3]
  exact ⟨K9.out, L9.out⟩
end Go.Proofs.YtiaddfedaikaiaaGreatDoor

namespace Go.Proofs.YtiaddfedaikaiaaGreatDoor
open Go.RowKit

set_option maxRecDepth 100000 in
set_option maxHeartbeats 8000000 in
theorem made_ok (n m : Int) (bt bf be : Nat) (g : Tm) (w : World)
    (HC : ∀ W bx, Below w.heap.size w W → w.heap.size ≤ bx → Box1 W bx n → Calls Tryz.prog 67 #[.func (.func 104) #[] #[.pointer (some ⟨bx, 0, none⟩)], .pointer (some ⟨bt, 0, none⟩), .pointer (some ⟨bf, 0, none⟩), .pointer (some ⟨be, 0, none⟩)] W fun x w' => ∃ q c', x = .returned (.agg #[.int .i64 g.kind, .string g.name, .string g.num, .int .u64 g.bits, .int .i64 g.var, .slice q g.args.length c']) ∧ TmAt w' g q ∧ Box1 w' bx m ∧ But1 bx W w')
    (hg : Good g) (hn : nodes g ≤ 4000) (hX : ∀ W, Below w.heap.size w W → Utf W) :
    Calls Tryz.prog 50 #[.int .i64 n, .func (.func 67) #[] #[.pointer (some ⟨bt, 0, none⟩), .pointer (some ⟨bf, 0, none⟩), .pointer (some ⟨be, 0, none⟩)]] w fun x w' => ∃ q c', x = .returned (.tuple #[.agg #[.int .i64 g.kind, .string g.name, .string g.num, .int .u64 g.bits, .int .i64 g.var, .slice q g.args.length c'], .int .i64 m, .nilIface]) ∧ TmAt w' g q ∧ Below w.heap.size w w' := by
  have hmf : ∀ (fn : Fn) (first cap : Array Value) (w : World), (Instr.makeFunc fn first cap).run Tryz.prog w = .ok (.func fn first cap) w := fun _ _ _ _ => rfl
  obtain ⟨W0, hW0⟩ : ∃ W0, W0 = (((w.alloc (.cells #[.int .i64 n] 3)).alloc (.cells #[.int .i64 0, .string ⟨#[]⟩, .string ⟨#[]⟩, .int .u64 0, .int .i64 0, .slice none 0 0] 25)).alloc (.cells #[.int .i64 0] 3)).alloc (.cells #[.nilIface] 29) := ⟨_, rfl⟩
  have B0 := hid (show Below w.heap.size w W0 by rw [hW0]; exact ((((Below.refl w.heap.size w).alloc (Nat.le_refl _) _).alloc (by simp) _).alloc (by simp <;> omega) _).alloc (by simp <;> omega) _)
  have e0 := hid (show W0.heap[w.heap.size]? = some (.cells #[.int .i64 n] 3 (0, 0)) by rw [hW0]; exact (heap_alloc_old (((w.alloc _).alloc _).alloc _) _ (by simp <;> omega)).trans ((heap_alloc_old ((w.alloc _).alloc _) _ (by simp <;> omega)).trans ((heap_alloc_old (w.alloc _) _ (by simp)).trans (heap_alloc_new w _))))
  have e1 := hid (show W0.heap[w.heap.size + 1]? = some (.cells #[.int .i64 0, .string ⟨#[]⟩, .string ⟨#[]⟩, .int .u64 0, .int .i64 0, .slice none 0 0] 25 (0, 0)) by rw [hW0]; exact (heap_alloc_old (((w.alloc _).alloc _).alloc _) _ (by simp <;> omega)).trans ((heap_alloc_old ((w.alloc _).alloc _) _ (by simp)).trans (by have h := heap_alloc_new (w.alloc (.cells #[.int .i64 n] 3)) (.cells #[.int .i64 0, .string ⟨#[]⟩, .string ⟨#[]⟩, .int .u64 0, .int .i64 0, .slice none 0 0] 25); rwa [World.size_alloc] at h)))
  have e2 := hid (show W0.heap[w.heap.size + 1 + 1]? = some (.cells #[.int .i64 0] 3 (0, 0)) by rw [hW0]; exact (heap_alloc_old (((w.alloc _).alloc _).alloc _) _ (by simp)).trans (by have h := heap_alloc_new ((w.alloc (.cells #[.int .i64 n] 3)).alloc (.cells #[.int .i64 0, .string ⟨#[]⟩, .string ⟨#[]⟩, .int .u64 0, .int .i64 0, .slice none 0 0] 25)) (.cells #[.int .i64 0] 3); rwa [World.size_alloc, World.size_alloc] at h))
  have e3 := hid (show W0.heap[w.heap.size + 1 + 1 + 1]? = some (.cells #[.nilIface] 29 (0, 0)) by rw [hW0]; have h := heap_alloc_new (((w.alloc (.cells #[.int .i64 n] 3)).alloc (.cells #[.int .i64 0, .string ⟨#[]⟩, .string ⟨#[]⟩, .int .u64 0, .int .i64 0, .slice none 0 0] 25)).alloc (.cells #[.int .i64 0] 3)) (.cells #[.nilIface] 29); rw [World.size_alloc, World.size_alloc, World.size_alloc] at h; exact h)
  have CB := hid (HC W0 w.heap.size B0.out (Nat.le_refl _) e0.out)
  have CN := hid (show ∀ W q c', Below w.heap.size w W → TmAt W g q → Calls Tryz.prog 103 #[.agg #[.int .i64 g.kind, .string g.name, .string g.num, .int .u64 g.bits, .int .i64 g.var, .slice q g.args.length c']] W fun x w' => ∃ q2 c2, x = .returned (.agg #[.int .i64 g.kind, .string g.name, .string g.num, .int .u64 g.bits, .int .i64 g.var, .slice q2 g.args.length c2]) ∧ TmAt w' g q2 ∧ Below W.heap.size W w' from fun W q c' h h2 => (renewed_ok g q c' W h2 hg (hX W h) hn).mono fun e w' ⟨q2, c2, S, a, mm, _, d⟩ => ⟨q2, c2, a, mm.at_, d⟩)
  have GR := hid hg
  clear hg hn hX
  clear HC
  go_enter_defers Tryz.func50, Tryz.ntmps50
  go_upto_region 1 with fail
  rw [← hW0]
  clear hW0
  go_upto_region 3 with (first
    | (go_at_call 67; (with_reducible refine CB.out.mono ?_); rintro x w4 ⟨q4, c4, rfl, hm4, hx4, hb4⟩; have M4 := hid hm4; have X4 := hid hx4; have D4 := hid hb4; have B4 := hid (hb4.below (Nat.le_refl _) w rfl B0.out); have E1 := hid (hb4.obj e1.out (by omega)); have E2 := hid (hb4.obj e2.out (by omega)); have E3 := hid (hb4.obj e3.out (by omega)); clear hb4 hm4 hx4)
    | (go_at_call 103; (with_reducible refine (CN.out _ _ _ B4.out M4.out).mono ?_); rintro x w5 ⟨q5, c5, rfl, hm5, hb5⟩; have M5 := hid hm5; have B5 := hid (B4.out.trans (hb5.mono B4.out.size)); have X5 := hid (X4.out.keep hb5); have F1 := hid (obj_keep E1.out hb5); have F2 := hid (obj_keep E2.out hb5); have F3 := hid (obj_keep E3.out hb5); clear hb5 hm5; obtain ⟨⟨z0, z1, z2, z3, z4, z5⟩, ⟨f0, f1, f2, f3, f4, f5⟩⟩ := six_free F1.out)
    | fail)
  clear z0 z1 z2 z3 z4 z5 f0 f1 f2 f3 f4 f5
  have hgr := set6_grown w5 (w.heap.size + 1) (.int .i64 g.kind) (.string g.name) (.string g.num) (.int .u64 g.bits) (.int .i64 g.var) (.slice q5 g.args.length c5)
  have h6 := set6 F1.out (.int .i64 g.kind) (.string g.name) (.string g.num) (.int .u64 g.bits) (.int .i64 g.var) (.slice q5 g.args.length c5)
  have hm6 := TmAt.past (b := w.heap.size + 1) (t := g) (p := q5) (show Blank w5 (w.heap.size + 1) from F1.out) (Past.grown hgr) GR.out M5.out
  have L6 := set6_below B5.out (show w.heap.size ≤ w.heap.size + 1 by omega) (.int .i64 g.kind) (.string g.name) (.string g.num) (.int .u64 g.bits) (.int .i64 g.var) (.slice q5 g.args.length c5)
  obtain ⟨W6, hW6⟩ : ∃ W6, W6 = ((((((w5.setCell ⟨w.heap.size + 1, 0, none⟩ (.int .i64 g.kind)).setCell ⟨w.heap.size + 1, 1, none⟩ (.string g.name)).setCell ⟨w.heap.size + 1, 2, none⟩ (.string g.num)).setCell ⟨w.heap.size + 1, 3, none⟩ (.int .u64 g.bits)).setCell ⟨w.heap.size + 1, 4, none⟩ (.int .i64 g.var)).setCell ⟨w.heap.size + 1, 5, none⟩ (.slice q5 g.args.length c5)) := ⟨_, rfl⟩
  rw [← hW6] at hgr h6 hm6 L6 ⊢
  have x6 := (hgr.block w.heap.size (lt_of_block X5.out) (fun e => by have := Option.some.inj e; omega)).trans X5.out
  have y6 := (hgr.block (w.heap.size + 1 + 1) (lt_of_block F2.out) (fun e => by have := Option.some.inj e; omega)).trans F2.out
  have w6 := (hgr.block (w.heap.size + 1 + 1 + 1) (lt_of_block F3.out) (fun e => by have := Option.some.inj e; omega)).trans F3.out
  have hg2 := set6_grown W6 (w.heap.size + 1) (.int .i64 g.kind) (.string g.name) (.string g.num) (.int .u64 g.bits) (.int .i64 g.var) (.slice q5 g.args.length c5)
  have x7 := (hg2.block w.heap.size (lt_of_block x6) (fun e => by have := Option.some.inj e; omega)).trans x6
  have y7 := (hg2.block (w.heap.size + 1 + 1) (lt_of_block y6) (fun e => by have := Option.some.inj e; omega)).trans y6
  have w7 := (hg2.block (w.heap.size + 1 + 1 + 1) (lt_of_block w6) (fun e => by have := Option.some.inj e; omega)).trans w6
  have w8 := (heap_setCell_other _ ⟨w.heap.size + 1 + 1, 0, none⟩ (w.heap.size + 1 + 1 + 1) (.int .i64 m) (by simp)).trans w7
  obtain ⟨⟨z0, z1, z2, z3, z4, z5⟩, ⟨f0, f1, f2, f3, f4, f5⟩⟩ := six_free h6
  obtain ⟨x0, x1⟩ := one_free x6
  obtain ⟨x2, x3⟩ := one_free x7
  obtain ⟨y0, y1⟩ := one_free y7
  obtain ⟨v0, v1⟩ := one_free w8
  have HH := hid h6
  have HM := hid hm6
  have HL := hid L6
  have HY := hid y7
  have HW := hid w8
  clear h6 hm6 L6 hgr hg2 x6 y6 w6 x7 y7 w7 w8 hW6
  go_region
  go_wp2_with fail
  have hg7 := set6_grown W6 (w.heap.size + 1) (.int .i64 g.kind) (.string g.name) (.string g.num) (.int .u64 g.bits) (.int .i64 g.var) (.slice q5 g.args.length c5)
  have hS : Below W6.heap.size W6 ((((((W6.setCell ⟨w.heap.size + 1, 0, none⟩ (.int .i64 g.kind)).setCell ⟨w.heap.size + 1, 1, none⟩ (.string g.name)).setCell ⟨w.heap.size + 1, 2, none⟩ (.string g.num)).setCell ⟨w.heap.size + 1, 3, none⟩ (.int .u64 g.bits)).setCell ⟨w.heap.size + 1, 4, none⟩ (.int .i64 g.var)).setCell ⟨w.heap.size + 1, 5, none⟩ (.slice q5 g.args.length c5)) := ⟨hg7.os, hg7.tape, hg7.output, hg7.size, fun k hk => by
    by_cases e : k = w.heap.size + 1
    · rw [e, set6 HH.out (.int .i64 g.kind) (.string g.name) (.string g.num) (.int .u64 g.bits) (.int .i64 g.var) (.slice q5 g.args.length c5)]
      exact HH.out.symm
    · exact hg7.block k hk (fun h => e (Option.some.inj h))⟩
  have L7 := HL.out.trans (hS.mono HL.out.size)
  have H7 := obj_keep HH.out hS
  have M7 := HM.out.keep hS
  have Y7 := HY.out
  obtain ⟨W7, h7⟩ : ∃ W7, W7 = ((((((W6.setCell ⟨w.heap.size + 1, 0, none⟩ (.int .i64 g.kind)).setCell ⟨w.heap.size + 1, 1, none⟩ (.string g.name)).setCell ⟨w.heap.size + 1, 2, none⟩ (.string g.num)).setCell ⟨w.heap.size + 1, 3, none⟩ (.int .u64 g.bits)).setCell ⟨w.heap.size + 1, 4, none⟩ (.int .i64 g.var)).setCell ⟨w.heap.size + 1, 5, none⟩ (.slice q5 g.args.length c5)) := ⟨_, rfl⟩
  have W78 := HW.out
  rw [← h7] at L7 H7 M7 Y7 W78 ⊢
  have L8 : Below w.heap.size w (W7.setCell ⟨w.heap.size + 1 + 1, 0, none⟩ (.int .i64 m)) := L7.setCell (show w.heap.size ≤ w.heap.size + 1 + 1 by omega) _
  have H8 := (heap_setCell_other W7 ⟨w.heap.size + 1 + 1, 0, none⟩ (w.heap.size + 1) (.int .i64 m) (by simp)).trans H7
  have Y8 := heap_setCell_same W7 (w.heap.size + 1 + 1) 0 _ _ (.int .i64 m) Y7
  have M8 := TmAt.one (W' := W7.setCell ⟨w.heap.size + 1 + 1, 0, none⟩ (.int .i64 m)) Y7 (fun x _ hne => heap_setCell_other W7 ⟨w.heap.size + 1 + 1, 0, none⟩ x _ hne) M7
  obtain ⟨W8, h8⟩ : ∃ W8, W8 = W7.setCell ⟨w.heap.size + 1 + 1, 0, none⟩ (.int .i64 m) := ⟨_, rfl⟩
  rw [← h8] at L8 H8 Y8 M8 W78 ⊢
  have L9 : Below w.heap.size w (W8.setCell ⟨w.heap.size + 1 + 1 + 1, 0, none⟩ .nilIface) := L8.setCell (show w.heap.size ≤ w.heap.size + 1 + 1 + 1 by omega) _
  have H9 := (heap_setCell_other W8 ⟨w.heap.size + 1 + 1 + 1, 0, none⟩ (w.heap.size + 1) .nilIface (by simp)).trans H8
  have Y9 := (heap_setCell_other W8 ⟨w.heap.size + 1 + 1 + 1, 0, none⟩ (w.heap.size + 1 + 1) .nilIface (by simp)).trans Y8
  have V9 := heap_setCell_same W8 (w.heap.size + 1 + 1 + 1) 0 _ _ .nilIface W78
  have M9 := TmAt.one (W' := W8.setCell ⟨w.heap.size + 1 + 1 + 1, 0, none⟩ .nilIface) W78 (fun x _ hne => heap_setCell_other W8 ⟨w.heap.size + 1 + 1 + 1, 0, none⟩ x _ hne) M8
  obtain ⟨W9, h9⟩ : ∃ W9, W9 = W8.setCell ⟨w.heap.size + 1 + 1 + 1, 0, none⟩ .nilIface := ⟨_, rfl⟩
  rw [← h9] at L9 H9 Y9 V9 M9 ⊢
  refine leaves_cons (f := 102) (args := #[.pointer (some ⟨w.heap.size + 1, 0, none⟩), .pointer (some ⟨w.heap.size + 1 + 1, 0, none⟩), .pointer (some ⟨w.heap.size + 1 + 1 + 1, 0, none⟩)]) (by simp) (by simp [go_sem]) ?_
  refine (made_idle _ _ _ _).mono ?_
  rintro x u' w10 ⟨rfl, rfl, rfl⟩
  obtain ⟨⟨s0, s1, s2, s3, s4, s5⟩, -⟩ := six_free H9
  have t0 := (cells_of Y9 0).trans rfl
  have t1 := (cells_of V9 0).trans rfl
  clear z0 z1 z2 z3 z4 z5 f0 f1 f2 f3 f4 f5 x0 x1 x2 x3 y0 y1 v0 v1 h7 h8 h9 hS hg7 L7 L8 H7 H8 H9 Y7 Y8 Y9 V9 W78 M7 M8
  have K9 := hid M9
  have KL := hid L9
  clear M9 L9
  simp [Leaves, settle, results, Tryz.results50, go_sem, s0, s1, s2, s3, s4, s5, t0, t1]
  exact ⟨K9.out.keep (Below.refl _ _).drew, KL.out.drew⟩
end Go.Proofs.YtiaddfedaikaiaaGreatDoor

namespace Go.Proofs.YtiaddfedaikaiaaGreatDoor
open Go.RowKit

set_option maxRecDepth 100000 in
set_option maxHeartbeats 8000000 in
theorem made_over (n m : Int) (bt bf be : Nat) (g : Tm) (w : World)
    (HC : ∀ W bx, Below w.heap.size w W → w.heap.size ≤ bx → Box1 W bx n → Calls Tryz.prog 67 #[.func (.func 104) #[] #[.pointer (some ⟨bx, 0, none⟩)], .pointer (some ⟨bt, 0, none⟩), .pointer (some ⟨bf, 0, none⟩), .pointer (some ⟨be, 0, none⟩)] W fun x w' => ∃ q c', x = .returned (.agg #[.int .i64 g.kind, .string g.name, .string g.num, .int .u64 g.bits, .int .i64 g.var, .slice q g.args.length c']) ∧ TmAt w' g q ∧ Box1 w' bx m ∧ But1 bx W w')
    (hg : Good g) (hn : 4000 < nodes g) (hX : ∀ W, Below w.heap.size w W → Utf W) :
    Calls Tryz.prog 50 #[.int .i64 n, .func (.func 67) #[] #[.pointer (some ⟨bt, 0, none⟩), .pointer (some ⟨bf, 0, none⟩), .pointer (some ⟨be, 0, none⟩)]] w fun x w' => ∃ k, x = .returned (.tuple #[.agg #[.int .i64 0, .string ⟨#[]⟩, .string ⟨#[]⟩, .int .u64 0, .int .i64 0, .slice none 0 0], .int .i64 0, .iface 105 (.pointer (some ⟨k, 0, none⟩))]) ∧ BallAt w' k bNodes ∧ Below w.heap.size w w' := by
  have hmf : ∀ (fn : Fn) (first cap : Array Value) (w : World), (Instr.makeFunc fn first cap).run Tryz.prog w = .ok (.func fn first cap) w := fun _ _ _ _ => rfl
  obtain ⟨W0, hW0⟩ : ∃ W0, W0 = (((w.alloc (.cells #[.int .i64 n] 3)).alloc (.cells #[.int .i64 0, .string ⟨#[]⟩, .string ⟨#[]⟩, .int .u64 0, .int .i64 0, .slice none 0 0] 25)).alloc (.cells #[.int .i64 0] 3)).alloc (.cells #[.nilIface] 29) := ⟨_, rfl⟩
  have B0 := hid (show Below w.heap.size w W0 by rw [hW0]; exact ((((Below.refl w.heap.size w).alloc (Nat.le_refl _) _).alloc (by simp) _).alloc (by simp <;> omega) _).alloc (by simp <;> omega) _)
  have e0 := hid (show W0.heap[w.heap.size]? = some (.cells #[.int .i64 n] 3 (0, 0)) by rw [hW0]; exact (heap_alloc_old (((w.alloc _).alloc _).alloc _) _ (by simp <;> omega)).trans ((heap_alloc_old ((w.alloc _).alloc _) _ (by simp <;> omega)).trans ((heap_alloc_old (w.alloc _) _ (by simp)).trans (heap_alloc_new w _))))
  have e1 := hid (show W0.heap[w.heap.size + 1]? = some (.cells #[.int .i64 0, .string ⟨#[]⟩, .string ⟨#[]⟩, .int .u64 0, .int .i64 0, .slice none 0 0] 25 (0, 0)) by rw [hW0]; exact (heap_alloc_old (((w.alloc _).alloc _).alloc _) _ (by simp <;> omega)).trans ((heap_alloc_old ((w.alloc _).alloc _) _ (by simp)).trans (by have h := heap_alloc_new (w.alloc (.cells #[.int .i64 n] 3)) (.cells #[.int .i64 0, .string ⟨#[]⟩, .string ⟨#[]⟩, .int .u64 0, .int .i64 0, .slice none 0 0] 25); rwa [World.size_alloc] at h)))
  have e2 := hid (show W0.heap[w.heap.size + 1 + 1]? = some (.cells #[.int .i64 0] 3 (0, 0)) by rw [hW0]; exact (heap_alloc_old (((w.alloc _).alloc _).alloc _) _ (by simp)).trans (by have h := heap_alloc_new ((w.alloc (.cells #[.int .i64 n] 3)).alloc (.cells #[.int .i64 0, .string ⟨#[]⟩, .string ⟨#[]⟩, .int .u64 0, .int .i64 0, .slice none 0 0] 25)) (.cells #[.int .i64 0] 3); rwa [World.size_alloc, World.size_alloc] at h))
  have e3 := hid (show W0.heap[w.heap.size + 1 + 1 + 1]? = some (.cells #[.nilIface] 29 (0, 0)) by rw [hW0]; have h := heap_alloc_new (((w.alloc (.cells #[.int .i64 n] 3)).alloc (.cells #[.int .i64 0, .string ⟨#[]⟩, .string ⟨#[]⟩, .int .u64 0, .int .i64 0, .slice none 0 0] 25)).alloc (.cells #[.int .i64 0] 3)) (.cells #[.nilIface] 29); rw [World.size_alloc, World.size_alloc, World.size_alloc] at h; exact h)
  have CB := hid (HC W0 w.heap.size B0.out (Nat.le_refl _) e0.out)
  have CN := hid (show ∀ W q c', Below w.heap.size w W → TmAt W g q → Calls Tryz.prog 103 #[.agg #[.int .i64 g.kind, .string g.name, .string g.num, .int .u64 g.bits, .int .i64 g.var, .slice q g.args.length c']] W fun x w' => ∃ k, x = .panicked [{ v := .iface 105 (.pointer (some ⟨k, 0, none⟩)), recovered := false }] ∧ BallAt w' k bNodes ∧ Below W.heap.size W w' from fun W q c' h h2 => renewed_over g q c' W h2 hg (hX W h) hn)
  clear HC hg hn hX
  go_enter_defers Tryz.func50, Tryz.ntmps50
  go_upto_region 1 with fail
  rw [← hW0]
  clear hW0
  go_wp2_with (first
    | (go_at_call 67; (with_reducible refine CB.out.mono ?_); rintro x w3 ⟨q4, c4, rfl, hm4, hx4, hb4⟩; have M4 := hid hm4; have B4 := hid (hb4.below (Nat.le_refl _) w rfl B0.out); have F1 := hid (hb4.obj e1.out (by omega)); have F2 := hid (hb4.obj e2.out (by omega)); have F3 := hid (hb4.obj e3.out (by omega)); clear hb4 hm4 hx4)
    | (go_at_call 103; (with_reducible refine (CN.out _ _ _ B4.out M4.out).mono ?_); rintro x w4 ⟨k, rfl, hk, hb5⟩; have K4 := hid hk; have B5 := hid (B4.out.trans (hb5.mono B4.out.size)); have E1 := hid (obj_keep F1.out hb5); have E2 := hid (obj_keep F2.out hb5); have E3 := hid (obj_keep F3.out hb5); clear hb5 hk F1 F2 F3)
    | fail)
  refine leaves_cons (f := 102) (args := #[.pointer (some ⟨w.heap.size + 1, 0, none⟩), .pointer (some ⟨w.heap.size + 1 + 1, 0, none⟩), .pointer (some ⟨w.heap.size + 1 + 1 + 1, 0, none⟩)]) (by simp) (by simp [go_sem]) ?_
  refine (made_caught _ _ _ k _ _ _ _ _ _ _ _ _ _ [] w4 E1.out E2.out E3.out (by omega) (by omega)).mono ?_
  rintro x u' w5 ⟨rfl, rfl, rfl⟩
  have hB6 := set_blank (show Blank w4 (w.heap.size + 1) from E1.out)
  obtain ⟨W6, h6⟩ : ∃ W6, W6 = ((((((w4.setCell ⟨w.heap.size + 1, 0, none⟩ (.int .i64 0)).setCell ⟨w.heap.size + 1, 1, none⟩ (.string ⟨#[]⟩)).setCell ⟨w.heap.size + 1, 2, none⟩ (.string ⟨#[]⟩)).setCell ⟨w.heap.size + 1, 3, none⟩ (.int .u64 0)).setCell ⟨w.heap.size + 1, 4, none⟩ (.int .i64 0)).setCell ⟨w.heap.size + 1, 5, none⟩ (.slice none 0 0)) := ⟨_, rfl⟩
  rw [← h6] at hB6 ⊢
  have L6 := B5.out.trans (hB6.mono B5.out.size)
  have F1 := obj_keep E1.out hB6
  have F2 := obj_keep E2.out hB6
  have F3 := obj_keep E3.out hB6
  have K6 := K4.out.keep hB6
  have K7 := K6.one (d := .int .i64 0) F2
  have G1 := (heap_setCell_other W6 ⟨w.heap.size + 1 + 1, 0, none⟩ (w.heap.size + 1) (.int .i64 0) (by simp)).trans F1
  have G2 := heap_setCell_same W6 (w.heap.size + 1 + 1) 0 _ _ (.int .i64 0) F2
  have G3 := (heap_setCell_other W6 ⟨w.heap.size + 1 + 1, 0, none⟩ (w.heap.size + 1 + 1 + 1) (.int .i64 0) (by simp)).trans F3
  obtain ⟨W7, h7⟩ : ∃ W7, W7 = W6.setCell ⟨w.heap.size + 1 + 1, 0, none⟩ (.int .i64 0) := ⟨_, rfl⟩
  have L7 : Below w.heap.size w (W6.setCell ⟨w.heap.size + 1 + 1, 0, none⟩ (.int .i64 0)) := L6.setCell (show w.heap.size ≤ w.heap.size + 1 + 1 by omega) _
  rw [← h7] at L7 K7 G1 G2 G3 ⊢
  have K8 := K7.one (d := .iface 105 (.pointer (some ⟨k, 0, none⟩))) G3
  have I1 := (heap_setCell_other W7 ⟨w.heap.size + 1 + 1 + 1, 0, none⟩ (w.heap.size + 1) (.iface 105 (.pointer (some ⟨k, 0, none⟩))) (by simp)).trans G1
  have I2 := (heap_setCell_other W7 ⟨w.heap.size + 1 + 1 + 1, 0, none⟩ (w.heap.size + 1 + 1) (.iface 105 (.pointer (some ⟨k, 0, none⟩))) (by simp)).trans G2
  have I3 := heap_setCell_same W7 (w.heap.size + 1 + 1 + 1) 0 _ _ (.iface 105 (.pointer (some ⟨k, 0, none⟩))) G3
  obtain ⟨W8, h8⟩ : ∃ W8, W8 = W7.setCell ⟨w.heap.size + 1 + 1 + 1, 0, none⟩ (.iface 105 (.pointer (some ⟨k, 0, none⟩))) := ⟨_, rfl⟩
  have L8 : Below w.heap.size w (W7.setCell ⟨w.heap.size + 1 + 1 + 1, 0, none⟩ (.iface 105 (.pointer (some ⟨k, 0, none⟩)))) := L7.setCell (show w.heap.size ≤ w.heap.size + 1 + 1 + 1 by omega) _
  rw [← h8] at L8 K8 I1 I2 I3 ⊢
  obtain ⟨⟨z0, z1, z2, z3, z4, z5⟩, -⟩ := six_free I1
  have y2 := (cells_of I2 0).trans rfl
  have y3 := (cells_of I3 0).trans rfl
  clear h6 h7 h8 hB6 F1 F2 F3 G1 G2 G3 I1 I2 I3 K6 K7
  have K9 := hid K8
  have L9 := hid L8
  clear K8 L8 L7 L6
  simp [Leaves, settle, results, Tryz.results50, go_sem, z0, z1, z2, z3, z4, z5, y2, y3]
  exact ⟨K9.out, L9.out⟩
end Go.Proofs.YtiaddfedaikaiaaGreatDoor

namespace Go.Proofs.YtiaddfedaikaiaaGreatDoor
open Go.RowKit

set_option maxRecDepth 100000 in
set_option maxHeartbeats 8000000 in
theorem made_ballR (n : Int) (bt : Nat) (bb : Tm) (w : World)
    (HC : ∀ W bx, Below w.heap.size w W → w.heap.size ≤ bx → Box1 W bx n → Calls Tryz.prog 51 #[.func (.func 104) #[] #[.pointer (some ⟨bx, 0, none⟩)], .pointer (some ⟨bt, 0, none⟩)] W fun x w' => ∃ k, x = .panicked [{ v := .iface 105 (.pointer (some ⟨k, 0, none⟩)), recovered := false }] ∧ BallAt w' k bb ∧ But1 bx W w') :
    Calls Tryz.prog 50 #[.int .i64 n, .func (.func 51) #[] #[.pointer (some ⟨bt, 0, none⟩)]] w fun x w' => ∃ k, x = .returned (.tuple #[.agg #[.int .i64 0, .string ⟨#[]⟩, .string ⟨#[]⟩, .int .u64 0, .int .i64 0, .slice none 0 0], .int .i64 0, .iface 105 (.pointer (some ⟨k, 0, none⟩))]) ∧ BallAt w' k bb ∧ Below w.heap.size w w' := by
  have hmf : ∀ (fn : Fn) (first cap : Array Value) (w : World), (Instr.makeFunc fn first cap).run Tryz.prog w = .ok (.func fn first cap) w := fun _ _ _ _ => rfl
  obtain ⟨W0, hW0⟩ : ∃ W0, W0 = (((w.alloc (.cells #[.int .i64 n] 3)).alloc (.cells #[.int .i64 0, .string ⟨#[]⟩, .string ⟨#[]⟩, .int .u64 0, .int .i64 0, .slice none 0 0] 25)).alloc (.cells #[.int .i64 0] 3)).alloc (.cells #[.nilIface] 29) := ⟨_, rfl⟩
  have B0 := hid (show Below w.heap.size w W0 by rw [hW0]; exact ((((Below.refl w.heap.size w).alloc (Nat.le_refl _) _).alloc (by simp) _).alloc (by simp <;> omega) _).alloc (by simp <;> omega) _)
  have e0 := hid (show W0.heap[w.heap.size]? = some (.cells #[.int .i64 n] 3 (0, 0)) by rw [hW0]; exact (heap_alloc_old (((w.alloc _).alloc _).alloc _) _ (by simp <;> omega)).trans ((heap_alloc_old ((w.alloc _).alloc _) _ (by simp <;> omega)).trans ((heap_alloc_old (w.alloc _) _ (by simp)).trans (heap_alloc_new w _))))
  have e1 := hid (show W0.heap[w.heap.size + 1]? = some (.cells #[.int .i64 0, .string ⟨#[]⟩, .string ⟨#[]⟩, .int .u64 0, .int .i64 0, .slice none 0 0] 25 (0, 0)) by rw [hW0]; exact (heap_alloc_old (((w.alloc _).alloc _).alloc _) _ (by simp <;> omega)).trans ((heap_alloc_old ((w.alloc _).alloc _) _ (by simp)).trans (by have h := heap_alloc_new (w.alloc (.cells #[.int .i64 n] 3)) (.cells #[.int .i64 0, .string ⟨#[]⟩, .string ⟨#[]⟩, .int .u64 0, .int .i64 0, .slice none 0 0] 25); rwa [World.size_alloc] at h)))
  have e2 := hid (show W0.heap[w.heap.size + 1 + 1]? = some (.cells #[.int .i64 0] 3 (0, 0)) by rw [hW0]; exact (heap_alloc_old (((w.alloc _).alloc _).alloc _) _ (by simp)).trans (by have h := heap_alloc_new ((w.alloc (.cells #[.int .i64 n] 3)).alloc (.cells #[.int .i64 0, .string ⟨#[]⟩, .string ⟨#[]⟩, .int .u64 0, .int .i64 0, .slice none 0 0] 25)) (.cells #[.int .i64 0] 3); rwa [World.size_alloc, World.size_alloc] at h))
  have e3 := hid (show W0.heap[w.heap.size + 1 + 1 + 1]? = some (.cells #[.nilIface] 29 (0, 0)) by rw [hW0]; have h := heap_alloc_new (((w.alloc (.cells #[.int .i64 n] 3)).alloc (.cells #[.int .i64 0, .string ⟨#[]⟩, .string ⟨#[]⟩, .int .u64 0, .int .i64 0, .slice none 0 0] 25)).alloc (.cells #[.int .i64 0] 3)) (.cells #[.nilIface] 29); rw [World.size_alloc, World.size_alloc, World.size_alloc] at h; exact h)
  have CB := hid (HC W0 w.heap.size B0.out (Nat.le_refl _) e0.out)
  clear HC
  go_enter_defers Tryz.func50, Tryz.ntmps50
  go_upto_region 1 with fail
  rw [← hW0]
  clear hW0
  go_wp2_with (first
    | (go_at_call 51; (with_reducible refine CB.out.mono ?_); rintro x w4 ⟨k, rfl, hk, hb4⟩; have K4 := hid hk; have D4 := hid hb4; have E1 := hid (hb4.obj e1.out (by omega)); have E2 := hid (hb4.obj e2.out (by omega)); have E3 := hid (hb4.obj e3.out (by omega)); clear hb4 hk)
    | fail)
  refine leaves_cons (f := 102) (args := #[.pointer (some ⟨w.heap.size + 1, 0, none⟩), .pointer (some ⟨w.heap.size + 1 + 1, 0, none⟩), .pointer (some ⟨w.heap.size + 1 + 1 + 1, 0, none⟩)]) (by simp) (by simp [go_sem]) ?_
  refine (made_caught _ _ _ k _ _ _ _ _ _ _ _ _ _ [] w4 E1.out E2.out E3.out (by omega) (by omega)).mono ?_
  rintro x u' w5 ⟨rfl, rfl, rfl⟩
  have hB6 := set_blank (show Blank w4 (w.heap.size + 1) from E1.out)
  obtain ⟨W6, h6⟩ : ∃ W6, W6 = ((((((w4.setCell ⟨w.heap.size + 1, 0, none⟩ (.int .i64 0)).setCell ⟨w.heap.size + 1, 1, none⟩ (.string ⟨#[]⟩)).setCell ⟨w.heap.size + 1, 2, none⟩ (.string ⟨#[]⟩)).setCell ⟨w.heap.size + 1, 3, none⟩ (.int .u64 0)).setCell ⟨w.heap.size + 1, 4, none⟩ (.int .i64 0)).setCell ⟨w.heap.size + 1, 5, none⟩ (.slice none 0 0)) := ⟨_, rfl⟩
  rw [← h6] at hB6 ⊢
  have L6 := (D4.out.below (Nat.le_refl _) w rfl B0.out).trans (hB6.mono (D4.out.below (Nat.le_refl _) w rfl B0.out).size)
  have F1 := obj_keep E1.out hB6
  have F2 := obj_keep E2.out hB6
  have F3 := obj_keep E3.out hB6
  have K6 := K4.out.keep hB6
  have K7 := K6.one (d := .int .i64 0) F2
  have G1 := (heap_setCell_other W6 ⟨w.heap.size + 1 + 1, 0, none⟩ (w.heap.size + 1) (.int .i64 0) (by simp)).trans F1
  have G2 := heap_setCell_same W6 (w.heap.size + 1 + 1) 0 _ _ (.int .i64 0) F2
  have G3 := (heap_setCell_other W6 ⟨w.heap.size + 1 + 1, 0, none⟩ (w.heap.size + 1 + 1 + 1) (.int .i64 0) (by simp)).trans F3
  obtain ⟨W7, h7⟩ : ∃ W7, W7 = W6.setCell ⟨w.heap.size + 1 + 1, 0, none⟩ (.int .i64 0) := ⟨_, rfl⟩
  have L7 : Below w.heap.size w (W6.setCell ⟨w.heap.size + 1 + 1, 0, none⟩ (.int .i64 0)) := L6.setCell (show w.heap.size ≤ w.heap.size + 1 + 1 by omega) _
  rw [← h7] at L7 K7 G1 G2 G3 ⊢
  have K8 := K7.one (d := .iface 105 (.pointer (some ⟨k, 0, none⟩))) G3
  have I1 := (heap_setCell_other W7 ⟨w.heap.size + 1 + 1 + 1, 0, none⟩ (w.heap.size + 1) (.iface 105 (.pointer (some ⟨k, 0, none⟩))) (by simp)).trans G1
  have I2 := (heap_setCell_other W7 ⟨w.heap.size + 1 + 1 + 1, 0, none⟩ (w.heap.size + 1 + 1) (.iface 105 (.pointer (some ⟨k, 0, none⟩))) (by simp)).trans G2
  have I3 := heap_setCell_same W7 (w.heap.size + 1 + 1 + 1) 0 _ _ (.iface 105 (.pointer (some ⟨k, 0, none⟩))) G3
  obtain ⟨W8, h8⟩ : ∃ W8, W8 = W7.setCell ⟨w.heap.size + 1 + 1 + 1, 0, none⟩ (.iface 105 (.pointer (some ⟨k, 0, none⟩))) := ⟨_, rfl⟩
  have L8 : Below w.heap.size w (W7.setCell ⟨w.heap.size + 1 + 1 + 1, 0, none⟩ (.iface 105 (.pointer (some ⟨k, 0, none⟩)))) := L7.setCell (show w.heap.size ≤ w.heap.size + 1 + 1 + 1 by omega) _
  rw [← h8] at L8 K8 I1 I2 I3 ⊢
  obtain ⟨⟨z0, z1, z2, z3, z4, z5⟩, -⟩ := six_free I1
  have y2 := (cells_of I2 0).trans rfl
  have y3 := (cells_of I3 0).trans rfl
  clear h6 h7 h8 hB6 F1 F2 F3 G1 G2 G3 I1 I2 I3 K6 K7
  have K9 := hid K8
  have L9 := hid L8
  clear K8 L8 L7 L6
  simp [Leaves, settle, results, Tryz.results50, go_sem, z0, z1, z2, z3, z4, z5, y2, y3]
  exact ⟨K9.out, L9.out⟩
set_option maxRecDepth 100000 in
set_option maxHeartbeats 8000000 in
theorem made_okR (n m : Int) (bt : Nat) (g : Tm) (w : World)
    (HC : ∀ W bx, Below w.heap.size w W → w.heap.size ≤ bx → Box1 W bx n → Calls Tryz.prog 51 #[.func (.func 104) #[] #[.pointer (some ⟨bx, 0, none⟩)], .pointer (some ⟨bt, 0, none⟩)] W fun x w' => ∃ q c', x = .returned (.agg #[.int .i64 g.kind, .string g.name, .string g.num, .int .u64 g.bits, .int .i64 g.var, .slice q g.args.length c']) ∧ TmAt w' g q ∧ Box1 w' bx m ∧ But1 bx W w')
    (hg : Good g) (hn : nodes g ≤ 4000) (hX : ∀ W, Below w.heap.size w W → Utf W) :
    Calls Tryz.prog 50 #[.int .i64 n, .func (.func 51) #[] #[.pointer (some ⟨bt, 0, none⟩)]] w fun x w' => ∃ q c', x = .returned (.tuple #[.agg #[.int .i64 g.kind, .string g.name, .string g.num, .int .u64 g.bits, .int .i64 g.var, .slice q g.args.length c'], .int .i64 m, .nilIface]) ∧ TmAt w' g q ∧ Below w.heap.size w w' := by
  have hmf : ∀ (fn : Fn) (first cap : Array Value) (w : World), (Instr.makeFunc fn first cap).run Tryz.prog w = .ok (.func fn first cap) w := fun _ _ _ _ => rfl
  obtain ⟨W0, hW0⟩ : ∃ W0, W0 = (((w.alloc (.cells #[.int .i64 n] 3)).alloc (.cells #[.int .i64 0, .string ⟨#[]⟩, .string ⟨#[]⟩, .int .u64 0, .int .i64 0, .slice none 0 0] 25)).alloc (.cells #[.int .i64 0] 3)).alloc (.cells #[.nilIface] 29) := ⟨_, rfl⟩
  have B0 := hid (show Below w.heap.size w W0 by rw [hW0]; exact ((((Below.refl w.heap.size w).alloc (Nat.le_refl _) _).alloc (by simp) _).alloc (by simp <;> omega) _).alloc (by simp <;> omega) _)
  have e0 := hid (show W0.heap[w.heap.size]? = some (.cells #[.int .i64 n] 3 (0, 0)) by rw [hW0]; exact (heap_alloc_old (((w.alloc _).alloc _).alloc _) _ (by simp <;> omega)).trans ((heap_alloc_old ((w.alloc _).alloc _) _ (by simp <;> omega)).trans ((heap_alloc_old (w.alloc _) _ (by simp)).trans (heap_alloc_new w _))))
  have e1 := hid (show W0.heap[w.heap.size + 1]? = some (.cells #[.int .i64 0, .string ⟨#[]⟩, .string ⟨#[]⟩, .int .u64 0, .int .i64 0, .slice none 0 0] 25 (0, 0)) by rw [hW0]; exact (heap_alloc_old (((w.alloc _).alloc _).alloc _) _ (by simp <;> omega)).trans ((heap_alloc_old ((w.alloc _).alloc _) _ (by simp)).trans (by have h := heap_alloc_new (w.alloc (.cells #[.int .i64 n] 3)) (.cells #[.int .i64 0, .string ⟨#[]⟩, .string ⟨#[]⟩, .int .u64 0, .int .i64 0, .slice none 0 0] 25); rwa [World.size_alloc] at h)))
  have e2 := hid (show W0.heap[w.heap.size + 1 + 1]? = some (.cells #[.int .i64 0] 3 (0, 0)) by rw [hW0]; exact (heap_alloc_old (((w.alloc _).alloc _).alloc _) _ (by simp)).trans (by have h := heap_alloc_new ((w.alloc (.cells #[.int .i64 n] 3)).alloc (.cells #[.int .i64 0, .string ⟨#[]⟩, .string ⟨#[]⟩, .int .u64 0, .int .i64 0, .slice none 0 0] 25)) (.cells #[.int .i64 0] 3); rwa [World.size_alloc, World.size_alloc] at h))
  have e3 := hid (show W0.heap[w.heap.size + 1 + 1 + 1]? = some (.cells #[.nilIface] 29 (0, 0)) by rw [hW0]; have h := heap_alloc_new (((w.alloc (.cells #[.int .i64 n] 3)).alloc (.cells #[.int .i64 0, .string ⟨#[]⟩, .string ⟨#[]⟩, .int .u64 0, .int .i64 0, .slice none 0 0] 25)).alloc (.cells #[.int .i64 0] 3)) (.cells #[.nilIface] 29); rw [World.size_alloc, World.size_alloc, World.size_alloc] at h; exact h)
  have CB := hid (HC W0 w.heap.size B0.out (Nat.le_refl _) e0.out)
  have CN := hid (show ∀ W q c', Below w.heap.size w W → TmAt W g q → Calls Tryz.prog 103 #[.agg #[.int .i64 g.kind, .string g.name, .string g.num, .int .u64 g.bits, .int .i64 g.var, .slice q g.args.length c']] W fun x w' => ∃ q2 c2, x = .returned (.agg #[.int .i64 g.kind, .string g.name, .string g.num, .int .u64 g.bits, .int .i64 g.var, .slice q2 g.args.length c2]) ∧ TmAt w' g q2 ∧ Below W.heap.size W w' from fun W q c' h h2 => (renewed_ok g q c' W h2 hg (hX W h) hn).mono fun e w' ⟨q2, c2, S, a, mm, _, d⟩ => ⟨q2, c2, a, mm.at_, d⟩)
  have GR := hid hg
  clear hg hn hX
  clear HC
  go_enter_defers Tryz.func50, Tryz.ntmps50
  go_upto_region 1 with fail
  rw [← hW0]
  clear hW0
  go_upto_region 3 with (first
    | (go_at_call 51; (with_reducible refine CB.out.mono ?_); rintro x w4 ⟨q4, c4, rfl, hm4, hx4, hb4⟩; have M4 := hid hm4; have X4 := hid hx4; have D4 := hid hb4; have B4 := hid (hb4.below (Nat.le_refl _) w rfl B0.out); have E1 := hid (hb4.obj e1.out (by omega)); have E2 := hid (hb4.obj e2.out (by omega)); have E3 := hid (hb4.obj e3.out (by omega)); clear hb4 hm4 hx4)
    | (go_at_call 103; (with_reducible refine (CN.out _ _ _ B4.out M4.out).mono ?_); rintro x w5 ⟨q5, c5, rfl, hm5, hb5⟩; have M5 := hid hm5; have B5 := hid (B4.out.trans (hb5.mono B4.out.size)); have X5 := hid (X4.out.keep hb5); have F1 := hid (obj_keep E1.out hb5); have F2 := hid (obj_keep E2.out hb5); have F3 := hid (obj_keep E3.out hb5); clear hb5 hm5; obtain ⟨⟨z0, z1, z2, z3, z4, z5⟩, ⟨f0, f1, f2, f3, f4, f5⟩⟩ := six_free F1.out)
    | fail)
  clear z0 z1 z2 z3 z4 z5 f0 f1 f2 f3 f4 f5
  have hgr := set6_grown w5 (w.heap.size + 1) (.int .i64 g.kind) (.string g.name) (.string g.num) (.int .u64 g.bits) (.int .i64 g.var) (.slice q5 g.args.length c5)
  have h6 := set6 F1.out (.int .i64 g.kind) (.string g.name) (.string g.num) (.int .u64 g.bits) (.int .i64 g.var) (.slice q5 g.args.length c5)
  have hm6 := TmAt.past (b := w.heap.size + 1) (t := g) (p := q5) (show Blank w5 (w.heap.size + 1) from F1.out) (Past.grown hgr) GR.out M5.out
  have L6 := set6_below B5.out (show w.heap.size ≤ w.heap.size + 1 by omega) (.int .i64 g.kind) (.string g.name) (.string g.num) (.int .u64 g.bits) (.int .i64 g.var) (.slice q5 g.args.length c5)
  obtain ⟨W6, hW6⟩ : ∃ W6, W6 = ((((((w5.setCell ⟨w.heap.size + 1, 0, none⟩ (.int .i64 g.kind)).setCell ⟨w.heap.size + 1, 1, none⟩ (.string g.name)).setCell ⟨w.heap.size + 1, 2, none⟩ (.string g.num)).setCell ⟨w.heap.size + 1, 3, none⟩ (.int .u64 g.bits)).setCell ⟨w.heap.size + 1, 4, none⟩ (.int .i64 g.var)).setCell ⟨w.heap.size + 1, 5, none⟩ (.slice q5 g.args.length c5)) := ⟨_, rfl⟩
  rw [← hW6] at hgr h6 hm6 L6 ⊢
  have x6 := (hgr.block w.heap.size (lt_of_block X5.out) (fun e => by have := Option.some.inj e; omega)).trans X5.out
  have y6 := (hgr.block (w.heap.size + 1 + 1) (lt_of_block F2.out) (fun e => by have := Option.some.inj e; omega)).trans F2.out
  have w6 := (hgr.block (w.heap.size + 1 + 1 + 1) (lt_of_block F3.out) (fun e => by have := Option.some.inj e; omega)).trans F3.out
  have hg2 := set6_grown W6 (w.heap.size + 1) (.int .i64 g.kind) (.string g.name) (.string g.num) (.int .u64 g.bits) (.int .i64 g.var) (.slice q5 g.args.length c5)
  have x7 := (hg2.block w.heap.size (lt_of_block x6) (fun e => by have := Option.some.inj e; omega)).trans x6
  have y7 := (hg2.block (w.heap.size + 1 + 1) (lt_of_block y6) (fun e => by have := Option.some.inj e; omega)).trans y6
  have w7 := (hg2.block (w.heap.size + 1 + 1 + 1) (lt_of_block w6) (fun e => by have := Option.some.inj e; omega)).trans w6
  have w8 := (heap_setCell_other _ ⟨w.heap.size + 1 + 1, 0, none⟩ (w.heap.size + 1 + 1 + 1) (.int .i64 m) (by simp)).trans w7
  obtain ⟨⟨z0, z1, z2, z3, z4, z5⟩, ⟨f0, f1, f2, f3, f4, f5⟩⟩ := six_free h6
  obtain ⟨x0, x1⟩ := one_free x6
  obtain ⟨x2, x3⟩ := one_free x7
  obtain ⟨y0, y1⟩ := one_free y7
  obtain ⟨v0, v1⟩ := one_free w8
  have HH := hid h6
  have HM := hid hm6
  have HL := hid L6
  have HY := hid y7
  have HW := hid w8
  clear h6 hm6 L6 hgr hg2 x6 y6 w6 x7 y7 w7 w8 hW6
  go_region
  go_wp2_with fail
  have hg7 := set6_grown W6 (w.heap.size + 1) (.int .i64 g.kind) (.string g.name) (.string g.num) (.int .u64 g.bits) (.int .i64 g.var) (.slice q5 g.args.length c5)
  have hS : Below W6.heap.size W6 ((((((W6.setCell ⟨w.heap.size + 1, 0, none⟩ (.int .i64 g.kind)).setCell ⟨w.heap.size + 1, 1, none⟩ (.string g.name)).setCell ⟨w.heap.size + 1, 2, none⟩ (.string g.num)).setCell ⟨w.heap.size + 1, 3, none⟩ (.int .u64 g.bits)).setCell ⟨w.heap.size + 1, 4, none⟩ (.int .i64 g.var)).setCell ⟨w.heap.size + 1, 5, none⟩ (.slice q5 g.args.length c5)) := ⟨hg7.os, hg7.tape, hg7.output, hg7.size, fun k hk => by
    by_cases e : k = w.heap.size + 1
    · rw [e, set6 HH.out (.int .i64 g.kind) (.string g.name) (.string g.num) (.int .u64 g.bits) (.int .i64 g.var) (.slice q5 g.args.length c5)]
      exact HH.out.symm
    · exact hg7.block k hk (fun h => e (Option.some.inj h))⟩
  have L7 := HL.out.trans (hS.mono HL.out.size)
  have H7 := obj_keep HH.out hS
  have M7 := HM.out.keep hS
  have Y7 := HY.out
  obtain ⟨W7, h7⟩ : ∃ W7, W7 = ((((((W6.setCell ⟨w.heap.size + 1, 0, none⟩ (.int .i64 g.kind)).setCell ⟨w.heap.size + 1, 1, none⟩ (.string g.name)).setCell ⟨w.heap.size + 1, 2, none⟩ (.string g.num)).setCell ⟨w.heap.size + 1, 3, none⟩ (.int .u64 g.bits)).setCell ⟨w.heap.size + 1, 4, none⟩ (.int .i64 g.var)).setCell ⟨w.heap.size + 1, 5, none⟩ (.slice q5 g.args.length c5)) := ⟨_, rfl⟩
  have W78 := HW.out
  rw [← h7] at L7 H7 M7 Y7 W78 ⊢
  have L8 : Below w.heap.size w (W7.setCell ⟨w.heap.size + 1 + 1, 0, none⟩ (.int .i64 m)) := L7.setCell (show w.heap.size ≤ w.heap.size + 1 + 1 by omega) _
  have H8 := (heap_setCell_other W7 ⟨w.heap.size + 1 + 1, 0, none⟩ (w.heap.size + 1) (.int .i64 m) (by simp)).trans H7
  have Y8 := heap_setCell_same W7 (w.heap.size + 1 + 1) 0 _ _ (.int .i64 m) Y7
  have M8 := TmAt.one (W' := W7.setCell ⟨w.heap.size + 1 + 1, 0, none⟩ (.int .i64 m)) Y7 (fun x _ hne => heap_setCell_other W7 ⟨w.heap.size + 1 + 1, 0, none⟩ x _ hne) M7
  obtain ⟨W8, h8⟩ : ∃ W8, W8 = W7.setCell ⟨w.heap.size + 1 + 1, 0, none⟩ (.int .i64 m) := ⟨_, rfl⟩
  rw [← h8] at L8 H8 Y8 M8 W78 ⊢
  have L9 : Below w.heap.size w (W8.setCell ⟨w.heap.size + 1 + 1 + 1, 0, none⟩ .nilIface) := L8.setCell (show w.heap.size ≤ w.heap.size + 1 + 1 + 1 by omega) _
  have H9 := (heap_setCell_other W8 ⟨w.heap.size + 1 + 1 + 1, 0, none⟩ (w.heap.size + 1) .nilIface (by simp)).trans H8
  have Y9 := (heap_setCell_other W8 ⟨w.heap.size + 1 + 1 + 1, 0, none⟩ (w.heap.size + 1 + 1) .nilIface (by simp)).trans Y8
  have V9 := heap_setCell_same W8 (w.heap.size + 1 + 1 + 1) 0 _ _ .nilIface W78
  have M9 := TmAt.one (W' := W8.setCell ⟨w.heap.size + 1 + 1 + 1, 0, none⟩ .nilIface) W78 (fun x _ hne => heap_setCell_other W8 ⟨w.heap.size + 1 + 1 + 1, 0, none⟩ x _ hne) M8
  obtain ⟨W9, h9⟩ : ∃ W9, W9 = W8.setCell ⟨w.heap.size + 1 + 1 + 1, 0, none⟩ .nilIface := ⟨_, rfl⟩
  rw [← h9] at L9 H9 Y9 V9 M9 ⊢
  refine leaves_cons (f := 102) (args := #[.pointer (some ⟨w.heap.size + 1, 0, none⟩), .pointer (some ⟨w.heap.size + 1 + 1, 0, none⟩), .pointer (some ⟨w.heap.size + 1 + 1 + 1, 0, none⟩)]) (by simp) (by simp [go_sem]) ?_
  refine (made_idle _ _ _ _).mono ?_
  rintro x u' w10 ⟨rfl, rfl, rfl⟩
  obtain ⟨⟨s0, s1, s2, s3, s4, s5⟩, -⟩ := six_free H9
  have t0 := (cells_of Y9 0).trans rfl
  have t1 := (cells_of V9 0).trans rfl
  clear z0 z1 z2 z3 z4 z5 f0 f1 f2 f3 f4 f5 x0 x1 x2 x3 y0 y1 v0 v1 h7 h8 h9 hS hg7 L7 L8 H7 H8 H9 Y7 Y8 Y9 V9 W78 M7 M8
  have K9 := hid M9
  have KL := hid L9
  clear M9 L9
  simp [Leaves, settle, results, Tryz.results50, go_sem, s0, s1, s2, s3, s4, s5, t0, t1]
  exact ⟨K9.out.keep (Below.refl _ _).drew, KL.out.drew⟩
set_option maxRecDepth 100000 in
set_option maxHeartbeats 8000000 in
theorem made_overR (n m : Int) (bt : Nat) (g : Tm) (w : World)
    (HC : ∀ W bx, Below w.heap.size w W → w.heap.size ≤ bx → Box1 W bx n → Calls Tryz.prog 51 #[.func (.func 104) #[] #[.pointer (some ⟨bx, 0, none⟩)], .pointer (some ⟨bt, 0, none⟩)] W fun x w' => ∃ q c', x = .returned (.agg #[.int .i64 g.kind, .string g.name, .string g.num, .int .u64 g.bits, .int .i64 g.var, .slice q g.args.length c']) ∧ TmAt w' g q ∧ Box1 w' bx m ∧ But1 bx W w')
    (hg : Good g) (hn : 4000 < nodes g) (hX : ∀ W, Below w.heap.size w W → Utf W) :
    Calls Tryz.prog 50 #[.int .i64 n, .func (.func 51) #[] #[.pointer (some ⟨bt, 0, none⟩)]] w fun x w' => ∃ k, x = .returned (.tuple #[.agg #[.int .i64 0, .string ⟨#[]⟩, .string ⟨#[]⟩, .int .u64 0, .int .i64 0, .slice none 0 0], .int .i64 0, .iface 105 (.pointer (some ⟨k, 0, none⟩))]) ∧ BallAt w' k bNodes ∧ Below w.heap.size w w' := by
  have hmf : ∀ (fn : Fn) (first cap : Array Value) (w : World), (Instr.makeFunc fn first cap).run Tryz.prog w = .ok (.func fn first cap) w := fun _ _ _ _ => rfl
  obtain ⟨W0, hW0⟩ : ∃ W0, W0 = (((w.alloc (.cells #[.int .i64 n] 3)).alloc (.cells #[.int .i64 0, .string ⟨#[]⟩, .string ⟨#[]⟩, .int .u64 0, .int .i64 0, .slice none 0 0] 25)).alloc (.cells #[.int .i64 0] 3)).alloc (.cells #[.nilIface] 29) := ⟨_, rfl⟩
  have B0 := hid (show Below w.heap.size w W0 by rw [hW0]; exact ((((Below.refl w.heap.size w).alloc (Nat.le_refl _) _).alloc (by simp) _).alloc (by simp <;> omega) _).alloc (by simp <;> omega) _)
  have e0 := hid (show W0.heap[w.heap.size]? = some (.cells #[.int .i64 n] 3 (0, 0)) by rw [hW0]; exact (heap_alloc_old (((w.alloc _).alloc _).alloc _) _ (by simp <;> omega)).trans ((heap_alloc_old ((w.alloc _).alloc _) _ (by simp <;> omega)).trans ((heap_alloc_old (w.alloc _) _ (by simp)).trans (heap_alloc_new w _))))
  have e1 := hid (show W0.heap[w.heap.size + 1]? = some (.cells #[.int .i64 0, .string ⟨#[]⟩, .string ⟨#[]⟩, .int .u64 0, .int .i64 0, .slice none 0 0] 25 (0, 0)) by rw [hW0]; exact (heap_alloc_old (((w.alloc _).alloc _).alloc _) _ (by simp <;> omega)).trans ((heap_alloc_old ((w.alloc _).alloc _) _ (by simp)).trans (by have h := heap_alloc_new (w.alloc (.cells #[.int .i64 n] 3)) (.cells #[.int .i64 0, .string ⟨#[]⟩, .string ⟨#[]⟩, .int .u64 0, .int .i64 0, .slice none 0 0] 25); rwa [World.size_alloc] at h)))
  have e2 := hid (show W0.heap[w.heap.size + 1 + 1]? = some (.cells #[.int .i64 0] 3 (0, 0)) by rw [hW0]; exact (heap_alloc_old (((w.alloc _).alloc _).alloc _) _ (by simp)).trans (by have h := heap_alloc_new ((w.alloc (.cells #[.int .i64 n] 3)).alloc (.cells #[.int .i64 0, .string ⟨#[]⟩, .string ⟨#[]⟩, .int .u64 0, .int .i64 0, .slice none 0 0] 25)) (.cells #[.int .i64 0] 3); rwa [World.size_alloc, World.size_alloc] at h))
  have e3 := hid (show W0.heap[w.heap.size + 1 + 1 + 1]? = some (.cells #[.nilIface] 29 (0, 0)) by rw [hW0]; have h := heap_alloc_new (((w.alloc (.cells #[.int .i64 n] 3)).alloc (.cells #[.int .i64 0, .string ⟨#[]⟩, .string ⟨#[]⟩, .int .u64 0, .int .i64 0, .slice none 0 0] 25)).alloc (.cells #[.int .i64 0] 3)) (.cells #[.nilIface] 29); rw [World.size_alloc, World.size_alloc, World.size_alloc] at h; exact h)
  have CB := hid (HC W0 w.heap.size B0.out (Nat.le_refl _) e0.out)
  have CN := hid (show ∀ W q c', Below w.heap.size w W → TmAt W g q → Calls Tryz.prog 103 #[.agg #[.int .i64 g.kind, .string g.name, .string g.num, .int .u64 g.bits, .int .i64 g.var, .slice q g.args.length c']] W fun x w' => ∃ k, x = .panicked [{ v := .iface 105 (.pointer (some ⟨k, 0, none⟩)), recovered := false }] ∧ BallAt w' k bNodes ∧ Below W.heap.size W w' from fun W q c' h h2 => renewed_over g q c' W h2 hg (hX W h) hn)
  clear HC hg hn hX
  go_enter_defers Tryz.func50, Tryz.ntmps50
  go_upto_region 1 with fail
  rw [← hW0]
  clear hW0
  go_wp2_with (first
    | (go_at_call 51; (with_reducible refine CB.out.mono ?_); rintro x w3 ⟨q4, c4, rfl, hm4, hx4, hb4⟩; have M4 := hid hm4; have B4 := hid (hb4.below (Nat.le_refl _) w rfl B0.out); have F1 := hid (hb4.obj e1.out (by omega)); have F2 := hid (hb4.obj e2.out (by omega)); have F3 := hid (hb4.obj e3.out (by omega)); clear hb4 hm4 hx4)
    | (go_at_call 103; (with_reducible refine (CN.out _ _ _ B4.out M4.out).mono ?_); rintro x w4 ⟨k, rfl, hk, hb5⟩; have K4 := hid hk; have B5 := hid (B4.out.trans (hb5.mono B4.out.size)); have E1 := hid (obj_keep F1.out hb5); have E2 := hid (obj_keep F2.out hb5); have E3 := hid (obj_keep F3.out hb5); clear hb5 hk F1 F2 F3)
    | fail)
  refine leaves_cons (f := 102) (args := #[.pointer (some ⟨w.heap.size + 1, 0, none⟩), .pointer (some ⟨w.heap.size + 1 + 1, 0, none⟩), .pointer (some ⟨w.heap.size + 1 + 1 + 1, 0, none⟩)]) (by simp) (by simp [go_sem]) ?_
  refine (made_caught _ _ _ k _ _ _ _ _ _ _ _ _ _ [] w4 E1.out E2.out E3.out (by omega) (by omega)).mono ?_
  rintro x u' w5 ⟨rfl, rfl, rfl⟩
  have hB6 := set_blank (show Blank w4 (w.heap.size + 1) from E1.out)
  obtain ⟨W6, h6⟩ : ∃ W6, W6 = ((((((w4.setCell ⟨w.heap.size + 1, 0, none⟩ (.int .i64 0)).setCell ⟨w.heap.size + 1, 1, none⟩ (.string ⟨#[]⟩)).setCell ⟨w.heap.size + 1, 2, none⟩ (.string ⟨#[]⟩)).setCell ⟨w.heap.size + 1, 3, none⟩ (.int .u64 0)).setCell ⟨w.heap.size + 1, 4, none⟩ (.int .i64 0)).setCell ⟨w.heap.size + 1, 5, none⟩ (.slice none 0 0)) := ⟨_, rfl⟩
  rw [← h6] at hB6 ⊢
  have L6 := B5.out.trans (hB6.mono B5.out.size)
  have F1 := obj_keep E1.out hB6
  have F2 := obj_keep E2.out hB6
  have F3 := obj_keep E3.out hB6
  have K6 := K4.out.keep hB6
  have K7 := K6.one (d := .int .i64 0) F2
  have G1 := (heap_setCell_other W6 ⟨w.heap.size + 1 + 1, 0, none⟩ (w.heap.size + 1) (.int .i64 0) (by simp)).trans F1
  have G2 := heap_setCell_same W6 (w.heap.size + 1 + 1) 0 _ _ (.int .i64 0) F2
  have G3 := (heap_setCell_other W6 ⟨w.heap.size + 1 + 1, 0, none⟩ (w.heap.size + 1 + 1 + 1) (.int .i64 0) (by simp)).trans F3
  obtain ⟨W7, h7⟩ : ∃ W7, W7 = W6.setCell ⟨w.heap.size + 1 + 1, 0, none⟩ (.int .i64 0) := ⟨_, rfl⟩
  have L7 : Below w.heap.size w (W6.setCell ⟨w.heap.size + 1 + 1, 0, none⟩ (.int .i64 0)) := L6.setCell (show w.heap.size ≤ w.heap.size + 1 + 1 by omega) _
  rw [← h7] at L7 K7 G1 G2 G3 ⊢
  have K8 := K7.one (d := .iface 105 (.pointer (some ⟨k, 0, none⟩))) G3
  have I1 := (heap_setCell_other W7 ⟨w.heap.size + 1 + 1 + 1, 0, none⟩ (w.heap.size + 1) (.iface 105 (.pointer (some ⟨k, 0, none⟩))) (by simp)).trans G1
  have I2 := (heap_setCell_other W7 ⟨w.heap.size + 1 + 1 + 1, 0, none⟩ (w.heap.size + 1 + 1) (.iface 105 (.pointer (some ⟨k, 0, none⟩))) (by simp)).trans G2
  have I3 := heap_setCell_same W7 (w.heap.size + 1 + 1 + 1) 0 _ _ (.iface 105 (.pointer (some ⟨k, 0, none⟩))) G3
  obtain ⟨W8, h8⟩ : ∃ W8, W8 = W7.setCell ⟨w.heap.size + 1 + 1 + 1, 0, none⟩ (.iface 105 (.pointer (some ⟨k, 0, none⟩))) := ⟨_, rfl⟩
  have L8 : Below w.heap.size w (W7.setCell ⟨w.heap.size + 1 + 1 + 1, 0, none⟩ (.iface 105 (.pointer (some ⟨k, 0, none⟩)))) := L7.setCell (show w.heap.size ≤ w.heap.size + 1 + 1 + 1 by omega) _
  rw [← h8] at L8 K8 I1 I2 I3 ⊢
  obtain ⟨⟨z0, z1, z2, z3, z4, z5⟩, -⟩ := six_free I1
  have y2 := (cells_of I2 0).trans rfl
  have y3 := (cells_of I3 0).trans rfl
  clear h6 h7 h8 hB6 F1 F2 F3 G1 G2 G3 I1 I2 I3 K6 K7
  have K9 := hid K8
  have L9 := hid L8
  clear K8 L8 L7 L6
  simp [Leaves, settle, results, Tryz.results50, go_sem, z0, z1, z2, z3, z4, z5, y2, y3]
  exact ⟨K9.out, L9.out⟩
end Go.Proofs.YtiaddfedaikaiaaGreatDoor
