/- Walks: isOf, and what makes terms of parts that lie somewhere. No condition but those that each theorem names. Terms in memory of which one block of one cell alone is written over; rows of terms as arguments: plain. No condition but those that each theorem names. Walks: what makes balls, pairs of terms, new variables. No condition but those that each theorem names. Walks: the balls that are thrown. No condition but those that each theorem names. Walks: a term as new memory. No condition but those that each theorem names. Walks: what must be a callable term. No condition but those that each theorem names. -/
import Derived.Test.YtiaddfedaikaiaaGreatDoorD1rm
import Derived.Test.YtiaddfedaikaiaaGreatDoorT56m
import Derived.Deep.RegionHeld3
import Derived.Test.YtiaddfedaikaiaaGreatDoorT82m
namespace Go.Proofs.YtiaddfedaikaiaaGreatDoor
open Go.RowKit

set_option maxRecDepth 100000 in
set_option maxHeartbeats 4000000 in
theorem isOf_any (t : Tm) (p : Option Addr) (cap : Nat) (s : ByteArray) (n : Int) (w : World) (_hl : t.args.length ≤ maxLen) :
    Calls Tryz.prog 106 #[t.val p cap, .string s, .int .i64 n] w fun e w' => e = .returned (.bool (isOfT t s n)) ∧ Below w.heap.size w w' := by
  obtain ⟨W0, hW0⟩ : ∃ W0, W0 = w.alloc (tobj t p cap) := ⟨_, rfl⟩
  have hB := hid (show Below w.heap.size w W0 by rw [hW0]; exact (Below.refl w.heap.size w).alloc (Nat.le_refl _) (tobj t p cap))
  have e0 := hid (show W0.heap[w.heap.size]? = some (tobj t p cap) by rw [hW0]; exact heap_alloc_new w _)
  unfold tobj at hW0
  unfold Tm.val
  unfold maxLen at _hl
  obtain ⟨r, hr⟩ : ∃ r, r = isOfT t s n := ⟨_, rfl⟩
  rw [← hr]
  have HR := hid hr
  clear hr
  have yes : (t.kind = 2 ∨ t.kind = 5) → isOfT t s n = ((t.name.toList == s.toList) && ((t.args.length : Int) == n)) := fun h => by unfold isOfT; rcases h with h | h <;> simp [h]
  by_cases k2 : t.kind = 2
  · have Y := hid (yes (.inl k2))
    have K := hid k2
    clear yes k2
    by_cases h2 : t.name = s
    · subst h2
      by_cases h3 : (t.args.length : Int) = n
      · subst h3
        have HF := hid (show r = true by rw [HR.out, Y.out]; simp)
        clear HR
        go_enter Tryz.func106, Tryz.ntmps106
        go_upto_region 1 with fail
        rw [← hW0]
        clear hW0
        obtain ⟨a0, a1, a2, a3, a4, a5⟩ := six_of e0.out
        rw [K.out] at a0
        go_wp2
        go_ret
        exact ⟨by rw [HF.out]; rfl, hB.out⟩
      · have hc : ((t.args.length : Int) == n) = false := beq_eq_false_iff_ne.2 h3
        have HF := hid (show r = false by rw [HR.out, Y.out, hc]; simp)
        clear HR h3
        go_enter Tryz.func106, Tryz.ntmps106
        go_upto_region 1 with fail
        rw [← hW0]
        clear hW0
        obtain ⟨a0, a1, a2, a3, a4, a5⟩ := six_of e0.out
        rw [K.out] at a0
        go_wp2
        go_ret
        exact ⟨by rw [HF.out]; rfl, hB.out⟩
    · have hb : (t.name.toList == s.toList) = false := (names_eq _ _).trans (decide_eq_false h2)
      have HF := hid (show r = false by rw [HR.out, Y.out, hb]; simp)
      clear HR h2
      go_enter Tryz.func106, Tryz.ntmps106
      go_upto_region 1 with fail
      rw [← hW0]
      clear hW0
      obtain ⟨a0, a1, a2, a3, a4, a5⟩ := six_of e0.out
      rw [K.out] at a0
      go_wp2
      go_ret
      exact ⟨by rw [HF.out]; rfl, hB.out⟩
  by_cases k5 : t.kind = 5
  · have Y := hid (yes (.inr k5))
    have K := hid k5
    clear yes k5 k2
    by_cases h2 : t.name = s
    · subst h2
      by_cases h3 : (t.args.length : Int) = n
      · subst h3
        have HF := hid (show r = true by rw [HR.out, Y.out]; simp)
        clear HR
        go_enter Tryz.func106, Tryz.ntmps106
        go_upto_region 1 with fail
        rw [← hW0]
        clear hW0
        obtain ⟨a0, a1, a2, a3, a4, a5⟩ := six_of e0.out
        rw [K.out] at a0
        go_wp2
        go_ret
        exact ⟨by rw [HF.out]; rfl, hB.out⟩
      · have hc : ((t.args.length : Int) == n) = false := beq_eq_false_iff_ne.2 h3
        have HF := hid (show r = false by rw [HR.out, Y.out, hc]; simp)
        clear HR h3
        go_enter Tryz.func106, Tryz.ntmps106
        go_upto_region 1 with fail
        rw [← hW0]
        clear hW0
        obtain ⟨a0, a1, a2, a3, a4, a5⟩ := six_of e0.out
        rw [K.out] at a0
        go_wp2
        go_ret
        exact ⟨by rw [HF.out]; rfl, hB.out⟩
    · have hb : (t.name.toList == s.toList) = false := (names_eq _ _).trans (decide_eq_false h2)
      have HF := hid (show r = false by rw [HR.out, Y.out, hb]; simp)
      clear HR h2
      go_enter Tryz.func106, Tryz.ntmps106
      go_upto_region 1 with fail
      rw [← hW0]
      clear hW0
      obtain ⟨a0, a1, a2, a3, a4, a5⟩ := six_of e0.out
      rw [K.out] at a0
      go_wp2
      go_ret
      exact ⟨by rw [HF.out]; rfl, hB.out⟩
  have hk2 : (t.kind == 2) = false := beq_eq_false_iff_ne.2 k2
  have hk5 : (t.kind == 5) = false := beq_eq_false_iff_ne.2 k5
  have HF := hid (show r = false by rw [HR.out]; unfold isOfT; simp [k2, k5])
  clear HR k2 k5 yes
  go_enter Tryz.func106, Tryz.ntmps106
  go_upto_region 1 with fail
  rw [← hW0]
  clear hW0
  obtain ⟨a0, a1, a2, a3, a4, a5⟩ := six_of e0.out
  go_wp2
  go_ret
  exact ⟨by rw [HF.out]; rfl, hB.out⟩
set_option maxRecDepth 100000 in
theorem of_any (s : ByteArray) (l : List Tm) (q : Option Addr) (c : Nat) (w : World) : Calls Tryz.prog 109 #[.string s, .slice q l.length c] w fun e w' => e = .returned ((cT s l).val q c) ∧ Below w.heap.size w w' := by
  go_enter Tryz.func109, Tryz.ntmps109
  go_wp2
  exact bodyPost_ret (results_tm rfl _ _ w.heap.size (cT s l) q c (by rfl) (heap_alloc_new w _)) rfl ⟨rfl, (Below.refl _ _).alloc (Nat.le_refl _) _⟩
set_option maxRecDepth 100000 in
theorem atom_any (s : ByteArray) (w : World) : Calls Tryz.prog 120 #[.string s] w fun e w' => e = .returned ((aT s).val none 0) ∧ Below w.heap.size w w' := by
  go_enter Tryz.func120, Tryz.ntmps120
  go_wp2
  exact bodyPost_ret (results_tm rfl _ _ w.heap.size (aT s) none 0 (by rfl) (heap_alloc_new w _)) rfl ⟨rfl, (Below.refl _ _).alloc (Nat.le_refl _) _⟩
set_option maxRecDepth 100000 in
theorem var_any (n : Int) (w : World) : Calls Tryz.prog 105 #[.int .i64 n] w fun e w' => e = .returned ((vrT n).val none 0) ∧ Below w.heap.size w w' := by
  go_enter Tryz.func105, Tryz.ntmps105
  go_wp2
  exact bodyPost_ret (results_tm rfl _ _ w.heap.size (vrT n) none 0 (by rfl) (heap_alloc_new w _)) rfl ⟨rfl, (Below.refl _ _).alloc (Nat.le_refl _) _⟩
end Go.Proofs.YtiaddfedaikaiaaGreatDoor

namespace Go.Proofs.YtiaddfedaikaiaaGreatDoor
open Go.RowKit

theorem Chg.grown1 {S : List Nat} {w w1 w2 : World} {row : Option Nat} (h : Chg S w w1) (hg : w1.grownBy w2 row) (hr : ∀ x, row = some x → w.heap.size ≤ x ∨ x ∈ S) : Chg S w w2 :=
  ⟨hg.os.trans h.os, hg.tape.trans h.tape, hg.output.trans h.output, Nat.le_trans h.size hg.size, fun x hx hn => (hg.block x (Nat.lt_of_lt_of_le hx h.size) (fun e => by
    rcases hr x e.symm with k | k
    · omega
    · exact hn k)).trans (h.same x hx hn)⟩
/-- A number in a block of its own. -/
def Box1 (w : World) (b : Nat) (n : Int) : Prop := w.heap[b]? = some (.cells #[.int .i64 n] 3 (0, 0))
/-- Nothing but a number's block has been written over. -/
structure But1 (b : Nat) (w w' : World) : Prop where
  chg : Chg [b] w w'
  here : ∃ n, Box1 w b n
  there : ∃ n, Box1 w' b n
theorem But1.refl {b : Nat} {w : World} {n : Int} (h : Box1 w b n) : But1 b w w := ⟨Chg.refl _ _, ⟨n, h⟩, ⟨n, h⟩⟩
theorem But1.trans {b : Nat} {w w1 w2 : World} (h : But1 b w w1) (k : But1 b w1 w2) : But1 b w w2 := ⟨h.chg.trans k.chg, h.here, k.there⟩
theorem Box1.keep {w w' : World} {b : Nat} {n : Int} (h : Box1 w b n) (hb : Below w.heap.size w w') : Box1 w' b n := (hb.block b (lt_of_block h)).trans h
theorem But1.of_below {b : Nat} {w w' : World} {n : Int} (h : Box1 w b n) (hb : Below w.heap.size w w') : But1 b w w' := ⟨Chg.of_below hb, ⟨n, h⟩, ⟨n, h.keep hb⟩⟩
theorem But1.size {b : Nat} {w w' : World} (h : But1 b w w') : w.heap.size ≤ w'.heap.size := h.chg.size
theorem But1.lt {b : Nat} {w w' : World} (h : But1 b w w') : b < w.heap.size := by obtain ⟨n, hn⟩ := h.here; exact lt_of_block hn
theorem But1.obj {b k : Nat} {w w' : World} {o : Obj} (h : But1 b w w') (hk : w.heap[k]? = some o) (hne : k ≠ b) : w'.heap[k]? = some o := (h.chg.same k (lt_of_block hk) (by simpa using hne)).trans hk
theorem But1.six {b : Nat} {w w' : World} (h : But1 b w w') {k o : Nat} {t : Tm} {p : Option Addr} {cap : Nat} (hs : Six w k o t p cap) : Six w' k o t p cap := by
  obtain ⟨n, hn⟩ := h.here
  have hne : k ≠ b := by
    rintro rfl
    have h1 := hs.c1
    rw [cells_of hn] at h1
    have h0 := hs.c0
    rw [cells_of hn] at h0
    have := (Array.getElem?_eq_some_iff.1 h1).1
    simp at this
  have hlt : k < w.heap.size := by
    have := World.block_lt_of_cell? w _ hs.c0
    simpa using this
  exact hs.same (h.chg.same k hlt (by simpa using hne))
mutual
theorem But1.tm {b : Nat} {w w' : World} (h : But1 b w w') : ∀ {t : Tm} {p : Option Addr}, TmAt w t p → TmAt w' t p
  | .mk _ _ _ _ _ l, p, k => by
    unfold TmAt at k ⊢
    refine ⟨k.1, ?_⟩
    rcases k.2 with k | ⟨b', o, e, k⟩
    · exact .inl k
    · exact .inr ⟨b', o, e, But1.row h k⟩
theorem But1.row {b : Nat} {w w' : World} (h : But1 b w w') : ∀ {l : List Tm} {k o : Nat}, RowT w l k o → RowT w' l k o
  | [], _, _, _ => by unfold RowT; trivial
  | t :: l, k, o, q => by
    unfold RowT at q ⊢
    obtain ⟨⟨p, cap, h1, h2⟩, h3⟩ := q
    exact ⟨⟨p, cap, h.six h1, But1.tm h h2⟩, But1.row h h3⟩
end
/-- What lies below is as it was, where the number's block lies above. -/
theorem But1.below {b B : Nat} {w w' : World} (h : But1 b w w') (hB : B ≤ b) (w0 : World) (h0 : B = w0.heap.size) (hb : Below w0.heap.size w0 w) : Below w0.heap.size w0 w' :=
  ⟨h.chg.os.trans hb.os, h.chg.tape.trans hb.tape, h.chg.output.trans hb.output, Nat.le_trans hb.size h.size, fun k hk => (h.chg.same k (Nat.lt_of_lt_of_le hk hb.size) (by simp; omega)).trans (hb.block k hk)⟩
/-- A row of terms out of its cells. -/
theorem RowT.of_flat {w : World} {b : Nat} : ∀ (L : Row) (o : Nat), (∀ j u, (flat L)[j]? = some u → w.cell? ⟨b, o + j, none⟩ = some u) → (∀ x ∈ L, TmAt w x.1 x.2.1) → RowT w (L.map (·.1)) b o
  | [], _, _, _ => by show RowT w [] _ _; unfold RowT; trivial
  | x :: L, o, hc, hT => by
    have hf : flat (x :: L) = cellsT x ++ flat L := rfl
    rw [hf] at hc
    show RowT w (x.1 :: L.map (·.1)) b o
    unfold RowT
    refine ⟨⟨x.2.1, x.2.2, ⟨hc 0 _ rfl, hc 1 _ rfl, hc 2 _ rfl, hc 3 _ rfl, hc 4 _ rfl, hc 5 _ rfl⟩, hT x (by simp)⟩, RowT.of_flat L (o + 6) (fun j u hj => ?_) fun y hy => hT y (by simp [hy])⟩
    have h2 := hc (6 + j) u (by rw [List.getElem?_append_right (by simp [cellsT])]; simpa [cellsT] using hj)
    rwa [← Nat.add_assoc] at h2
/-- A compound of terms that lie in a block of their own. -/
theorem built {w : World} {b : Nat} {arr : Array Value} (s : ByteArray) (L : Row) (h : w.heap[b]? = some (.cells arr 25 (0, 0))) (ha : arr = (flat L).toArray) (hl : L.length ≤ 9223372036854775807) (hT : ∀ x ∈ L, TmAt w x.1 x.2.1) : TmAt w (cT s (L.map (·.1))) (some ⟨b, 0, none⟩) := by
  unfold cT TmAt
  refine ⟨by rw [List.length_map]; unfold maxLen; exact hl, .inr ⟨b, 0, rfl, RowT.of_flat L 0 (fun j u hj => ?_) hT⟩⟩
  rw [cells_of h, ha, Nat.zero_add]
  simpa using hj
/-- A ball lies at a place. -/
def BallAt (w : World) (b : Nat) (t : Tm) : Prop := ∃ q c, w.heap[b]? = some (.cells #[.int .i64 t.kind, .string t.name, .string t.num, .int .u64 t.bits, .int .i64 t.var, .slice q t.args.length c] 108 (0, 0)) ∧ TmAt w t q
theorem BallAt.keep {w w' : World} {b : Nat} {t : Tm} (h : BallAt w b t) (hb : Below w.heap.size w w') : BallAt w' b t := by
  obtain ⟨q, c, h1, h2⟩ := h
  exact ⟨q, c, (hb.block b (lt_of_block h1)).trans h1, h2.keep hb⟩
end Go.Proofs.YtiaddfedaikaiaaGreatDoor

namespace Go.Proofs.YtiaddfedaikaiaaGreatDoor
open Go.RowKit

set_option maxRecDepth 100000 in
theorem ballOf_any (t : Tm) (p : Option Addr) (c : Nat) (w : World) (hT : TmAt w t p) : Calls Tryz.prog 131 #[t.val p c] w fun e w' => ∃ k, e = .returned (.pointer (some ⟨k, 0, none⟩)) ∧ BallAt w' k t ∧ Below w.heap.size w w' := by
  have HT := hid hT
  obtain ⟨W0, hW0⟩ : ∃ W0, W0 = (w.alloc (tobj t p c)).alloc (.cells #[.int .i64 t.kind, .string t.name, .string t.num, .int .u64 t.bits, .int .i64 t.var, .slice p t.args.length c] 108) := ⟨_, rfl⟩
  have hB := hid (show Below w.heap.size w W0 by rw [hW0]; exact ((Below.refl w.heap.size w).alloc (Nat.le_refl _) _).alloc (by simp) _)
  have HZ := hid (show W0.heap[w.heap.size + 1]? = some (.cells #[.int .i64 t.kind, .string t.name, .string t.num, .int .u64 t.bits, .int .i64 t.var, .slice p t.args.length c] 108 (0, 0)) by rw [hW0]; have h := heap_alloc_new (w.alloc (tobj t p c)) (.cells #[.int .i64 t.kind, .string t.name, .string t.num, .int .u64 t.bits, .int .i64 t.var, .slice p t.args.length c] 108); rwa [World.size_alloc] at h)
  unfold tobj at hW0
  unfold Tm.val
  clear hT
  go_enter Tryz.func131, Tryz.ntmps131
  go_wp2
  rw [← hW0]
  go_ret
  exact ⟨w.heap.size + 1, rfl, ⟨p, c, HZ.out, HT.out.keep hB.out⟩, hB.out⟩
set_option maxRecDepth 100000 in
set_option maxHeartbeats 4000000 in
theorem fresh_any (bx : Nat) (n : Int) (w : World) (hb : Box1 w bx n) (h0 : 0 ≤ n) (h1 : n ≤ 9223372036854775806) :
    Calls Tryz.prog 104 #[.pointer (some ⟨bx, 0, none⟩)] w fun e w' => e = .returned ((vrT n).val none 0) ∧ Box1 w' bx (n + 1) ∧ But1 bx w w' := by
  obtain ⟨W0, hW0⟩ : ∃ W0, W0 = w.alloc (.cells #[.int .i64 0, .string ⟨#[]⟩, .string ⟨#[]⟩, .int .u64 0, .int .i64 0, .slice none 0 0] 25) := ⟨_, rfl⟩
  have B0 := hid (show Below w.heap.size w W0 by rw [hW0]; exact (Below.refl _ _).alloc (Nat.le_refl _) _)
  have R0 := hid (show W0.heap[w.heap.size]? = some (.cells #[.int .i64 0, .string ⟨#[]⟩, .string ⟨#[]⟩, .int .u64 0, .int .i64 0, .slice none 0 0] 25 (0, 0)) by rw [hW0]; exact heap_alloc_new w _)
  have X0 := hid (hb.keep B0.out)
  have HB := hid hb
  have hbl := hid (lt_of_block hb)
  have CV := hid (var_any n W0)
  rw [show (vrT n).val none 0 = .agg #[.int .i64 1, .string ⟨#[]⟩, .string ⟨#[]⟩, .int .u64 0, .int .i64 n, .slice none 0 0] from rfl] at CV ⊢
  have c0 : W0.cell? ⟨bx, 0, none⟩ = some (.int .i64 n) := (cells_of X0.out 0).trans rfl
  clear hb
  go_enter Tryz.func104, Tryz.ntmps104
  go_upto_region 1 with fail
  rw [← hW0]
  clear hW0
  go_upto_region 2 with (go_at_call 105; (with_reducible refine CV.out.mono ?_); rintro e w1 ⟨rfl, hb1⟩; have B1 := hid hb1; clear hb1 c0 CV)
  obtain ⟨W2, hW2⟩ : ∃ W2, W2 = w1.alloc (.cells #[.int .i64 1, .string ⟨#[]⟩, .string ⟨#[]⟩, .int .u64 0, .int .i64 n, .slice none 0 0] 25) := ⟨_, rfl⟩
  rw [← hW2]
  have A2 := hid (show Below w1.heap.size w1 W2 by rw [hW2]; exact (Below.refl _ _).alloc (Nat.le_refl _) _)
  have P2 := hid (show W2.heap[w1.heap.size]? = some (.cells #[.int .i64 1, .string ⟨#[]⟩, .string ⟨#[]⟩, .int .u64 0, .int .i64 n, .slice none 0 0] 25 (0, 0)) by rw [hW2]; exact heap_alloc_new w1 _)
  have BB := hid (B1.out.trans (A2.out.mono B1.out.size))
  have R2 := hid (obj_keep R0.out BB.out)
  have X2 := hid (X0.out.keep BB.out)
  have hs1 := hid (show W0.heap.size ≤ w1.heap.size from B1.out.size)
  clear hW2
  have c0 : W2.cell? ⟨bx, 0, none⟩ = some (.int .i64 n) := (cells_of X2.out 0).trans rfl
  have f0 : W2.frozen? ⟨bx, 0, none⟩ = false := by
    have h := X2.out
    unfold Box1 at h
    simp [World.frozen?, h]
  go_upto_region 3 with fail
  obtain ⟨W3, hW3⟩ : ∃ W3, W3 = W2.setCell ⟨bx, 0, none⟩ (.int .i64 (n + 1)) := ⟨_, rfl⟩
  rw [← hW3]
  have G3 := hid (show W2.grownBy W3 (some bx) by rw [hW3]; exact ⟨rfl, rfl, rfl, by simp, fun k _ hk => heap_setCell_other W2 ⟨bx, 0, none⟩ k _ (fun e => hk (by simp [e]))⟩)
  have X3 := hid (show Box1 W3 bx (n + 1) by rw [hW3]; exact heap_setCell_same W2 bx 0 _ _ (.int .i64 (n + 1)) X2.out)
  have R3 := hid ((G3.out.block _ (lt_of_block R2.out) (fun e => by have := hbl.out; have := Option.some.inj e; omega)).trans R2.out)
  have P3 := hid ((G3.out.block _ (lt_of_block P2.out) (fun e => by have h1 := hbl.out; have h2 := hs1.out; have h3 := B0.out.size; have h4 := Option.some.inj e; omega)).trans P2.out)
  clear hW3 c0 f0
  obtain ⟨⟨p0, p1, p2, p3, p4, p5⟩, _⟩ := six_free P3.out
  obtain ⟨⟨z0, z1, z2, z3, z4, z5⟩, ⟨f0, f1, f2, f3, f4, f5⟩⟩ := six_free R3.out
  go_wp2_with fail
  have hg := set6_grown W3 w.heap.size (.int .i64 1) (.string ⟨#[]⟩) (.string ⟨#[]⟩) (.int .u64 0) (.int .i64 n) (.slice none 0 0)
  have hx : Box1 ((((((W3.setCell ⟨w.heap.size, 0, none⟩ (.int .i64 1)).setCell ⟨w.heap.size, 1, none⟩ (.string ⟨#[]⟩)).setCell ⟨w.heap.size, 2, none⟩ (.string ⟨#[]⟩)).setCell ⟨w.heap.size, 3, none⟩ (.int .u64 0)).setCell ⟨w.heap.size, 4, none⟩ (.int .i64 n)).setCell ⟨w.heap.size, 5, none⟩ (.slice none 0 0)) bx (n + 1) := (hg.block bx (lt_of_block X3.out) (fun e => by have h1 := hbl.out; have h2 := Option.some.inj e; omega)).trans X3.out
  exact bodyPost_ret (results_tm rfl _ _ w.heap.size (vrT n) none 0 (by rfl) (set6 R3.out _ _ _ _ _ _)) rfl ⟨rfl, hx, ⟨((((Chg.of_below B0.out).trans (Chg.of_below BB.out)).grown1 G3.out (fun x e => by right; cases e; simp)).grown1 hg (fun x e => by left; cases e; exact Nat.le_refl _)), ⟨_, HB.out⟩, ⟨_, hx⟩⟩⟩
set_option maxRecDepth 100000 in
set_option maxHeartbeats 4000000 in
theorem and_any (a b : Tm) (pa pb : Option Addr) (ca cb : Nat) (w : World) (ha : TmAt w a pa) (hb : TmAt w b pb) :
    Calls Tryz.prog 112 #[a.val pa ca, b.val pb cb] w fun e w' => ∃ q, e = .returned ((andT a b).val q 2) ∧ TmAt w' (andT a b) q ∧ Below w.heap.size w w' := by
  obtain ⟨W0, hW0⟩ : ∃ W0, W0 = ((w.alloc (tobj a pa ca)).alloc (tobj b pb cb)).alloc (.cells #[.int .i64 0, .string ⟨#[]⟩, .string ⟨#[]⟩, .int .u64 0, .int .i64 0, .slice none 0 0] 25) := ⟨_, rfl⟩
  have B0 := hid (show Below w.heap.size w W0 by rw [hW0]; exact (((Below.refl w.heap.size w).alloc (Nat.le_refl _) _).alloc (by simp) _).alloc (by simp; omega) _)
  have R0 := hid (show W0.heap[w.heap.size + 2]? = some (.cells #[.int .i64 0, .string ⟨#[]⟩, .string ⟨#[]⟩, .int .u64 0, .int .i64 0, .slice none 0 0] 25 (0, 0)) by rw [hW0]; have h := heap_alloc_new ((w.alloc (tobj a pa ca)).alloc (tobj b pb cb)) (.cells #[.int .i64 0, .string ⟨#[]⟩, .string ⟨#[]⟩, .int .u64 0, .int .i64 0, .slice none 0 0] 25); rw [World.size_alloc, World.size_alloc] at h; exact h)
  have hs0 : W0.heap.size = w.heap.size + 3 := by rw [hW0]; simp
  obtain ⟨W1, hW1⟩ : ∃ W1, W1 = W0.alloc (pobj a b pa pb ca cb) := ⟨_, rfl⟩
  have B1 := hid (show Below W0.heap.size W0 W1 by rw [hW1]; exact (Below.refl _ _).alloc (Nat.le_refl _) _)
  have P1 := hid (show W1.heap[w.heap.size + 3]? = some (pobj a b pa pb ca cb) by rw [hW1, ← hs0]; exact heap_alloc_new W0 _)
  have TT := hid (show ∀ W : World, W.heap[w.heap.size + 3]? = some (pobj a b pa pb ca cb) → Below w.heap.size w W → TmAt W (andT a b) (some ⟨w.heap.size + 3, 0, none⟩) from fun W h h2 => by
    have hr := row_two h (ha.keep h2) (hb.keep h2)
    unfold andT cT TmAt
    exact ⟨by unfold maxLen; simp, .inr ⟨_, _, rfl, hr⟩⟩)
  have CO := hid (show ∀ W (q : Option Addr), Calls Tryz.prog 109 #[.string ⟨#[44]⟩, .slice q 2 2] W fun e w' => e = .returned (.agg #[.int .i64 5, .string ⟨#[44]⟩, .string ⟨#[]⟩, .int .u64 0, .int .i64 0, .slice q 2 2]) ∧ Below W.heap.size W w' from fun W q => of_any ⟨#[44]⟩ [a, b] q 2 W)
  have HV := hid (show ∀ (q : Option Addr), (andT a b).val q 2 = .agg #[.int .i64 5, .string ⟨#[44]⟩, .string ⟨#[]⟩, .int .u64 0, .int .i64 0, .slice q 2 2] from fun _ => rfl)
  unfold pobj at hW1
  unfold tobj at hW0
  unfold Tm.val
  clear ha hb
  go_enter Tryz.func112, Tryz.ntmps112
  go_upto_region 1 with fail
  rw [← hW0]
  have e0 := hid (show W0.heap[w.heap.size]? = some (tobj a pa ca) by rw [hW0]; exact (heap_alloc_old ((w.alloc _).alloc _) _ (by simp; omega)).trans ((heap_alloc_old (w.alloc _) _ (by simp)).trans (heap_alloc_new w _)))
  have e1 := hid (show W0.heap[w.heap.size + 1]? = some (tobj b pb cb) by rw [hW0]; exact (heap_alloc_old ((w.alloc _).alloc _) _ (by simp)).trans (by have h := heap_alloc_new (w.alloc (tobj a pa ca)) (tobj b pb cb); rwa [World.size_alloc] at h))
  clear hW0
  obtain ⟨a0, a1, a2, a3, a4, a5⟩ := six_of e0.out
  obtain ⟨b0, b1, b2, b3, b4, b5⟩ := six_of e1.out
  have hs := hid hs0
  go_wp2_with (go_at_call 109; rw [← hW1]; (with_reducible refine (CO.out _ _).mono ?_); rintro e w2 ⟨rfl, hb2⟩; have B2 := hid hb2; have R2 := hid (obj_keep R0.out (B1.out.trans (hb2.mono B1.out.size))); have P2 := hid (obj_keep P1.out hb2); have BW := hid (B0.out.trans ((B1.out.trans (hb2.mono B1.out.size)).mono B0.out.size)); clear hb2; obtain ⟨⟨z0, z1, z2, z3, z4, z5⟩, ⟨f0, f1, f2, f3, f4, f5⟩⟩ := six_free R2.out)
  have hgr := set6_grown w2 (w.heap.size + 2) (.int .i64 5) (.string ⟨#[44]⟩) (.string ⟨#[]⟩) (.int .u64 0) (.int .i64 0) (.slice (some ⟨w.heap.size + 3, 0, none⟩) 2 2)
  have hbw := set6_below BW.out (show w.heap.size ≤ w.heap.size + 2 by omega) (.int .i64 5) (.string ⟨#[44]⟩) (.string ⟨#[]⟩) (.int .u64 0) (.int .i64 0) (.slice (some ⟨w.heap.size + 3, 0, none⟩) 2 2)
  have hp := (hgr.block _ (lt_of_block P2.out) (fun e => by have := Option.some.inj e; omega)).trans P2.out
  exact bodyPost_ret (results_tm rfl _ _ (w.heap.size + 2) (andT a b) (some ⟨w.heap.size + 3, 0, none⟩) 2 (by rfl) (set6 R2.out _ _ _ _ _ _)) rfl ⟨some ⟨w.heap.size + 3, 0, none⟩, rfl, TT.out _ hp hbw, hbw⟩
set_option maxRecDepth 100000 in
set_option maxHeartbeats 4000000 in
theorem equal_any (a b : Tm) (pa pb : Option Addr) (ca cb : Nat) (w : World) (ha : TmAt w a pa) (hb : TmAt w b pb) :
    Calls Tryz.prog 113 #[a.val pa ca, b.val pb cb] w fun e w' => ∃ q, e = .returned ((eqT a b).val q 2) ∧ TmAt w' (eqT a b) q ∧ Below w.heap.size w w' := by
  obtain ⟨W0, hW0⟩ : ∃ W0, W0 = ((w.alloc (tobj a pa ca)).alloc (tobj b pb cb)).alloc (.cells #[.int .i64 0, .string ⟨#[]⟩, .string ⟨#[]⟩, .int .u64 0, .int .i64 0, .slice none 0 0] 25) := ⟨_, rfl⟩
  have B0 := hid (show Below w.heap.size w W0 by rw [hW0]; exact (((Below.refl w.heap.size w).alloc (Nat.le_refl _) _).alloc (by simp) _).alloc (by simp; omega) _)
  have R0 := hid (show W0.heap[w.heap.size + 2]? = some (.cells #[.int .i64 0, .string ⟨#[]⟩, .string ⟨#[]⟩, .int .u64 0, .int .i64 0, .slice none 0 0] 25 (0, 0)) by rw [hW0]; have h := heap_alloc_new ((w.alloc (tobj a pa ca)).alloc (tobj b pb cb)) (.cells #[.int .i64 0, .string ⟨#[]⟩, .string ⟨#[]⟩, .int .u64 0, .int .i64 0, .slice none 0 0] 25); rw [World.size_alloc, World.size_alloc] at h; exact h)
  have hs0 : W0.heap.size = w.heap.size + 3 := by rw [hW0]; simp
  obtain ⟨W1, hW1⟩ : ∃ W1, W1 = W0.alloc (pobj a b pa pb ca cb) := ⟨_, rfl⟩
  have B1 := hid (show Below W0.heap.size W0 W1 by rw [hW1]; exact (Below.refl _ _).alloc (Nat.le_refl _) _)
  have P1 := hid (show W1.heap[w.heap.size + 3]? = some (pobj a b pa pb ca cb) by rw [hW1, ← hs0]; exact heap_alloc_new W0 _)
  have TT := hid (show ∀ W : World, W.heap[w.heap.size + 3]? = some (pobj a b pa pb ca cb) → Below w.heap.size w W → TmAt W (eqT a b) (some ⟨w.heap.size + 3, 0, none⟩) from fun W h h2 => by
    have hr := row_two h (ha.keep h2) (hb.keep h2)
    unfold eqT cT TmAt
    exact ⟨by unfold maxLen; simp, .inr ⟨_, _, rfl, hr⟩⟩)
  have CO := hid (show ∀ W (q : Option Addr), Calls Tryz.prog 109 #[.string ⟨#[61]⟩, .slice q 2 2] W fun e w' => e = .returned (.agg #[.int .i64 5, .string ⟨#[61]⟩, .string ⟨#[]⟩, .int .u64 0, .int .i64 0, .slice q 2 2]) ∧ Below W.heap.size W w' from fun W q => of_any ⟨#[61]⟩ [a, b] q 2 W)
  have HV := hid (show ∀ (q : Option Addr), (eqT a b).val q 2 = .agg #[.int .i64 5, .string ⟨#[61]⟩, .string ⟨#[]⟩, .int .u64 0, .int .i64 0, .slice q 2 2] from fun _ => rfl)
  unfold pobj at hW1
  unfold tobj at hW0
  unfold Tm.val
  clear ha hb
  go_enter Tryz.func113, Tryz.ntmps113
  go_upto_region 1 with fail
  rw [← hW0]
  have e0 := hid (show W0.heap[w.heap.size]? = some (tobj a pa ca) by rw [hW0]; exact (heap_alloc_old ((w.alloc _).alloc _) _ (by simp; omega)).trans ((heap_alloc_old (w.alloc _) _ (by simp)).trans (heap_alloc_new w _)))
  have e1 := hid (show W0.heap[w.heap.size + 1]? = some (tobj b pb cb) by rw [hW0]; exact (heap_alloc_old ((w.alloc _).alloc _) _ (by simp)).trans (by have h := heap_alloc_new (w.alloc (tobj a pa ca)) (tobj b pb cb); rwa [World.size_alloc] at h))
  clear hW0
  obtain ⟨a0, a1, a2, a3, a4, a5⟩ := six_of e0.out
  obtain ⟨b0, b1, b2, b3, b4, b5⟩ := six_of e1.out
  have hs := hid hs0
  go_wp2_with (go_at_call 109; rw [← hW1]; (with_reducible refine (CO.out _ _).mono ?_); rintro e w2 ⟨rfl, hb2⟩; have B2 := hid hb2; have R2 := hid (obj_keep R0.out (B1.out.trans (hb2.mono B1.out.size))); have P2 := hid (obj_keep P1.out hb2); have BW := hid (B0.out.trans ((B1.out.trans (hb2.mono B1.out.size)).mono B0.out.size)); clear hb2; obtain ⟨⟨z0, z1, z2, z3, z4, z5⟩, ⟨f0, f1, f2, f3, f4, f5⟩⟩ := six_free R2.out)
  have hgr := set6_grown w2 (w.heap.size + 2) (.int .i64 5) (.string ⟨#[61]⟩) (.string ⟨#[]⟩) (.int .u64 0) (.int .i64 0) (.slice (some ⟨w.heap.size + 3, 0, none⟩) 2 2)
  have hbw := set6_below BW.out (show w.heap.size ≤ w.heap.size + 2 by omega) (.int .i64 5) (.string ⟨#[61]⟩) (.string ⟨#[]⟩) (.int .u64 0) (.int .i64 0) (.slice (some ⟨w.heap.size + 3, 0, none⟩) 2 2)
  have hp := (hgr.block _ (lt_of_block P2.out) (fun e => by have := Option.some.inj e; omega)).trans P2.out
  exact bodyPost_ret (results_tm rfl _ _ (w.heap.size + 2) (eqT a b) (some ⟨w.heap.size + 3, 0, none⟩) 2 (by rfl) (set6 R2.out _ _ _ _ _ _)) rfl ⟨some ⟨w.heap.size + 3, 0, none⟩, rfl, TT.out _ hp hbw, hbw⟩
end Go.Proofs.YtiaddfedaikaiaaGreatDoor

namespace Go.Proofs.YtiaddfedaikaiaaGreatDoor
open Go.RowKit

set_option maxRecDepth 100000 in
set_option maxHeartbeats 4000000 in
theorem resource_any (what : ByteArray) (w : World) :
    Calls Tryz.prog 80 #[.string what] w fun e w' => ∃ k, e = .returned (.pointer (some ⟨k, 0, none⟩)) ∧ BallAt w' k (cT ⟨#[114, 101, 115, 111, 117, 114, 99, 101, 95, 101, 114, 114, 111, 114]⟩ [aT what]) ∧ Below w.heap.size w w' := by
  have CA := hid (show ∀ W, Calls Tryz.prog 120 #[.string what] W fun e w' => e = .returned (.agg #[.int .i64 2, .string what, .string ⟨#[]⟩, .int .u64 0, .int .i64 0, .slice none 0 0]) ∧ Below W.heap.size W w' from fun W => atom_any what W)
  have CO := hid (show ∀ W (q : Option Addr), Calls Tryz.prog 109 #[.string ⟨#[114, 101, 115, 111, 117, 114, 99, 101, 95, 101, 114, 114, 111, 114]⟩, .slice q 1 1] W fun e w' => e = .returned (.agg #[.int .i64 5, .string ⟨#[114, 101, 115, 111, 117, 114, 99, 101, 95, 101, 114, 114, 111, 114]⟩, .string ⟨#[]⟩, .int .u64 0, .int .i64 0, .slice q 1 1]) ∧ Below W.heap.size W w' from fun W q => of_any ⟨#[114, 101, 115, 111, 117, 114, 99, 101, 95, 101, 114, 114, 111, 114]⟩ [aT what] q 1 W)
  have CB := hid (show ∀ W (q : Option Addr), TmAt W (cT ⟨#[114, 101, 115, 111, 117, 114, 99, 101, 95, 101, 114, 114, 111, 114]⟩ [aT what]) q → Calls Tryz.prog 131 #[.agg #[.int .i64 5, .string ⟨#[114, 101, 115, 111, 117, 114, 99, 101, 95, 101, 114, 114, 111, 114]⟩, .string ⟨#[]⟩, .int .u64 0, .int .i64 0, .slice q 1 1]] W fun e w' => ∃ k, e = .returned (.pointer (some ⟨k, 0, none⟩)) ∧ BallAt w' k (cT ⟨#[114, 101, 115, 111, 117, 114, 99, 101, 95, 101, 114, 114, 111, 114]⟩ [aT what]) ∧ Below W.heap.size W w' from fun W q h => ballOf_any (cT ⟨#[114, 101, 115, 111, 117, 114, 99, 101, 95, 101, 114, 114, 111, 114]⟩ [aT what]) q 1 W h)
  have TT := hid (show ∀ (W : World) b, W.heap[b]? = some (.cells #[.int .i64 2, .string what, .string ⟨#[]⟩, .int .u64 0, .int .i64 0, .slice none 0 0] 25 (0, 0)) → TmAt W (cT ⟨#[114, 101, 115, 111, 117, 114, 99, 101, 95, 101, 114, 114, 111, 114]⟩ [aT what]) (some ⟨b, 0, none⟩) from fun W b h => built ⟨#[114, 101, 115, 111, 117, 114, 99, 101, 95, 101, 114, 114, 111, 114]⟩ [(aT what, none, 0)] h rfl (by simp) (fun x hx => by simp at hx; subst hx; exact (leaf_mine W 2 what ⟨#[]⟩ 0).at_))
  go_enter Tryz.func80, Tryz.ntmps80
  go_wp2_with (first
    | (go_at_call 120; (with_reducible refine (CA.out _).mono ?_); rintro e w1 ⟨rfl, hb1⟩; have B1 := hid hb1; clear hb1 CA
       have hW2 := hid (heap_alloc_new w1 (.cells #[.int .i64 2, .string what, .string ⟨#[]⟩, .int .u64 0, .int .i64 0, .slice none 0 0] 25)); have A2 := hid (show Below w1.heap.size w1 (w1.alloc (.cells #[.int .i64 2, .string what, .string ⟨#[]⟩, .int .u64 0, .int .i64 0, .slice none 0 0] 25)) from (Below.refl _ _).alloc (Nat.le_refl _) _))
    | (go_at_call 109; (with_reducible refine (CO.out _ _).mono ?_); rintro e w3 ⟨rfl, hb3⟩; have B3 := hid (B1.out.trans ((A2.out.trans (hb3.mono A2.out.size)).mono B1.out.size)); have T3 := hid ((TT.out _ _ hW2.out).keep hb3); clear hb3 CO)
    | (go_at_call 131; (with_reducible refine (CB.out _ _ T3.out).mono ?_); rintro e w4 ⟨k, rfl, hk, hb4⟩; have K4 := hid hk; have B4 := hid (B3.out.trans (hb4.mono B3.out.size)); clear hb4 hk CB)
    | fail)
  go_ret
  exact ⟨k, rfl, K4.out, B4.out⟩
set_option maxRecDepth 100000 in
set_option maxHeartbeats 4000000 in
theorem represent_any (what : ByteArray) (w : World) :
    Calls Tryz.prog 144 #[.string what] w fun e w' => ∃ k, e = .returned (.pointer (some ⟨k, 0, none⟩)) ∧ BallAt w' k (cT ⟨#[114, 101, 112, 114, 101, 115, 101, 110, 116, 97, 116, 105, 111, 110, 95, 101, 114, 114, 111, 114]⟩ [aT what]) ∧ Below w.heap.size w w' := by
  have CA := hid (show ∀ W, Calls Tryz.prog 120 #[.string what] W fun e w' => e = .returned (.agg #[.int .i64 2, .string what, .string ⟨#[]⟩, .int .u64 0, .int .i64 0, .slice none 0 0]) ∧ Below W.heap.size W w' from fun W => atom_any what W)
  have CO := hid (show ∀ W (q : Option Addr), Calls Tryz.prog 109 #[.string ⟨#[114, 101, 112, 114, 101, 115, 101, 110, 116, 97, 116, 105, 111, 110, 95, 101, 114, 114, 111, 114]⟩, .slice q 1 1] W fun e w' => e = .returned (.agg #[.int .i64 5, .string ⟨#[114, 101, 112, 114, 101, 115, 101, 110, 116, 97, 116, 105, 111, 110, 95, 101, 114, 114, 111, 114]⟩, .string ⟨#[]⟩, .int .u64 0, .int .i64 0, .slice q 1 1]) ∧ Below W.heap.size W w' from fun W q => of_any ⟨#[114, 101, 112, 114, 101, 115, 101, 110, 116, 97, 116, 105, 111, 110, 95, 101, 114, 114, 111, 114]⟩ [aT what] q 1 W)
  have CB := hid (show ∀ W (q : Option Addr), TmAt W (cT ⟨#[114, 101, 112, 114, 101, 115, 101, 110, 116, 97, 116, 105, 111, 110, 95, 101, 114, 114, 111, 114]⟩ [aT what]) q → Calls Tryz.prog 131 #[.agg #[.int .i64 5, .string ⟨#[114, 101, 112, 114, 101, 115, 101, 110, 116, 97, 116, 105, 111, 110, 95, 101, 114, 114, 111, 114]⟩, .string ⟨#[]⟩, .int .u64 0, .int .i64 0, .slice q 1 1]] W fun e w' => ∃ k, e = .returned (.pointer (some ⟨k, 0, none⟩)) ∧ BallAt w' k (cT ⟨#[114, 101, 112, 114, 101, 115, 101, 110, 116, 97, 116, 105, 111, 110, 95, 101, 114, 114, 111, 114]⟩ [aT what]) ∧ Below W.heap.size W w' from fun W q h => ballOf_any (cT ⟨#[114, 101, 112, 114, 101, 115, 101, 110, 116, 97, 116, 105, 111, 110, 95, 101, 114, 114, 111, 114]⟩ [aT what]) q 1 W h)
  have TT := hid (show ∀ (W : World) b, W.heap[b]? = some (.cells #[.int .i64 2, .string what, .string ⟨#[]⟩, .int .u64 0, .int .i64 0, .slice none 0 0] 25 (0, 0)) → TmAt W (cT ⟨#[114, 101, 112, 114, 101, 115, 101, 110, 116, 97, 116, 105, 111, 110, 95, 101, 114, 114, 111, 114]⟩ [aT what]) (some ⟨b, 0, none⟩) from fun W b h => built ⟨#[114, 101, 112, 114, 101, 115, 101, 110, 116, 97, 116, 105, 111, 110, 95, 101, 114, 114, 111, 114]⟩ [(aT what, none, 0)] h rfl (by simp) (fun x hx => by simp at hx; subst hx; exact (leaf_mine W 2 what ⟨#[]⟩ 0).at_))
  go_enter Tryz.func144, Tryz.ntmps144
  go_wp2_with (first
    | (go_at_call 120; (with_reducible refine (CA.out _).mono ?_); rintro e w1 ⟨rfl, hb1⟩; have B1 := hid hb1; clear hb1 CA
       have hW2 := hid (heap_alloc_new w1 (.cells #[.int .i64 2, .string what, .string ⟨#[]⟩, .int .u64 0, .int .i64 0, .slice none 0 0] 25)); have A2 := hid (show Below w1.heap.size w1 (w1.alloc (.cells #[.int .i64 2, .string what, .string ⟨#[]⟩, .int .u64 0, .int .i64 0, .slice none 0 0] 25)) from (Below.refl _ _).alloc (Nat.le_refl _) _))
    | (go_at_call 109; (with_reducible refine (CO.out _ _).mono ?_); rintro e w3 ⟨rfl, hb3⟩; have B3 := hid (B1.out.trans ((A2.out.trans (hb3.mono A2.out.size)).mono B1.out.size)); have T3 := hid ((TT.out _ _ hW2.out).keep hb3); clear hb3 CO)
    | (go_at_call 131; (with_reducible refine (CB.out _ _ T3.out).mono ?_); rintro e w4 ⟨k, rfl, hk, hb4⟩; have K4 := hid hk; have B4 := hid (B3.out.trans (hb4.mono B3.out.size)); clear hb4 hk CB)
    | fail)
  go_ret
  exact ⟨k, rfl, K4.out, B4.out⟩
set_option maxRecDepth 100000 in
theorem instant_any (w : World) :
    Calls Tryz.prog 142 #[] w fun e w' => ∃ k, e = .returned (.pointer (some ⟨k, 0, none⟩)) ∧ BallAt w' k bInst ∧ Below w.heap.size w w' := by
  have CA := hid (show ∀ W, Calls Tryz.prog 120 #[.string ⟨#[105, 110, 115, 116, 97, 110, 116, 105, 97, 116, 105, 111, 110, 95, 101, 114, 114, 111, 114]⟩] W fun e w' => e = .returned (.agg #[.int .i64 2, .string ⟨#[105, 110, 115, 116, 97, 110, 116, 105, 97, 116, 105, 111, 110, 95, 101, 114, 114, 111, 114]⟩, .string ⟨#[]⟩, .int .u64 0, .int .i64 0, .slice none 0 0]) ∧ Below W.heap.size W w' from fun W => atom_any ⟨#[105, 110, 115, 116, 97, 110, 116, 105, 97, 116, 105, 111, 110, 95, 101, 114, 114, 111, 114]⟩ W)
  have CB := hid (show ∀ W, Calls Tryz.prog 131 #[.agg #[.int .i64 2, .string ⟨#[105, 110, 115, 116, 97, 110, 116, 105, 97, 116, 105, 111, 110, 95, 101, 114, 114, 111, 114]⟩, .string ⟨#[]⟩, .int .u64 0, .int .i64 0, .slice none 0 0]] W fun e w' => ∃ k, e = .returned (.pointer (some ⟨k, 0, none⟩)) ∧ BallAt w' k bInst ∧ Below W.heap.size W w' from fun W => ballOf_any bInst none 0 W (leaf_mine W 2 ⟨#[105, 110, 115, 116, 97, 110, 116, 105, 97, 116, 105, 111, 110, 95, 101, 114, 114, 111, 114]⟩ ⟨#[]⟩ 0).at_)
  go_enter Tryz.func142, Tryz.ntmps142
  go_wp2_with (first
    | (go_at_call 120; (with_reducible refine (CA.out _).mono ?_); rintro e w1 ⟨rfl, hb1⟩; have B1 := hid hb1; clear hb1 CA)
    | (go_at_call 131; (with_reducible refine (CB.out _).mono ?_); rintro e w4 ⟨k, rfl, hk, hb4⟩; have K4 := hid hk; have B4 := hid (B1.out.trans (hb4.mono B1.out.size)); clear hb4 hk CB)
    | fail)
  go_ret
  exact ⟨k, rfl, K4.out, B4.out⟩
set_option maxRecDepth 100000 in
set_option maxHeartbeats 8000000 in
theorem type_any (what : ByteArray) (t : Tm) (p : Option Addr) (c : Nat) (w : World) (hT : TmAt w t p) :
    Calls Tryz.prog 107 #[.string what, t.val p c] w fun e w' => ∃ k, e = .returned (.pointer (some ⟨k, 0, none⟩)) ∧ BallAt w' k (bType what t) ∧ Below w.heap.size w w' := by
  have HT := hid hT
  obtain ⟨W0, hW0⟩ : ∃ W0, W0 = w.alloc (tobj t p c) := ⟨_, rfl⟩
  have B0 := hid (show Below w.heap.size w W0 by rw [hW0]; exact (Below.refl w.heap.size w).alloc (Nat.le_refl _) _)
  have P0 := hid (show W0.heap[w.heap.size]? = some (tobj t p c) by rw [hW0]; exact heap_alloc_new w _)
  have CA := hid (show ∀ W, Calls Tryz.prog 120 #[.string what] W fun e w' => e = .returned (.agg #[.int .i64 2, .string what, .string ⟨#[]⟩, .int .u64 0, .int .i64 0, .slice none 0 0]) ∧ Below W.heap.size W w' from fun W => atom_any what W)
  have CO := hid (show ∀ W (q : Option Addr), Calls Tryz.prog 109 #[.string ⟨#[116, 121, 112, 101, 95, 101, 114, 114, 111, 114]⟩, .slice q 2 2] W fun e w' => e = .returned (.agg #[.int .i64 5, .string ⟨#[116, 121, 112, 101, 95, 101, 114, 114, 111, 114]⟩, .string ⟨#[]⟩, .int .u64 0, .int .i64 0, .slice q 2 2]) ∧ Below W.heap.size W w' from fun W q => of_any ⟨#[116, 121, 112, 101, 95, 101, 114, 114, 111, 114]⟩ [aT what, t] q 2 W)
  have CB := hid (show ∀ W (q : Option Addr), TmAt W (bType what t) q → Calls Tryz.prog 131 #[.agg #[.int .i64 5, .string ⟨#[116, 121, 112, 101, 95, 101, 114, 114, 111, 114]⟩, .string ⟨#[]⟩, .int .u64 0, .int .i64 0, .slice q 2 2]] W fun e w' => ∃ k, e = .returned (.pointer (some ⟨k, 0, none⟩)) ∧ BallAt w' k (bType what t) ∧ Below W.heap.size W w' from fun W q h => ballOf_any (bType what t) q 2 W h)
  have TT := hid (show ∀ (W : World) b, W.heap[b]? = some (.cells #[.int .i64 2, .string what, .string ⟨#[]⟩, .int .u64 0, .int .i64 0, .slice none 0 0, .int .i64 t.kind, .string t.name, .string t.num, .int .u64 t.bits, .int .i64 t.var, .slice p t.args.length c] 25 (0, 0)) → TmAt W t p → TmAt W (bType what t) (some ⟨b, 0, none⟩) from fun W b h hh => built ⟨#[116, 121, 112, 101, 95, 101, 114, 114, 111, 114]⟩ [(aT what, none, 0), (t, p, c)] h rfl (by simp) (fun x hx => by
    simp at hx
    rcases hx with rfl | rfl
    · exact (leaf_mine W 2 what ⟨#[]⟩ 0).at_
    · exact hh))
  have SR := hid (fun (W : World) (h : Below W0.heap.size W0 W) => (by
    have m := six_of (obj_keep P0.out h)
    exact ⟨m.c0, m.c1, m.c2, m.c3, m.c4, m.c5⟩ : W.cell? ⟨w.heap.size, 0, none⟩ = some (.int .i64 t.kind) ∧ W.cell? ⟨w.heap.size, 1, none⟩ = some (.string t.name) ∧ W.cell? ⟨w.heap.size, 2, none⟩ = some (.string t.num) ∧ W.cell? ⟨w.heap.size, 3, none⟩ = some (.int .u64 t.bits) ∧ W.cell? ⟨w.heap.size, 4, none⟩ = some (.int .i64 t.var) ∧ W.cell? ⟨w.heap.size, 5, none⟩ = some (.slice p t.args.length c)))
  have RR := hid (Below.refl W0.heap.size W0)
  have sr := SR.out W0 RR.out
  unfold tobj at hW0
  unfold Tm.val
  clear hT
  go_enter Tryz.func107, Tryz.ntmps107
  go_upto_region 1 with fail
  rw [← hW0]
  clear hW0
  go_wp2_with fail
  go_region_held3 (fun W => W.cell? ⟨w.heap.size, 0, none⟩ = some (.int .i64 t.kind) ∧ W.cell? ⟨w.heap.size, 1, none⟩ = some (.string t.name) ∧ W.cell? ⟨w.heap.size, 2, none⟩ = some (.string t.num) ∧ W.cell? ⟨w.heap.size, 3, none⟩ = some (.int .u64 t.bits) ∧ W.cell? ⟨w.heap.size, 4, none⟩ = some (.int .i64 t.var) ∧ W.cell? ⟨w.heap.size, 5, none⟩ = some (.slice p t.args.length c))
    (first
      | (with_reducible exact sr)
      | (with_reducible exact SR.out _ (bl_drew RR.out))
      | (with_reducible exact SR.out _ D4.out)
      | (with_reducible exact SR.out _ D3.out)
      | (with_reducible exact SR.out _ D2.out)
      | (with_reducible exact SR.out _ D1.out)
      | fail)
    ((first
      | (go_at_call 120; (with_reducible refine (CA.out _).mono ?_); rintro e w1 ⟨rfl, hb1⟩; have D1 := hid (bl_call (bl_drew RR.out) hb1); have D2 := hid (bl_alloc (x := .cells #[.int .i64 2, .string what, .string ⟨#[]⟩, .int .u64 0, .int .i64 0, .slice none 0 0, .int .i64 t.kind, .string t.name, .string t.num, .int .u64 t.bits, .int .i64 t.var, .slice p t.args.length c] 25) D1.out); have H2 := hid (heap_alloc_new w1 (.cells #[.int .i64 2, .string what, .string ⟨#[]⟩, .int .u64 0, .int .i64 0, .slice none 0 0, .int .i64 t.kind, .string t.name, .string t.num, .int .u64 t.bits, .int .i64 t.var, .slice p t.args.length c] 25)); clear hb1)
      | (go_at_call 109; (with_reducible refine (CO.out _ _).mono ?_); rintro e w3 ⟨rfl, hb3⟩; have D3 := hid (bl_call D2.out hb3); have T3 := hid ((TT.out _ _ H2.out (HT.out.keep (B0.out.trans (D2.out.mono B0.out.size)))).keep hb3); clear hb3)
      | (go_at_call 131; (with_reducible refine (CB.out _ _ T3.out).mono ?_); rintro e w4 ⟨k, rfl, hk, hb4⟩; have K4 := hid hk; have D4 := hid (bl_call D3.out hb4); clear hb4 hk)
      | fail))
  go_wp2_with fail
  go_ret
  exact ⟨k, rfl, K4.out, B0.out.trans (D4.out.mono B0.out.size)⟩
end Go.Proofs.YtiaddfedaikaiaaGreatDoor

namespace Go.Proofs.YtiaddfedaikaiaaGreatDoor
open Go.RowKit

theorem instL_nil : ∀ (d : Nat) (t : Tm), nodes t ≤ d → Good t → instT [] t = t
  | 0, t, h, _ => by have := nodes_pos t; omega
  | d + 1, t, h, hg => by
    by_cases h1 : t.kind = 1
    · rw [instT_var h1]
      conv => rhs; rw [hg.leaf1 h1]
      rfl
    · rw [instT_not h1]
      have : t.args.map (instT []) = t.args := by
        conv => rhs; rw [← List.map_id t.args]
        exact List.map_congr_left fun u hu => instL_nil d u (by have := (hg.arg u hu).2; omega) (hg.arg u hu).1
      rw [this]
      cases t; rfl
theorem inst_none {t : Tm} (h : Good t) : instT [] t = t := instL_nil (nodes t) t (Nat.le_refl _) h
theorem put_ok (t : Tm) (p : Option Addr) (c : Nat) (w : World) (hT : TmAt w t p) (hg : Good t) (hX : Utf w) (hn : nodes t ≤ 4000) :
    Calls Tryz.prog 75 #[.agg #[.int .i64 t.kind, .string t.name, .string t.num, .int .u64 t.bits, .int .i64 t.var, .slice p t.args.length c], .slice none 0 0] w fun e w' => ∃ q2 c2 S, e = .returned (.tuple #[.agg #[.int .i64 t.kind, .string t.name, .string t.num, .int .u64 t.bits, .int .i64 t.var, .slice q2 t.args.length c2], .int .i64 0]) ∧ MineT w' t q2 c2 S ∧ (∀ k ∈ S, w.heap.size ≤ k) ∧ Below w.heap.size w w' := by
  have hb : BindAt w [] none := fun k h => absurd h (by simp)
  have h := put_any t p c [] none 0 w hT hb hX hg.1 (fun k h => absurd h (by simp)) (fun k h => absurd h (by simp)) (by simp) (hg.check hn) hg.cp (fun _ k h => absurd h (by simp))
  have e : putD [] t = (t, 0) := by
    unfold putD
    rw [if_neg (by simp [standE]), inst_none hg, if_neg (by omega)]
  rw [e] at h
  exact h
theorem put_over (t : Tm) (p : Option Addr) (c : Nat) (w : World) (hT : TmAt w t p) (hg : Good t) (hX : Utf w) (hn : 4000 < nodes t) :
    Calls Tryz.prog 75 #[.agg #[.int .i64 t.kind, .string t.name, .string t.num, .int .u64 t.bits, .int .i64 t.var, .slice p t.args.length c], .slice none 0 0] w fun e w' => e = .returned (.tuple #[.agg #[.int .i64 0, .string ⟨#[]⟩, .string ⟨#[]⟩, .int .u64 0, .int .i64 0, .slice none 0 0], .int .i64 24]) ∧ Below w.heap.size w w' := by
  have hb : BindAt w [] none := fun k h => absurd h (by simp)
  have h := put_bad1 t p c [] none 0 w hT hb hX hg.1 (fun k h => absurd h (by simp)) (fun k h => absurd h (by simp)) (by simp) (by unfold checkErr; rw [if_pos (by omega)]; simp)
  have e : checkErr vName numOk bitsOk t = 24 := by unfold checkErr; rw [if_pos (by omega)]
  rw [e] at h
  exact h
set_option maxRecDepth 100000 in
set_option maxHeartbeats 4000000 in
theorem renewed_over (t : Tm) (p : Option Addr) (c : Nat) (w : World) (hT : TmAt w t p) (hg : Good t) (hX : Utf w) (hn : 4000 < nodes t) :
    Calls Tryz.prog 103 #[t.val p c] w fun e w' => ∃ k, e = .panicked [{ v := .iface 105 (.pointer (some ⟨k, 0, none⟩)), recovered := false }] ∧ BallAt w' k bNodes ∧ Below w.heap.size w w' := by
  obtain ⟨W0, hW0⟩ : ∃ W0, W0 = (w.alloc (tobj t p c)).alloc (.cells #[.int .i64 0, .string ⟨#[]⟩, .string ⟨#[]⟩, .int .u64 0, .int .i64 0, .slice none 0 0] 25) := ⟨_, rfl⟩
  have B0 := hid (show Below w.heap.size w W0 by rw [hW0]; exact ((Below.refl w.heap.size w).alloc (Nat.le_refl _) _).alloc (by simp) _)
  have CP := hid (show ∀ W, Below w.heap.size w W → _ from fun W h => put_over t p c W (hT.keep h) hg (hX.keep h) hn)
  have CR := hid (fun W => resource_any ⟨#[110, 111, 100, 101, 115]⟩ W)
  have e0 := hid (show W0.heap[w.heap.size]? = some (tobj t p c) by rw [hW0]; exact (heap_alloc_old (w.alloc _) _ (by simp)).trans (heap_alloc_new w _))
  unfold tobj at hW0
  unfold Tm.val
  clear hT
  go_enter Tryz.func103, Tryz.ntmps103
  go_upto_region 1 with fail
  rw [← hW0]
  clear hW0
  obtain ⟨a0, a1, a2, a3, a4, a5⟩ := six_of e0.out
  go_wp2_with (first
    | (go_at_call 75; (with_reducible refine (CP.out _ B0.out).mono ?_); rintro e w2 ⟨rfl, hb2⟩; have B2 := hid (B0.out.trans (hb2.mono B0.out.size)); clear hb2)
    | (go_at_call 80; (with_reducible refine (CR.out _).mono ?_); rintro e w4 ⟨k, rfl, hk, hb4⟩; have K4 := hid hk; have D4 := hid hb4; clear hb4 hk)
    | fail)
  exact ⟨rfl, k, rfl, K4.out, B2.out.trans ((((Below.refl _ _).alloc (Nat.le_refl _) _).trans (D4.out.mono (by simp))).mono B2.out.size)⟩
set_option maxRecDepth 100000 in
set_option maxHeartbeats 4000000 in
theorem renewed_ok (t : Tm) (p : Option Addr) (c : Nat) (w : World) (hT : TmAt w t p) (hg : Good t) (hX : Utf w) (hn : nodes t ≤ 4000) :
    Calls Tryz.prog 103 #[t.val p c] w fun e w' => ∃ q2 c2 S, e = .returned (t.val q2 c2) ∧ MineT w' t q2 c2 S ∧ (∀ k ∈ S, w.heap.size ≤ k) ∧ Below w.heap.size w w' := by
  obtain ⟨W0, hW0⟩ : ∃ W0, W0 = (w.alloc (tobj t p c)).alloc (.cells #[.int .i64 0, .string ⟨#[]⟩, .string ⟨#[]⟩, .int .u64 0, .int .i64 0, .slice none 0 0] 25) := ⟨_, rfl⟩
  have B0 := hid (show Below w.heap.size w W0 by rw [hW0]; exact ((Below.refl w.heap.size w).alloc (Nat.le_refl _) _).alloc (by simp) _)
  have CP := hid (show ∀ W, Below w.heap.size w W → _ from fun W h => put_ok t p c W (hT.keep h) hg (hX.keep h) hn)
  have e0 := hid (show W0.heap[w.heap.size]? = some (tobj t p c) by rw [hW0]; exact (heap_alloc_old (w.alloc _) _ (by simp)).trans (heap_alloc_new w _))
  have R0 := hid (show W0.heap[w.heap.size + 1]? = some (.cells #[.int .i64 0, .string ⟨#[]⟩, .string ⟨#[]⟩, .int .u64 0, .int .i64 0, .slice none 0 0] 25 (0, 0)) by rw [hW0]; have h := heap_alloc_new (w.alloc (tobj t p c)) (.cells #[.int .i64 0, .string ⟨#[]⟩, .string ⟨#[]⟩, .int .u64 0, .int .i64 0, .slice none 0 0] 25); rw [World.size_alloc] at h; exact h)
  have hs0 := hid (show W0.heap.size = w.heap.size + 2 by rw [hW0]; simp)
  unfold tobj at hW0
  unfold Tm.val
  clear hT
  go_enter Tryz.func103, Tryz.ntmps103
  go_upto_region 1 with fail
  rw [← hW0]
  clear hW0
  obtain ⟨a0, a1, a2, a3, a4, a5⟩ := six_of e0.out
  go_upto_region 3 with (first
    | (go_at_call 75; (with_reducible refine (CP.out _ B0.out).mono ?_); rintro e w2 ⟨q2, c2, S, rfl, hm, hS, hb2⟩; have B2 := hid (B0.out.trans (hb2.mono B0.out.size)); have A2 := hid (show Below w2.heap.size w2 (w2.alloc (.cells #[.int .i64 t.kind, .string t.name, .string t.num, .int .u64 t.bits, .int .i64 t.var, .slice q2 t.args.length c2] 25)) from (Below.refl _ _).alloc (Nat.le_refl _) _); have R4 := hid (obj_keep (obj_keep R0.out hb2) A2.out); have M2 := hid hm; have S2 := hid (show ∀ k ∈ S, W0.heap.size ≤ k from hS); clear hb2 hm hS; obtain ⟨⟨z0, z1, z2, z3, z4, z5⟩, ⟨f0, f1, f2, f3, f4, f5⟩⟩ := six_free R4.out)
    | fail)
  have hgr := set6_grown (w2.alloc (.cells #[.int .i64 t.kind, .string t.name, .string t.num, .int .u64 t.bits, .int .i64 t.var, .slice q2 t.args.length c2] 25)) (w.heap.size + 1) (.int .i64 t.kind) (.string t.name) (.string t.num) (.int .u64 t.bits) (.int .i64 t.var) (.slice q2 t.args.length c2)
  have hbw := set6_below (B2.out.trans (A2.out.mono B2.out.size)) (show w.heap.size ≤ w.heap.size + 1 by omega) (.int .i64 t.kind) (.string t.name) (.string t.num) (.int .u64 t.bits) (.int .i64 t.var) (.slice q2 t.args.length c2)
  have hs := hs0.out
  have hm := M2.out.same (w' := _) fun k hk => (hgr.block k (Nat.lt_of_lt_of_le (M2.out.lt k hk) A2.out.size) (fun e => by have := Option.some.inj e; have := S2.out k hk; omega)).trans (A2.out.block k (M2.out.lt k hk))
  exact bodyPost_ret (results_tm rfl _ _ (w.heap.size + 1) t q2 c2 (by rfl) (set6 R4.out _ _ _ _ _ _)) rfl ⟨q2, c2, S, rfl, hm, fun k hk => by have := S2.out k hk; omega, hbw⟩
end Go.Proofs.YtiaddfedaikaiaaGreatDoor

namespace Go.Proofs.YtiaddfedaikaiaaGreatDoor
open Go.RowKit

set_option maxRecDepth 100000 in
set_option maxHeartbeats 4000000 in
theorem callable_var (t : Tm) (p : Option Addr) (c : Nat) (w : World) (h1 : t.kind = 1) :
    Calls Tryz.prog 108 #[t.val p c] w fun e w' => ∃ k, e = .panicked [{ v := .iface 105 (.pointer (some ⟨k, 0, none⟩)), recovered := false }] ∧ BallAt w' k bInst ∧ Below w.heap.size w w' := by
  obtain ⟨W0, hW0⟩ : ∃ W0, W0 = w.alloc (tobj t p c) := ⟨_, rfl⟩
  have B0 := hid (show Below w.heap.size w W0 by rw [hW0]; exact (Below.refl w.heap.size w).alloc (Nat.le_refl _) _)
  have CR := hid (fun W => instant_any W)
  have e0 := hid (show W0.heap[w.heap.size]? = some (tobj t p c) by rw [hW0]; exact heap_alloc_new w _)
  have H1 := hid h1
  clear h1
  unfold tobj at hW0
  unfold Tm.val
  go_enter Tryz.func108, Tryz.ntmps108
  go_upto_region 1 with fail
  rw [← hW0]
  clear hW0
  obtain ⟨a0, a1, a2, a3, a4, a5⟩ := six_of e0.out
  rw [H1.out] at a0
  go_wp2_with (first
    | (go_at_call 142; (with_reducible refine (CR.out _).mono ?_); rintro e w4 ⟨k, rfl, hk, hb4⟩; have K4 := hid hk; have D4 := hid hb4; clear hb4 hk)
    | fail)
  exact ⟨rfl, k, rfl, K4.out, B0.out.trans (D4.out.mono B0.out.size)⟩
set_option maxRecDepth 100000 in
set_option maxHeartbeats 4000000 in
theorem callable_int (nm u : ByteArray) (b : Int) (v : Int) (l : List Tm) (p : Option Addr) (c : Nat) (w : World) (hT : TmAt w (.mk 3 nm u b v l) p) (hg : Good (.mk 3 nm u b v l)) (hX : Utf w) (hn : nodes (.mk 3 nm u b v l) ≤ 4000) :
    Calls Tryz.prog 108 #[.agg #[.int .i64 3, .string nm, .string u, .int .u64 b, .int .i64 v, .slice p l.length c]] w fun e w' => ∃ k, e = .panicked [{ v := .iface 105 (.pointer (some ⟨k, 0, none⟩)), recovered := false }] ∧ BallAt w' k (bType nCallable (.mk 3 nm u b v l)) ∧ Below w.heap.size w w' := by
  obtain ⟨W0, hW0⟩ : ∃ W0, W0 = w.alloc (.cells #[.int .i64 3, .string nm, .string u, .int .u64 b, .int .i64 v, .slice p l.length c] 25) := ⟨_, rfl⟩
  have B0 := hid (show Below w.heap.size w W0 by rw [hW0]; exact (Below.refl w.heap.size w).alloc (Nat.le_refl _) _)
  obtain ⟨bb, hbb⟩ : ∃ bb, bb = bType nCallable (.mk 3 nm u b v l) := ⟨_, rfl⟩
  have CN := hid (show ∀ W, Below w.heap.size w W → Calls Tryz.prog 103 #[.agg #[.int .i64 3, .string nm, .string u, .int .u64 b, .int .i64 v, .slice p l.length c]] W fun e w' => ∃ q2 c2, e = .returned (.agg #[.int .i64 3, .string nm, .string u, .int .u64 b, .int .i64 v, .slice q2 l.length c2]) ∧ TmAt w' (.mk 3 nm u b v l) q2 ∧ Below W.heap.size W w' from fun W h => (renewed_ok (.mk 3 nm u b v l) p c W (hT.keep h) hg (hX.keep h) hn).mono fun e w' ⟨q2, c2, S, a, m, _, d⟩ => ⟨q2, c2, a, m.at_, d⟩)
  have CR := hid (show ∀ W q2 c2, TmAt W (.mk 3 nm u b v l) q2 → Calls Tryz.prog 107 #[.string ⟨#[99, 97, 108, 108, 97, 98, 108, 101]⟩, .agg #[.int .i64 3, .string nm, .string u, .int .u64 b, .int .i64 v, .slice q2 l.length c2]] W fun e w' => ∃ k, e = .returned (.pointer (some ⟨k, 0, none⟩)) ∧ BallAt w' k bb ∧ Below W.heap.size W w' from fun W q2 c2 h => by rw [hbb]; exact type_any nCallable (.mk 3 nm u b v l) q2 c2 W h)
  rw [← hbb]
  have e0 := hid (show W0.heap[w.heap.size]? = some (.cells #[.int .i64 3, .string nm, .string u, .int .u64 b, .int .i64 v, .slice p l.length c] 25 (0, 0)) by rw [hW0]; exact heap_alloc_new w _)
  clear hT hg hX hn
  go_enter Tryz.func108, Tryz.ntmps108
  go_upto_region 1 with fail
  rw [← hW0]
  clear hW0
  obtain ⟨⟨a0, a1, a2, a3, a4, a5⟩, _⟩ := six_free e0.out
  go_wp2_with (first
    | (go_at_call 103; (with_reducible refine (CN.out _ B0.out).mono ?_); rintro e w3 ⟨q2, c2, rfl, hk, hb3⟩; have K3 := hid hk; have D3 := hid (B0.out.trans (hb3.mono B0.out.size)); clear hb3 hk)
    | (go_at_call 107; (with_reducible refine (CR.out _ _ _ K3.out).mono ?_); rintro e w4 ⟨k, rfl, hk, hb4⟩; have K4 := hid hk; have D4 := hid (D3.out.trans (hb4.mono D3.out.size)); clear hb4 hk)
    | fail)
  exact ⟨rfl, k, rfl, K4.out, D4.out⟩
set_option maxRecDepth 100000 in
set_option maxHeartbeats 4000000 in
theorem callable_flt (nm u : ByteArray) (b : Int) (v : Int) (l : List Tm) (p : Option Addr) (c : Nat) (w : World) (hT : TmAt w (.mk 4 nm u b v l) p) (hg : Good (.mk 4 nm u b v l)) (hX : Utf w) (hn : nodes (.mk 4 nm u b v l) ≤ 4000) :
    Calls Tryz.prog 108 #[.agg #[.int .i64 4, .string nm, .string u, .int .u64 b, .int .i64 v, .slice p l.length c]] w fun e w' => ∃ k, e = .panicked [{ v := .iface 105 (.pointer (some ⟨k, 0, none⟩)), recovered := false }] ∧ BallAt w' k (bType nCallable (.mk 4 nm u b v l)) ∧ Below w.heap.size w w' := by
  obtain ⟨W0, hW0⟩ : ∃ W0, W0 = w.alloc (.cells #[.int .i64 4, .string nm, .string u, .int .u64 b, .int .i64 v, .slice p l.length c] 25) := ⟨_, rfl⟩
  have B0 := hid (show Below w.heap.size w W0 by rw [hW0]; exact (Below.refl w.heap.size w).alloc (Nat.le_refl _) _)
  obtain ⟨bb, hbb⟩ : ∃ bb, bb = bType nCallable (.mk 4 nm u b v l) := ⟨_, rfl⟩
  have CN := hid (show ∀ W, Below w.heap.size w W → Calls Tryz.prog 103 #[.agg #[.int .i64 4, .string nm, .string u, .int .u64 b, .int .i64 v, .slice p l.length c]] W fun e w' => ∃ q2 c2, e = .returned (.agg #[.int .i64 4, .string nm, .string u, .int .u64 b, .int .i64 v, .slice q2 l.length c2]) ∧ TmAt w' (.mk 4 nm u b v l) q2 ∧ Below W.heap.size W w' from fun W h => (renewed_ok (.mk 4 nm u b v l) p c W (hT.keep h) hg (hX.keep h) hn).mono fun e w' ⟨q2, c2, S, a, m, _, d⟩ => ⟨q2, c2, a, m.at_, d⟩)
  have CR := hid (show ∀ W q2 c2, TmAt W (.mk 4 nm u b v l) q2 → Calls Tryz.prog 107 #[.string ⟨#[99, 97, 108, 108, 97, 98, 108, 101]⟩, .agg #[.int .i64 4, .string nm, .string u, .int .u64 b, .int .i64 v, .slice q2 l.length c2]] W fun e w' => ∃ k, e = .returned (.pointer (some ⟨k, 0, none⟩)) ∧ BallAt w' k bb ∧ Below W.heap.size W w' from fun W q2 c2 h => by rw [hbb]; exact type_any nCallable (.mk 4 nm u b v l) q2 c2 W h)
  rw [← hbb]
  have e0 := hid (show W0.heap[w.heap.size]? = some (.cells #[.int .i64 4, .string nm, .string u, .int .u64 b, .int .i64 v, .slice p l.length c] 25 (0, 0)) by rw [hW0]; exact heap_alloc_new w _)
  clear hT hg hX hn
  go_enter Tryz.func108, Tryz.ntmps108
  go_upto_region 1 with fail
  rw [← hW0]
  clear hW0
  obtain ⟨⟨a0, a1, a2, a3, a4, a5⟩, _⟩ := six_free e0.out
  go_wp2_with (first
    | (go_at_call 103; (with_reducible refine (CN.out _ B0.out).mono ?_); rintro e w3 ⟨q2, c2, rfl, hk, hb3⟩; have K3 := hid hk; have D3 := hid (B0.out.trans (hb3.mono B0.out.size)); clear hb3 hk)
    | (go_at_call 107; (with_reducible refine (CR.out _ _ _ K3.out).mono ?_); rintro e w4 ⟨k, rfl, hk, hb4⟩; have K4 := hid hk; have D4 := hid (D3.out.trans (hb4.mono D3.out.size)); clear hb4 hk)
    | fail)
  exact ⟨rfl, k, rfl, K4.out, D4.out⟩
set_option maxRecDepth 100000 in
set_option maxHeartbeats 4000000 in
theorem callable_ok (t : Tm) (p : Option Addr) (c : Nat) (w : World) (h1 : t.kind ≠ 1) (h3 : t.kind ≠ 3) (h4 : t.kind ≠ 4) :
    Calls Tryz.prog 108 #[t.val p c] w fun e w' => e = .returned (.tuple #[]) ∧ Below w.heap.size w w' := by
  have hB := hid (show Below w.heap.size w (w.alloc (tobj t p c)) from (Below.refl w.heap.size w).alloc (Nat.le_refl _) (tobj t p c))
  unfold tobj at hB
  unfold Tm.val
  go_enter Tryz.func108, Tryz.ntmps108
  go_wp2
  go_end0
  exact ⟨rfl, hB.out⟩
set_option maxRecDepth 100000 in
/-- Callable or not. -/
theorem callable_any (t : Tm) (p : Option Addr) (c : Nat) (w : World) (hT : TmAt w t p) (hg : Good t) (hX : Utf w) (hn : nodes t ≤ 4000) :
    Calls Tryz.prog 108 #[t.val p c] w fun e w' => (match callE t with
      | none => e = .returned (.tuple #[])
      | some b => ∃ k, e = .panicked [{ v := .iface 105 (.pointer (some ⟨k, 0, none⟩)), recovered := false }] ∧ BallAt w' k b) ∧ Below w.heap.size w w' := by
  unfold callE
  by_cases h1 : t.kind = 1
  · rw [if_pos h1]
    exact (callable_var t p c w h1).mono fun e w' ⟨k, a, b, d⟩ => ⟨⟨k, a, b⟩, d⟩
  · rw [if_neg h1]
    by_cases h3 : t.kind = 3
    · rw [if_pos (.inl h3)]
      cases t with
      | mk kk nm u b v l =>
        obtain rfl : kk = 3 := h3
        exact (callable_int nm u b v l p c w hT hg hX hn).mono fun e w' ⟨k, a, b, d⟩ => ⟨⟨k, a, b⟩, d⟩
    · by_cases h4 : t.kind = 4
      · rw [if_pos (.inr h4)]
        cases t with
        | mk kk nm u b v l =>
          obtain rfl : kk = 4 := h4
          exact (callable_flt nm u b v l p c w hT hg hX hn).mono fun e w' ⟨k, a, b, d⟩ => ⟨⟨k, a, b⟩, d⟩
      · rw [if_neg (by simp [h3, h4])]
        exact callable_ok t p c w h1 h3 h4
end Go.Proofs.YtiaddfedaikaiaaGreatDoor
