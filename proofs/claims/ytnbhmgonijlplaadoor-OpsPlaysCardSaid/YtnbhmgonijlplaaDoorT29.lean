/- The law OpsCopies answers true whatever was added, where the program's tables of words and of blanks lie as its text lays them. -/
import Derived.Test.YtnbhmgonijlplaaDoorT28
import Derived.Test.YtnbhmgonijlplaaDoorT25
import Derived.Test.YtnbhmgonijlplaaDoorT30
namespace Go.Proofs.YtnbhmgonijlplaaDoor
open Go.RowKit Go.Maps Go.Shelf

/-- All but two blocks as they were. -/
structure Held (K b : Nat) (W W' : World) : Prop where
  os : W'.os = W.os
  tape : W'.tape = W.tape
  output : W'.output = W.output
  size : W.heap.size ≤ W'.heap.size
  same : ∀ k, k < W.heap.size → k ≠ K → k ≠ b → W'.heap[k]? = W.heap[k]?
theorem Held.refl (K b : Nat) (W : World) : Held K b W W := ⟨rfl, rfl, rfl, Nat.le_refl _, fun _ _ _ _ => rfl⟩
theorem Held.trans {K b : Nat} {A B C : World} (h : Held K b A B) (k : Held K b B C) : Held K b A C :=
  ⟨k.os.trans h.os, k.tape.trans h.tape, k.output.trans h.output, Nat.le_trans h.size k.size, fun i hi h1 h2 => (k.same i (Nat.lt_of_lt_of_le hi h.size) h1 h2).trans (h.same i hi h1 h2)⟩
theorem Held.of_below {K b : Nat} {W W' : World} (h : Below W.heap.size W W') : Held K b W W' := ⟨h.os, h.tape, h.output, h.size, fun k hk _ _ => h.block k hk⟩
theorem Held.of_grown {K b : Nat} {W W' : World} (h : W.grownBy W' (some b)) : Held K b W W' := ⟨h.os, h.tape, h.output, h.size, fun k hk _ h2 => h.block k hk (by simpa using h2)⟩
theorem Held.set {K b : Nat} (W : World) (v : Value) : Held K b W (W.setCell ⟨K, 0, none⟩ v) :=
  have h := grownBy_setCell' W K v
  ⟨h.os, h.tape, h.output, h.size, fun k hk h1 _ => h.block k hk (by simpa using h1)⟩
theorem Held.block {K b : Nat} {W W' : World} (h : Held K b W W') {k : Nat} {o : Obj} (ho : W.heap[k]? = some o) (h1 : k ≠ K) (h2 : k ≠ b) : W'.heap[k]? = some o := (h.same k (lt_of_block ho) h1 h2).trans ho
theorem Held.cell {K b : Nat} {W W' : World} (h : Held K b W W') {k o : Nat} {v : Value} (hc : W.cell? ⟨k, o, none⟩ = some v) (h1 : k ≠ K) (h2 : k ≠ b) : W'.cell? ⟨k, o, none⟩ = some v := by
  have hlt := World.block_lt_of_cell? W _ hc
  simp at hlt
  rw [← hc]
  exact World.cell?_of_block (h.same k hlt h1 h2)
theorem Held.from {K b B : Nat} {W W' : World} (h : Held K b W W') (hK : K < B) (hb : b < B) : KeepsFrom B W W' :=
  ⟨h.size, fun k o hk ho _ => h.block ho (by omega) (by omega)⟩
theorem Held.leaves {K b n₀ : Nat} {W W' : World} (h : Held K b W W') (hK : K < n₀) (hb : b < n₀) {i : Int} (hc : W'.cell? ⟨K, 0, none⟩ = some (.int .i64 i)) : Leaves K n₀ W W' :=
  ⟨h.size, fun k cs t m hk ho _ => ⟨h.block ho (by omega) (by omega), by rintro ⟨g, o, l, c, q, _⟩; rw [hc] at q; cases q⟩⟩
theorem held_own {β : Type} {K b : Nat} {W5 : World} : OwnFrom (β := β) W5.heap.size (fun _ W => Held K b W5 W) := fun s X Y row hs hg hr =>
  ⟨hg.os.trans hs.os, hg.tape.trans hs.tape, hg.output.trans hs.output, Nat.le_trans hs.size hg.size, fun k hk h1 h2 => (hg.block k (Nat.lt_of_lt_of_le hk hs.size) (fun e => by have := (hr k e.symm).1; omega)).trans (hs.same k hk h1 h2)⟩
theorem tab_own {β : Type} {b B : Nat} (hb : b < B) (n : β → Nat) : OwnFrom B (fun s W => ∃ G, Good G ∧ Tab W b (n s) G) := fun s X Y row ⟨G, g, hT⟩ hg hr =>
  ⟨G, g, hT.kept hg (fun e => by have := (hr b e.symm).1; omega)⟩
theorem pure_own {β : Type} {B : Nat} (p : β → Prop) : OwnFrom B (fun s (_ : World) => p s) := fun _ _ _ _ h _ _ => h
theorem keeps_drewN (B : Nat) (W : World) (n : Nat) : KeepsFrom B W (W.drewN n) := ⟨Nat.le_refl _, fun _ _ _ h _ => h⟩
theorem keeps_set {B b : Nat} (W : World) (v : Value) (hb : b < B) : KeepsFrom B W (W.setCell ⟨b, 0, none⟩ v) := KeepsFrom.of_grownBy (grownBy_setCell' W b v) (fun j e => by cases e; exact hb)
theorem Held.drewN {K b : Nat} {W W' : World} (h : Held K b W W') (n : Nat) : Held K b W (W'.drewN n) := ⟨h.os, h.tape, h.output, h.size, h.same⟩
theorem prefix_at {pre M : List Opn} {x : Opn} (h : pre ++ [x] <+: M) : ∃ hk : pre.length < M.length, M[pre.length] = x := by
  obtain ⟨t, rfl⟩ := h
  exact ⟨by simp, by simp⟩
theorem prefix_next {pre M : List Opn} (h : pre <+: M) (hk : pre.length < M.length) : pre ++ [M[pre.length]] <+: M := by
  obtain ⟨t, rfl⟩ := h
  cases t with
  | nil => simp at hk
  | cons y t => exact ⟨t, by simp⟩
theorem copies_step {K b n : Nat} {W5 W W6 : World} {G : Fn} {k : Nat} (h5 : Held K b W5 W) (h : Held K b W W6) (hK : K < W5.heap.size) (hb : b < W5.heap.size) (hKb : K ≠ b) (hbox : Boxed W6 K 3 (.int .i64 (k : Int))) (hT : Tab W6 b n G) :
    KeepsFrom W5.heap.size W (W6.setCell ⟨K, 0, none⟩ (.int .i64 ((k : Int) + 1))) ∧ Leaves K W5.heap.size W (W6.setCell ⟨K, 0, none⟩ (.int .i64 ((k : Int) + 1))) ∧ Held K b W5 (W6.setCell ⟨K, 0, none⟩ (.int .i64 ((k : Int) + 1))) ∧
      Boxed (W6.setCell ⟨K, 0, none⟩ (.int .i64 ((k : Int) + 1))) K 3 (.int .i64 ((k + 1 : Nat) : Int)) ∧ Tab (W6.setCell ⟨K, 0, none⟩ (.int .i64 ((k : Int) + 1))) b n G := by
  have h1 := h.trans (Held.set W6 (.int .i64 ((k : Int) + 1)))
  have h2 := hbox.set (.int .i64 ((k : Int) + 1))
  exact ⟨h1.from hK hb, h1.leaves hK hb h2.cell, h5.trans h1, h2, hT.kept (grownBy_setCell' W6 K _) (by simp; exact Ne.symm hKb)⟩
theorem neq39 (x y : Opn) (w : World) : (binOp .neq 39 (.agg #[.string x.name, .int .i64 x.typ, .int .i64 x.pri]) (.agg #[.string y.name, .int .i64 y.typ, .int .i64 y.pri])).run Tryd.prog w = .ok (.bool (!opEq x y)) w := by
  have h := eq39 x y w
  rw [run_eql_struct] at h
  rw [run_neq_struct]
  cases e : (Op.equalIn 10000 39 (.agg #[.string x.name, .int .i64 x.typ, .int .i64 x.pri]) (.agg #[.string y.name, .int .i64 y.typ, .int .i64 y.pri])).run Tryd.prog w with
  | ok b w' => rw [e] at h; simp [Result.andThen] at h ⊢; obtain ⟨rfl, rfl⟩ := h; exact ⟨rfl, rfl⟩
  | halt a b => rw [e] at h; simp [Result.andThen] at h

theorem results_bool {fn : Func} {p : Tmp} (h : fn.results = #[.cell p 4]) (tmps : Array Value) (W : World) (b : Nat) (q : Bool) (hp : tmps.getD p undef = .pointer (some ⟨b, 0, none⟩)) (hc : W.cell? ⟨b, 0, none⟩ = some (.bool q)) :
    (results fn tmps).run Tryd.prog W = .ok (.bool q) W := by
  have hp' : tmps[p]?.getD undef = .pointer (some ⟨b, 0, none⟩) := by simpa using hp
  have ha : (isAgg 4).run Tryd.prog W = .ok false W := run_isAgg_plain Tryd.underlying4 rfl W
  simp [results, h, hp', asAddr, loadVar, Sem.run_bind, ha, Result.andThen, hc]

set_option maxRecDepth 100000 in
set_option maxHeartbeats 8000000 in
theorem copies_yes (v v2 : Value) (L N : List Opn) (w : World) (hL : OpsAt w v L) (hn : ∀ y ∈ L, y.name.size ≤ maxLen) (hlen : L.length * 32 ≤ 140737488351232)
    (hN : OpsAt w v2 N) (hnN : ∀ y ∈ N, y.name.size ≤ maxLen) (hlenN : N.length * 32 ≤ 140737488351232) (hw : Words w) (hbl : Blanks w) :
    Calls Tryd.prog 7 #[v, v2] w fun e w' => e = .returned (.bool true) ∧ Below w.heap.size w w' := by
  have hl1 := hbl.lt
  obtain ⟨p2, cap2, rfl, hNx⟩ := hN
  have hN : OpsAt w (.slice p2 N.length cap2) N := ⟨p2, cap2, rfl, hNx⟩
  clear hNx
  obtain ⟨v2, hv2⟩ : ∃ v2, v2 = Value.slice p2 N.length cap2 := ⟨_, rfl⟩
  rw [← hv2] at hN
  obtain ⟨W0, hW0⟩ : ∃ W0, W0 = (w.alloc (.cells #[v2] 45)).alloc (.cells #[.bool false] 4) := ⟨_, rfl⟩
  have hB0 : Below w.heap.size w W0 := by rw [hW0]; exact ((Below.refl _ _).alloc (Nat.le_refl _) _).alloc (by simp) _
  have hs0 : W0.heap.size = w.heap.size + 2 := by rw [hW0]; simp
  have bM : Boxed W0 w.heap.size 45 v2 := by rw [hW0]; exact (Boxed.new w 45 v2).alloc _
  have bR : Boxed W0 (w.heap.size + 1) 4 (.bool false) := by rw [hW0]; have h := Boxed.new (w.alloc (.cells #[v2] 45)) 4 (.bool false); rw [World.size_alloc] at h; exact h
  have A := hid (awake_true W0 (hw.keep hw.lt hB0) (hbl.keep hl1 hB0))
  have OA := hid (hL.keep hB0)
  have ON := hid (hN.keep hB0)
  have NW := hid hN
  have BL := hid (hbl.keep hl1 hB0)
  have BM := hid bM
  have BR := hid bR
  have HB := hid hB0
  have G0 := hid (Good.all hn good_new)
  have HN := hid hn
  have HN2 := hid hnN
  have hl62 : L.length ≤ 4611686018427387904 := by omega
  have hnn0 : 54 + L.length ≤ maxLen := by unfold maxLen; omega
  have hby0 : (54 + L.length) * 32 ≤ 140737488355328 := by omega
  clear hn hL hw hbl hnN hN bM bR hB0
  refine (callsIn_wide (n := 8)).1 ?_
  refine callsIn_of_wp_marks Tryd.func7 rfl trivial ?_ rfl
  simp only [Tryd.ntmps7, List.size_toArray, List.length_cons, List.length_nil, Nat.reduceAdd, Nat.reduceSub, Array.replicate_succ, Array.replicate_zero, List.push_toArray, List.append_toArray, List.nil_append, List.cons_append]
  rw [wpIn_wide]
  have HW0 := hid hW0
  have HV2 := hid hv2
  rw [hv2] at HW0
  clear hW0 hv2
  go_wp2_with (first
    | (go_at_call 9; rw [← HW0.out]; (with_reducible refine A.out.mono ?_); rintro e w1 ⟨rfl, hb1⟩; have B1 := hid hb1; have O1 := hid (OA.out.keep hb1); have N1 := hid (ON.out.keep hb1); have L1 := hid (BL.out.keep (by omega) hb1); clear hb1 A)
    | (go_at_call 25; (with_reducible refine (filled_any _ L _ O1.out HN.out hl62 L1.out).mono ?_); rintro e w2 ⟨rfl, hT2, c2, hb2⟩
       have hb2' := hb2.alloc hb2.size (.cells #[.pointer (some ⟨w1.heap.size + 1, 0, none⟩)] 24); have T2 := hid (hT2.alloc (.cells #[.pointer (some ⟨w1.heap.size + 1, 0, none⟩)] 24)); have C2 := hid (heap_cell_keep ((Below.refl _ _).alloc (Nat.le_refl _) (.cells #[.pointer (some ⟨w1.heap.size + 1, 0, none⟩)] 24)) c2); have O2 := hid (Boxed.new w2 24 (.pointer (some ⟨w1.heap.size + 1, 0, none⟩))); have o2 := O2.out.cell; have B2 := hid (B1.out.trans (hb2'.mono B1.out.size)); have S2 := hid (show w1.heap.size < w2.heap.size from hT2.lt); have S1 := hid B1.out.size; clear hT2 c2 hb2 hb2' O1 L1 B1)
    | (go_at_call 11; (with_reducible refine (copy_any _ _ _ _ _ T2.out C2.out).mono ?_); rintro e w3 ⟨b2, bt2, rfl, hs3, ht3, hne3, hTc, hcc, hb3⟩
       have T3 := hid (T2.out.keep hb3); have C3 := hid (heap_cell_keep hb3 C2.out); have P3 := hid hTc; have PC3 := hid hcc; have O3 := hid (show Boxed w3 w2.heap.size 24 _ from heap_keep3 O2.out hb3); have o3 := O3.out.cell; have B3 := hid (B2.out.trans (hb3.mono B2.out.size)); have HS3 := hid (And.intro hs3 (And.intro ht3 hne3)); have SZ3 := hid hb3.size; clear hTc hcc hb3 hs3 ht3 hne3 T2 C2 O2 o2 B2)
    | (go_at_call 26; (with_reducible refine (all26_told _ _ _ hnn0 hby0 _ G0.out _ C3.out T3.out).mono ?_); rintro e w4 ⟨v1, M, rfl, ⟨hT4, hL4⟩, hr4, hb4⟩; obtain ⟨g1, cap1, rfl, hg1, hg1l, hR1⟩ := row_open hr4 (comma_told G0.out hT4)
       have T4 := hid (T3.out.keep hb4); have C4 := hid (heap_cell_keep hb4 C3.out); have P4 := hid (P3.out.keep hb4); have PC4 := hid (heap_cell_keep hb4 PC3.out); have O4 := hid (show Boxed w4 w2.heap.size 24 _ from heap_keep3 O3.out hb4); have hb4' := ((Below.refl w4.heap.size w4).alloc (Nat.le_refl _) (.cells #[.slice (some ⟨g1, 0, none⟩) M.length cap1] 45)).alloc (by simp) (.cells #[.int .i64 0] 3); have o4 := (show Boxed _ w2.heap.size 24 _ from heap_keep3 O4.out hb4').cell; have R4 := hid hR1; have TL := hid hT4; have hM := hL4; have HG := hid hg1; have SZ4 := hid hb4.size; have LB2 := hid (show b2 < w4.heap.size from P4.out.lt); have LT2 := hid (show bt2 < w4.heap.size by have h := World.block_lt_of_cell? w4 _ PC4.out; simpa using h); have B4 := hid (B3.out.trans (hb4.mono B3.out.size)); clear hT4 hL4 hr4 hb4 hb4' hg1 hR1 T3 C3 P3 PC3 O3 o3 B3)
    | (go_at_call 30; (with_reducible refine (all30_any _ _).mono ?_); rintro e w5 ⟨rfl, rfl⟩))
  obtain ⟨W5, hW5⟩ : ∃ W5, W5 = ((w4.alloc (.cells #[.slice (some ⟨g1, 0, none⟩) M.length cap1] 45)).alloc (.cells #[.int .i64 0] 3)).alloc (.cells #[.pointer (some ⟨w1.heap.size + 1, 0, none⟩)] 24) := ⟨_, rfl⟩
  rw [← hW5]
  have hb5 : Below w4.heap.size w4 W5 := by rw [hW5]; exact (((Below.refl _ _).alloc (Nat.le_refl _) _).alloc (by simp) _).alloc (by simp; omega) _
  have hs5 : W5.heap.size = w4.heap.size + 3 := by rw [hW5]; simp
  have bW := hid (show Boxed W5 w4.heap.size 45 (.slice (some ⟨g1, 0, none⟩) M.length cap1) by rw [hW5]; exact ((Boxed.new w4 45 _).alloc _).alloc _)
  have bK := hid (show Boxed W5 (w4.heap.size + 1) 3 (.int .i64 0) by rw [hW5]; have h := Boxed.new (w4.alloc (.cells #[.slice (some ⟨g1, 0, none⟩) M.length cap1] 45)) 3 (.int .i64 0); rw [World.size_alloc] at h; exact h.alloc _)
  have bN := hid (show Boxed W5 (w4.heap.size + 1 + 1) 24 (.pointer (some ⟨w1.heap.size + 1, 0, none⟩)) by rw [hW5]; have h := Boxed.new ((w4.alloc (.cells #[.slice (some ⟨g1, 0, none⟩) M.length cap1] 45)).alloc (.cells #[.int .i64 0] 3)) 24 (.pointer (some ⟨w1.heap.size + 1, 0, none⟩)); rw [World.size_alloc, World.size_alloc] at h; exact h)
  have bO := hid (show Boxed W5 w2.heap.size 24 (.pointer (some ⟨w1.heap.size + 1, 0, none⟩)) from heap_keep3 O4.out hb5)
  have T5 := hid (T4.out.keep hb5)
  have C5 := hid (heap_cell_keep hb5 C4.out)
  have P5 := hid (P4.out.keep hb5)
  have PC5 := hid (heap_cell_keep hb5 PC4.out)
  have R5 := hid (R4.out.keep hb5)
  have B5 := hid (B4.out.trans (hb5.mono B4.out.size))
  have bM := hid (show Boxed W5 w.heap.size 45 (.slice p2 N.length cap2) from by rw [← HV2.out]; exact (B5.out.block _ (by omega)).trans BM.out)
  have bR := hid (show Boxed W5 (w.heap.size + 1) 4 (.bool false) from (B5.out.block _ (by omega)).trans BR.out)
  have N5 := hid (show ∀ i (h : i < N.length), ∃ bl off, p2 = some ⟨bl, off, none⟩ ∧ bl < w.heap.size ∧ W5.cell? ⟨bl, off + i * 3, none⟩ = some (.string N[i].name) ∧ W5.cell? ⟨bl, off + i * 3 + 1, none⟩ = some (.int .i64 N[i].typ) ∧ W5.cell? ⟨bl, off + i * 3 + 2, none⟩ = some (.int .i64 N[i].pri) from by
    obtain ⟨p, cap, hv, hx⟩ := NW.out
    rw [HV2.out] at hv
    cases hv
    intro i hi
    obtain ⟨bl, off, hp, h0, h1, h2⟩ := hx i hi
    have hbl := World.block_lt_of_cell? w _ h0
    simp at hbl
    have k5 : Below w.heap.size w W5 := HB.out.trans (B5.out.mono HB.out.size)
    exact ⟨bl, off, hp, hbl, heap_cell_keep k5 h0, heap_cell_keep k5 h1, heap_cell_keep k5 h2⟩)
  clear hW5 T4 C4 P4 PC4 R4 B4 O4 o4 BM BR ON OA BL N1
  rw [← wpIn_wide (n := 8)]
  have hP : ∀ k, ¬ Pts W5 (w4.heap.size + 1) k := by
    rintro k ⟨g, o, l, c, h, _⟩
    rw [bK.out.cell] at h
    cases h
  have hbK := S2.out
  have hSZ := SZ3.out
  rw [World.size_alloc] at hSZ
  have hSZ4 := SZ4.out
  have hG1 := HG.out
  have hS1 : w.heap.size + 2 ≤ w1.heap.size := by have := S1.out; omega
  refine wpIn_rangeFunc_ownH rfl (by omega) (gf := 45) (lb := #[.pointer (some ⟨w4.heap.size + 1 + 1, 0, none⟩)]) rfl trivial (enters_of Tryd.func45 (by kernel_rfl) rfl)
    (ops_stops 7 (by omega) (w4.heap.size + 1 + 1) (w1.heap.size + 1) w1.heap.size (54 + L.length) (w4.heap.size + 1) W5.heap.size hnn0 hby0 (afterAll newF L) G0.out W5 (by omega) bN.out.cell C5.out T5.out (by omega) (Nat.le_refl _) hP) leaves_t (leaves_b (by omega)) (Below.refl _ _) (fun _ => rfl)
    (fun pre W => (Held (w4.heap.size + 1) w1.heap.size W5 W ∧ Boxed W (w4.heap.size + 1) 3 (.int .i64 (pre.length : Int))) ∧ (∃ G, Good G ∧ Tab W w1.heap.size (54 + L.length + pre.length) G) ∧ pre <+: M)
    (fun c pre _ => c = .ret ∧ ¬ pre <+: M)
    (OwnFrom.and (OwnFrom.and held_own (Own.from (boxed_own _ _ (fun pre : List Opn => Value.int .i64 (pre.length : Int))) _)) (OwnFrom.and (tab_own (by omega) (fun pre : List Opn => 54 + L.length + pre.length)) (pure_own _)))
    (fun _ => pure_own _)
    ⟨⟨Held.refl _ _ _, bK.out⟩, ⟨_, G0.out, T5.out⟩, List.nil_prefix⟩
    (fun x a' W => ∃ Bx, W5.heap.size ≤ Bx ∧ W.heap[Bx]? = some (.cells #[.string x.name, .int .i64 x.typ, .int .i64 x.pri] 39 (0, 0)) ∧ a' = { tmps := #[v, .slice p2 N.length cap2, undef, .pointer (some ⟨w.heap.size, 0, none⟩), .pointer (some ⟨w.heap.size + 1, 0, none⟩), .bool true, .pointer (some ⟨w2.heap.size, 0, none⟩), .pointer (some ⟨bt2, 0, none⟩), .pointer (some ⟨w4.heap.size, 0, none⟩), .pointer (some ⟨w4.heap.size + 1, 0, none⟩), .pointer (some ⟨Bx, 0, none⟩), undef, undef, .bool true, v, .pointer (some ⟨w1.heap.size + 1, 0, none⟩), .bool true, .bool false, .bool false, .pointer (some ⟨w1.heap.size + 1, 0, none⟩), .bool false, .bool false, .pointer (some ⟨w1.heap.size + 1, 0, none⟩), .pointer (some ⟨bt2, 0, none⟩), .pointer (some ⟨w1.heap.size + 1, 0, none⟩), .slice (some ⟨g1, 0, none⟩) M.length cap1, .pointer (some ⟨w1.heap.size + 1, 0, none⟩), .func (.func 45) #[] #[.pointer (some ⟨w4.heap.size + 1 + 1, 0, none⟩)], x.val, undef, undef, undef, undef, undef, undef, undef, undef, undef, undef, undef, undef, undef, undef, undef, undef, undef, undef, undef, undef, undef, undef, undef, undef, undef, undef, undef, undef, undef, undef, undef, undef, undef, undef, undef, undef, undef, undef, undef, undef, undef, undef, undef, undef, undef, undef, undef, undef, undef, undef, undef, undef, undef, undef, undef, undef, undef, undef, undef, undef, undef, undef, undef, undef, undef], defers := [] })
    (fun x a' _ X Y row hs hg hr => by obtain ⟨Bx, h1, h2, h3⟩ := hs; exact ⟨Bx, h1, block_own (β := Unit) Bx _ rfl () X Y row h2 hg (fun r e => (hr r e).2), h3⟩)
    ?assign ?body ?done ?stop
  case assign =>
    rintro l pre x W K ⟨⟨hH, hv⟩, hT, hpre⟩ hK
    unfold Opn.val at hK ⊢
    gi_wp2_with (rw [Oper.semAt_eq _ _ _ (fun c h => by cases h)]; go_simp; try go_bits)
    have hbA := (Below.refl W.heap.size W).alloc (Nat.le_refl _) (.cells #[.string x.name, .int .i64 x.typ, .int .i64 x.pri] 39)
    obtain ⟨G, g, hT⟩ := hT
    exact hK _ _ ((KeepsOthers.alloc _ _).from _) (leaves_alloc hv.lt _) ⟨⟨hH.trans (Held.of_below hbA), hv.alloc _⟩, ⟨G, g, hT.alloc _⟩, hpre⟩ ⟨W.heap.size, hH.size, World.alloc_heap_new W _, rfl⟩
  case body =>
    rintro l pre x a' W hl ⟨r, hr⟩ ⟨⟨hH, hv⟩, ⟨G, g, hT⟩, hpre⟩ ⟨Bx, hBx, bX, rfl⟩ hlt
    have HH := hid hH
    have HVB := hid hv
    have HT := hid hT
    have HPRE := hid hpre
    have HG := hid g
    have cK := hv.cell
    have fK := hv.frozen
    have cW := (show Boxed W w4.heap.size 45 _ from hH.block bW.out (by omega) (by omega)).cell
    have cM := (show Boxed W w.heap.size 45 _ from hH.block bM.out (by omega) (by omega)).cell
    have cO := (show Boxed W w2.heap.size 24 _ from hH.block bO.out (by omega) (by omega)).cell
    have bR' := (show Boxed W (w.heap.size + 1) 4 _ from hH.block bR.out (by omega) (by omega))
    have cR := bR'.cell
    have fR := bR'.frozen
    obtain ⟨x0, x1, x2, _, _, _⟩ := three_cells bX
    have hkn : pre.length ≤ 54 + L.length := by omega
    clear hH hT hpre g bX hv
    unfold Opn.val
    by_cases hk : pre.length < M.length
    · have m0 := HH.out.cell (R5.out.c0 _ hk) (by omega) (by omega)
      have m1 := HH.out.cell (R5.out.c1 _ hk) (by omega) (by omega)
      have m2 := HH.out.cell (R5.out.c2 _ hk) (by omega) (by omega)
      have hd : decide (M.length ≤ pre.length) = false := decide_eq_false (by omega)
      have NE := neq39 x M[pre.length]
      have GU := guard39
      have HQ := hid (show opEq x M[pre.length] = true → x = M[pre.length] from fun h => of_decide_eq_true h)
      have HQ2 := hid (show opEq x M[pre.length] = false → x ≠ M[pre.length] from fun h => of_decide_eq_false h)
      have HPN := hid (prefix_next HPRE.out hk)
      have HMX := hid (show ∀ h : pre ++ [x] <+: M, x = M[pre.length] from fun h => (prefix_at h).2.symm)
      generalize M[pre.length] = y at *
      generalize opEq x y = q at *
      cases q
      · gi_wp2
        (refine round_quiet (by kernel_rfl) (by kernel_rfl) (by kernel_rfl) ?_
         repeat (go_big_quiet_step (fail))
         refine wpQuiet_nil ?_
         intro _ hw'; obtain ⟨nq, hw''⟩ := hw'; subst hw'')
        gi_wp2_with (rw [Oper.semAt_eq _ _ _ (fun c h => by cases h)]; go_simp; try go_bits)
        exact ⟨(keeps_drewN _ W nq).trans (keeps_set _ _ (by omega)), rfl, fun h => HQ2.out (by simp) (HMX.out h)⟩
      · obtain rfl := HQ.out rfl
        have hkN : pre.length ≤ 4398046511158 := by omega
        by_cases hn2 : pre.length < N.length
        · obtain ⟨bl, off, rfl, hbl, n0, n1, n2⟩ := N5.out _ hn2
          have a0 := HH.out.cell n0 (by omega) (by omega)
          have a1 := HH.out.cell n1 (by omega) (by omega)
          have a2 := HH.out.cell n2 (by omega) (by omega)
          have hsz := HN2.out _ (List.getElem_mem hn2)
          have cC := HH.out.cell C5.out (by omega) (by omega)
          clear n0 n1 n2
          generalize N[pre.length] = u at *
          have ADD := hid (fun (q : Nat) => add_any _ _ _ G u.pri u.typ u.name (W.drewN q).drew (HT.out.keep (below_drewN (Below.refl _ W) q).drew) (show (W.drewN q).drew.cell? ⟨w1.heap.size + 1, 0, none⟩ = some (.map (some w1.heap.size)) from cC) hsz (show 54 + L.length + pre.length < maxLen by unfold maxLen; omega))
          have HS := hid hsz
          clear hsz cC
          gi_wp2
          (refine round_quiet (by kernel_rfl) (by kernel_rfl) (by kernel_rfl) ?_
           repeat (go_big_quiet_step (fail))
           refine wpQuiet_nil ?_
           intro _ hw'; obtain ⟨nq, hw''⟩ := hw'; subst hw'')
          gi_wp2_with (rw [Oper.semAt_eq _ _ _ (fun c h => by cases h)]; go_simp; try go_bits)
          obtain ⟨Wd, hWd⟩ : ∃ Wd, Wd = (W.drewN nq).drew := ⟨_, rfl⟩
          have AD := hid (ADD.out nq)
          rw [← hWd] at AD
          have eK : Wd.cell? ⟨w4.heap.size + 1, 0, none⟩ = some (.int .i64 (pre.length : Int)) := by rw [hWd]; exact cK
          have eM := (show Wd.cell? ⟨w.heap.size, 0, none⟩ = W.cell? ⟨w.heap.size, 0, none⟩ by rw [hWd]; rfl).trans cM
          have eO := (show Wd.cell? ⟨w2.heap.size, 0, none⟩ = W.cell? ⟨w2.heap.size, 0, none⟩ by rw [hWd]; rfl).trans cO
          have b0 := (show Wd.cell? ⟨bl, off + pre.length * 3, none⟩ = W.cell? ⟨bl, off + pre.length * 3, none⟩ by rw [hWd]; rfl).trans a0
          have b1 := (show Wd.cell? ⟨bl, off + pre.length * 3 + 1, none⟩ = W.cell? ⟨bl, off + pre.length * 3 + 1, none⟩ by rw [hWd]; rfl).trans a1
          have b2' := (show Wd.cell? ⟨bl, off + pre.length * 3 + 2, none⟩ = W.cell? ⟨bl, off + pre.length * 3 + 2, none⟩ by rw [hWd]; rfl).trans a2
          refine round_tail 16 Wd hWd (by kernel_rfl) (by kernel_rfl) (by kernel_rfl) ?_
          have HWd := hid hWd
          clear hWd ADD
          simp only [List.take_succ_cons, List.take_zero, List.drop_succ_cons, List.drop_zero]
          repeat still_step
          refine wpStill_nil ?_
          have BD := hid (show Boxed Wd (w4.heap.size + 1) 3 (.int .i64 (pre.length : Int)) by rw [HWd.out]; exact HVB.out)
          gi_wp2_with (first | (refine ⟨trivial, ?_⟩; gi_at_call 14; refine (CallsIn.inRound l (callsIn_wide.2 AD.out)).mono ?_; rintro e w6 ⟨rfl, hT6, hg6⟩; have T6 := hid hT6; have G6 := hid hg6; have B6 := hid (BD.out.kept hg6 (by simp; omega)); have cK6 := B6.out.cell; have fK6 := B6.out.frozen; clear hT6 hg6) | (rw [Oper.semAt_eq _ _ _ (fun c h => by cases h)]; go_simp; try go_bits))
          have H6 : Held (w4.heap.size + 1) w1.heap.size W w6 := (show Held _ _ W Wd by rw [HWd.out]; exact ⟨rfl, rfl, rfl, Nat.le_refl _, fun _ _ _ _ => rfl⟩).trans (Held.of_grown G6.out)
          obtain ⟨z1, z2, z3, z4, z5⟩ := copies_step (k := pre.length) HH.out H6 (by omega) (by omega) (by omega) B6.out T6.out
          exact ⟨z1, z2, ⟨z3, by simp only [List.length_append, List.length_cons, List.length_nil]; exact z4⟩, ⟨_, HG.out.after _ _ HS.out, z5.mono (by simp; omega)⟩, HPN.out⟩
        · gi_wp2
          (refine round_quiet (by kernel_rfl) (by kernel_rfl) (by kernel_rfl) ?_
           repeat (go_big_quiet_step (fail))
           refine wpQuiet_nil ?_
           intro _ hw'; obtain ⟨nq, hw''⟩ := hw'; subst hw'')
          gi_wp2_with (rw [Oper.semAt_eq _ _ _ (fun c h => by cases h)]; go_simp; try go_bits)
          obtain ⟨z1, z2, z3, z4, z5⟩ := copies_step (k := pre.length) HH.out ((Held.refl _ _ W).drewN nq) (by omega) (by omega) (by omega) (show Boxed (W.drewN nq) _ 3 _ from HVB.out) (show Tab (W.drewN nq) _ (54 + L.length + pre.length) G from HT.out.keep (below_drewN (Below.refl _ W) nq))
          exact ⟨z1, z2, ⟨z3, by simp only [List.length_append, List.length_cons, List.length_nil]; exact z4⟩, ⟨G, HG.out, z5.mono (by simp)⟩, HPN.out⟩
    · have hge : M.length ≤ pre.length := by omega
      gi_wp2
      (refine round_quiet (by kernel_rfl) (by kernel_rfl) (by kernel_rfl) ?_
       repeat (go_big_quiet_step (fail))
       refine wpQuiet_nil ?_
       intro _ hw'; obtain ⟨nq, hw''⟩ := hw'; subst hw'')
      gi_wp2_with (rw [Oper.semAt_eq _ _ _ (fun c h => by cases h)]; go_simp; try go_bits)
      exact ⟨(keeps_drewN _ W nq).trans (keeps_set _ _ (by omega)), rfl, fun h => by have := h.length_le; simp at this; omega⟩
  case done =>
    rintro D ys W hD ⟨hTold, hlenY⟩ ⟨⟨hH, hv⟩, ⟨G, g, hT⟩, hpre⟩ hK
    obtain rfl := hTold.one TL.out
    have hb2 := HS3.out.1
    have ht2 := HS3.out.2.1
    rw [World.size_alloc] at hb2 ht2
    have lb2 := LB2.out
    have lt2 := LT2.out
    have cK := hv.cell
    have bW' : Boxed W w4.heap.size 45 (.slice (some ⟨g1, 0, none⟩) ys.length cap1) := hH.block bW.out (by omega) (by omega)
    have cW := bW'.cell
    have bR' : Boxed W (w.heap.size + 1) 4 (.bool false) := hH.block bR.out (by omega) (by omega)
    have TP := hid (show Tab W b2 (54 + L.length) (afterAll newF L) from P5.out.same (hH.same b2 (by omega) (by omega) (by omega)))
    have PCW := hid (hH.cell PC5.out (by omega) (by omega))
    have RW := hid (show RowAt W g1 ys from ⟨fun k hk => hH.cell (R5.out.c0 k hk) (by omega) (by omega), fun k hk => hH.cell (R5.out.c1 k hk) (by omega) (by omega), fun k hk => hH.cell (R5.out.c2 k hk) (by omega) (by omega)⟩)
    have HHB := hid hH
    have HKD := hid hK
    have BW := hid bW'
    have BR := hid bR'
    clear hH hv hT hpre hK bW' bR' hTold g
    go_wp2_with (go_at_call 26; (with_reducible refine (all26_told _ _ _ hnn0 hby0 _ G0.out _ PCW.out TP.out).mono ?_); rintro e w7 ⟨v7, M7, rfl, ⟨hT7, hL7⟩, hr7, hb7⟩; obtain ⟨g7, cap7, rfl, hg7, hg7l, hR7⟩ := row_open hr7 (comma_told G0.out hT7); obtain rfl := hT7.one TL.out; have BW7 := hid (show Boxed w7 w4.heap.size 45 _ from heap_keep3 BW.out hb7); have BR7 := hid (show Boxed w7 (w.heap.size + 1) 4 _ from heap_keep3 BR.out hb7); have RW7 := hid (RW.out.keep hb7); have RP7 := hid hR7; have HK7 := hid (heap_keep3 HKD.out hb7); have cW7 := BW7.out.cell; have HB7 := hid hb7; clear hT7 hL7 hr7 hb7 hg7 hR7 cK cW)
    have HBW := hid (Below.refl w7.heap.size w7)
    have HGG := hid hg7l
    go_loopw [12] (fun i wr => ∃ k : Nat, k ≤ M7.length ∧ i = .int .i64 (k : Int) ∧ Hid (Below w7.heap.size w7 wr)) (fun i _ => M7.length - (intOf i).toNat)
    case atStart => exact ⟨0, by omega, rfl, HBW⟩
    case round =>
      obtain ⟨k, hk, rfl, hBk⟩ := hrel
      have cWk := (show Boxed wr w4.heap.size 45 _ from heap_keep3 BW7.out hBk.out).cell
      by_cases hlt : k < M7.length
      · have x0 := (RP7.out.keep hBk.out).c0 k hlt
        have x1 := (RP7.out.keep hBk.out).c1 k hlt
        have x2 := (RP7.out.keep hBk.out).c2 k hlt
        have y0 := (RW7.out.keep hBk.out).c0 k hlt
        have y1 := (RW7.out.keep hBk.out).c1 k hlt
        have y2 := (RW7.out.keep hBk.out).c2 k hlt
        have NE := neq39 M7[k] M7[k]
        have hself : opEq M7[k] M7[k] = true := decide_eq_true rfl
        rw [hself] at NE
        have GU := guard39
        clear hself
        generalize M7[k] = y at *
        go_wp2
        go_quiet (fail)
        go_wp2
        go_roundw
        case rel => exact ⟨k + 1, by omega, by go_num, hid (below_drewN hBk.out _)⟩
        case measure => simp [intOf]; omega
      · obtain rfl : k = M7.length := by omega
        clear hlt
        have BRk := hid (show Boxed wr (w.heap.size + 1) 4 _ from heap_keep3 BR7.out hBk.out)
        have cR := BRk.out.cell
        have fR := BRk.out.frozen
        have HKk := hid (heap_keep3 HK7.out hBk.out)
        go_wp2
        have hset := grownBy_setCell' wr (w.heap.size + 1) (.bool true)
        have hDb : D ≠ w.heap.size + 1 := by
          rintro rfl
          have h1 := HKk.out
          rw [BRk.out] at h1
          cases h1
        have hKe : (wr.setCell ⟨w.heap.size + 1, 0, none⟩ (.bool true)).heap[D]? = some (.deferred (some [])) := hset.block D (lt_of_block HKk.out) (by simpa using hDb) |>.trans HKk.out
        have cE : ((wr.setCell ⟨w.heap.size + 1, 0, none⟩ (.bool true)).putObj D (.deferred none)).cell? ⟨w.heap.size + 1, 0, none⟩ = some (.bool true) := by
          have h2 := (BRk.out.set (.bool true)).cell
          rw [← h2]
          exact World.cell?_of_block (World.putObj_heap_other (Ne.symm hDb))
        refine ⟨by simp, .inl ⟨_, _, rfl, run_takeDeferred hKe, ?_⟩⟩
        refine ⟨_, results_bool (b := w.heap.size + 1) (q := true) rfl _ _ (by rfl) cE, rfl, ?_⟩
        have h1 : Below w.heap.size w W5 := HB.out.trans (B5.out.mono HB.out.size)
        have h2 : Below w.heap.size W5 W := ⟨HHB.out.os, HHB.out.tape, HHB.out.output, HHB.out.size, fun k hk => HHB.out.same k (by omega) (by omega) (by omega)⟩
        have h3 : Below w.heap.size w7 wr := hBk.out.mono (by have := HB7.out.size; have := HHB.out.size; omega)
        have h4 : Below w.heap.size W w7 := HB7.out.mono (by have := HHB.out.size; omega)
        have h5 := (((h1.trans h2).trans h4).trans h3).grown hset (by have := ((h1.trans h2).trans (h4.trans h3)).size; have := hBk.out.size; have := HB7.out.size; have := HHB.out.size; omega) (fun k e => by cases e; omega)
        exact h5.trans (belowK_b (w := W5) h1.size _ D _ _ hD hKe rfl rfl)
  case stop =>
    rintro D c pre W hD ⟨Lx, hLx, hp⟩ ⟨_, h⟩ _
    exact absurd (hLx.one TL.out ▸ hp) h
end Go.Proofs.YtnbhmgonijlplaaDoor
