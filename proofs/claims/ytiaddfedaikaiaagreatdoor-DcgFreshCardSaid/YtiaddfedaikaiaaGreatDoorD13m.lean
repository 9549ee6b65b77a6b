/- Walks: slices.Grow of nothing; append of a row, be it empty. No condition but those that each theorem names. append of a row that lies somewhere, be it empty, to a row that one owns: plain. No condition but those that each theorem names. Walk: slices.Concat of two rows of terms. No condition but those that the theorem names. Walks: a nonterminal with two lists put to it, or a ball. No condition but those that each theorem names. -/
import Derived.Lib.AppendZerosOnto
import Derived.Laws.OwnMore
import Derived.Test.YtiaddfedaikaiaaGreatDoorD7m
import Derived.LoopN
import Derived.Test.YtiaddfedaikaiaaGreatDoorD8um
namespace Go.Proofs.YtiaddfedaikaiaaGreatDoor
open Go.RowKit

theorem info_term : ∃ i : TypeInfo, Tryz.prog.info? 25 = some i ∧ i.zero = some (.agg #[.int .i64 0, .string ⟨#[]⟩, .string ⟨#[]⟩, .int .u64 0, .int .i64 0, .slice none 0 0]) ∧ i.size = 6 ∧ i.bytes = 80 := info_parts infoTerm
set_option maxRecDepth 100000 in
set_option maxHeartbeats 4000000 in
theorem grow_nil (n : Nat) (w : World) (h0 : 0 < n) (hn : n ≤ 4000) :
    Calls Tryz.prog 159 #[.slice none 0 0, .int .i64 (n : Int)] w fun e w' => ∃ c, e = .returned (.slice (some ⟨w.heap.size, 0, none⟩) 0 c) ∧ w'.ownsRow w.heap.size 25 6 (.slice (some ⟨w.heap.size, 0, none⟩) 0 c) 0 [] ∧ Below w.heap.size w w' := by
  obtain ⟨i0, hi, hz0, hz1, hz2⟩ := info_term
  have hGm := grownCap_le_maxLen w (0 + n) 0 25 (by unfold maxLen; omega)
  have hGn := grownCap_ge w (0 + n) 0 25
  have hrz : ∀ ty, ∃ W1, (Builtin.append_ #[23, 3] ty #[.slice none 0 0, .int .i64 (n : Int)]).run Tryz.prog w = .ok (.slice (some ⟨w.heap.size, 0, none⟩) n (grownCap w (0 + n) 0 25)) W1 ∧ W1.ownsRow w.heap.size 25 6 (.slice (some ⟨w.heap.size, 0, none⟩) 0 (grownCap w (0 + n) 0 25)) 0 [] ∧ Below w.heap.size w W1 := fun ty => by
    have h := Lib.run_append_grow_zeros w 23 3 ty 25 i0 _ .i64 .i64 Tryz.underlying23 Tryz.underlying3 hi hz0 none 0 0 [] (by exact run_firstCells_none w.drew i0.size 0 0 0) n h0 (by omega) (by omega) (by omega) (by rw [hz2]; omega) (by exact growslice_fits (by omega) (by rw [hz2]; omega))
    refine ⟨_, by rw [h, Nat.zero_add], ?_, (Below.refl _ _).drew.alloc (Nat.le_refl _) _⟩
    refine World.ownsRow_made w.drew _ _ (Nat.le_refl _) hGm ?_
    simp only [Array.size_append, size_zeroCells, List.size_toArray, List.length_nil, Value.cells]
    have e0 : grownCap w (0 + n) 0 25 = grownCap w n 0 25 := by rw [Nat.zero_add]
    rw [e0] at hGn ⊢
    simp only [List.length_cons, List.length_nil]
    omega
  obtain ⟨G, hG⟩ : ∃ G, G = grownCap w (0 + n) 0 25 := ⟨_, rfl⟩
  rw [← hG] at hrz hGn hGm
  have HR := hid hrz
  have hG63 : G ≤ 9223372036854775807 := by unfold maxLen at hGm; omega
  have hn0 : ¬ ((n : Int) < 0) := by omega
  have hn1 : (n : Int) > 0 := by omega
  have hn2 : (n : Int) ≤ 4000 := by omega
  clear hG hrz hi hz0 hz1 hz2 hGm
  go_enter Tryz.func159, Tryz.ntmps159
  obtain ⟨W1, hr, hown, hb⟩ := HR.out 23
  have HB := hid hb
  have HO := hid hown
  have HRR := hid hr
  clear hr hown hb
  go_wp2_with (at_builtin; refine Lib.wpList_append_run _ rfl _ _ _ _ rfl _ _ rfl rfl _ _ HRR.out ?_)
  all_goals (go_ret; exact ⟨G, rfl, HO.out, HB.out⟩)
end Go.Proofs.YtiaddfedaikaiaaGreatDoor

namespace Go.Proofs.YtiaddfedaikaiaaGreatDoor
open Go.RowKit

/-- A row's cells lie at a place. -/
def Lies (W : World) (L : Row) (q : Option Addr) : Prop := L = [] ∨ ∃ b o, q = some ⟨b, o, none⟩ ∧ ∀ j u, (flat L)[j]? = some u → W.cell? ⟨b, o + j, none⟩ = some u
theorem Lies.keep {W W' : World} {L : Row} {q : Option Addr} (h : Lies W L q) (hb : Below W.heap.size W W') : Lies W' L q := by
  rcases h with h | ⟨b, o, e, h⟩
  · exact .inl h
  · exact .inr ⟨b, o, e, fun j u hj => heap_cell_keep hb (h j u hj)⟩
theorem add_plain (b o j : Nat) : (⟨b, o, none⟩ : Addr).add j = ⟨b, o + j, none⟩ := by
  unfold Addr.add
  split
  · rename_i h
    subst h
    rfl
  · rfl
theorem app_run (W : World) (B g n c : Nat) (xs : List Value) (hown : W.ownsRow B 25 6 (.slice (some ⟨g, 0, none⟩) n c) n xs) (L : Row) (q : Option Addr) (cl : Nat) (hl : Lies W L q) (hn : n + L.length ≤ 4100) (hB : B ≤ W.heap.size) (ty : TypeId) :
    ∃ g' c' W', (Builtin.append_ #[23, 23] ty #[.slice (some ⟨g, 0, none⟩) n c, .slice q L.length cl]).run Tryz.prog W = .ok (.slice (some ⟨g', 0, none⟩) (n + L.length) c') W' ∧ W'.ownsRow B 25 6 (.slice (some ⟨g', 0, none⟩) (n + L.length) c') (n + L.length) (xs ++ flat L) ∧ W.grownBy W' (some g) := by
  obtain ⟨i0, hi, hz0, hz1, hz2⟩ := info_term
  by_cases hL : L = []
  · subst hL
    refine ⟨g, c, W, ?_, by simpa [flat] using hown, ⟨rfl, rfl, rfl, Nat.le_refl _, fun _ _ _ => rfl⟩⟩
    rcases hown.2 with ⟨h, -⟩ | ⟨g2, cap, cur, h, h2, h3, hnc, h4⟩
    · cases h
    · simp only [Value.slice.injEq] at h
      obtain ⟨h5, -, rfl⟩ := h
      cases q with
      | none => simp [Builtin.append_, run_underlying Tryz.underlying23, sizeOf, typeInfo, hi, Builtin.lenOf, Builtin.firstCells, hnc, storeCells]
      | some a => simp [Builtin.append_, run_underlying Tryz.underlying23, sizeOf, typeInfo, hi, Builtin.lenOf, Builtin.firstCells, hnc, storeCells, loadCells, loadCellsFrom]
  · obtain ⟨b, o, rfl, hc⟩ := hl.resolve_left hL
    have h0 : 0 < L.length := List.length_pos_iff.2 hL
    obtain ⟨g', c', W', hr, h2, h3, h4, _⟩ := run_append_lies (P := Tryz.prog) W 23 ty B 25 i0 (.agg #[.int .i64 0, .string ⟨#[]⟩, .string ⟨#[]⟩, .int .u64 0, .int .i64 0, .slice none 0 0]) 6 80 Tryz.underlying23 hi hz0 hz1 hz2 rfl (by decide) (.slice (some ⟨g, 0, none⟩) n c) n xs hown ⟨b, o, none⟩ L.length cl (flat L) (by rw [flat_length]) (fun j u hj => by have h := hc j u hj; rw [add_plain]; exact h) (flat_one L) h0 (by unfold maxLen; omega) (by omega) hB _ rfl
    exact ⟨g', c', W', hr, h2, h3⟩
end Go.Proofs.YtiaddfedaikaiaaGreatDoor

namespace Go.Proofs.YtiaddfedaikaiaaGreatDoor
open Go.RowKit

set_option maxRecDepth 100000 in
set_option maxHeartbeats 4000000 in
theorem concat_any (L M : Row) (qa qb : Option Addr) (ca cb bb : Nat) (w : World) (h0 : w.cell? ⟨bb, 0, none⟩ = some (.slice qa L.length ca)) (h1 : w.cell? ⟨bb, 1, none⟩ = some (.slice qb M.length cb)) (hl : Lies w L qa) (hm : Lies w M qb) (hp : 0 < L.length + M.length) (hn : L.length + M.length ≤ 4000) :
    Calls Tryz.prog 143 #[.slice (some ⟨bb, 0, none⟩) 2 2] w fun e w' => ∃ g c, e = .returned (.slice (some ⟨g, 0, none⟩) (L.length + M.length) c) ∧ w'.ownsRow w.heap.size 25 6 (.slice (some ⟨g, 0, none⟩) (L.length + M.length) c) (L.length + M.length) (flat L ++ flat M) ∧ Below w.heap.size w w' := by
  have HL := hid hl
  have HM := hid hm
  have AL := hid (fun (W : World) (B g n c : Nat) xs h2 h3 h4 h5 ty => app_run W B g n c xs h2 L qa ca h3 h4 h5 ty)
  have AM := hid (fun (W : World) (B g n c : Nat) xs h2 h3 h4 h5 ty => app_run W B g n c xs h2 M qb cb h3 h4 h5 ty)
  have CG := hid (fun (W : World) => grow_nil (L.length + M.length) W hp hn)
  obtain ⟨fl, hfl⟩ : ∃ fl, fl = flat L := ⟨_, rfl⟩
  obtain ⟨fm, hfm⟩ : ∃ fm, fm = flat M := ⟨_, rfl⟩
  rw [← hfl] at AL
  rw [← hfm] at AM
  rw [← hfl, ← hfm]
  clear hl hm hfl hfm
  generalize L.length = a at *
  generalize M.length = b at *
  have ha : (a : Int) ≤ 4000 := by omega
  have hb : (b : Int) ≤ 4000 := by omega
  have hab : (a : Int) + b ≤ 4000 := by omega
  rw [Int.natCast_add] at CG
  have KA := hid (show ∀ W, Below w.heap.size w W → W.cell? ⟨bb, 0, none⟩ = some (.slice qa a ca) ∧ W.cell? ⟨bb, 1, none⟩ = some (.slice qb b cb) from fun W h => ⟨heap_cell_keep h h0, heap_cell_keep h h1⟩)
  go_enter Tryz.func143, Tryz.ntmps143
  go_wp2
  refine wp_loop_rounds 3 ?_
  rw [rounds_succ]
  go_wp2
  rw [rounds_succ]
  go_wp2
  rw [rounds_succ]
  go_wp2_with (first
    | (go_at_call 159; (with_reducible refine (CG.out _).mono ?_); rintro e w1 ⟨c1, rfl, ho, hb1⟩; have O1 := hid ho; have B1 := hid hb1; clear ho hb1; obtain ⟨k0, k1⟩ := KA.out _ B1.out)
    | fail)
  refine wp_loop_rounds 3 ?_
  rw [rounds_succ]
  obtain ⟨g2, c2, w2, hr, ho, hg⟩ := AL.out w1 w.heap.size w.heap.size 0 c1 [] O1.out (HL.out.keep B1.out) (by omega) B1.out.size 23
  rw [Nat.zero_add, List.nil_append] at ho
  rw [Nat.zero_add] at hr
  have HR2 := hid hr
  have O2 := hid ho
  have B2 := hid (B1.out.grown hg B1.out.size (fun x e => by cases e; exact Nat.le_refl _))
  clear hr ho hg
  go_wp2_with (first
    | (at_builtin; refine Lib.wpList_append_run _ rfl _ _ _ _ rfl _ _ rfl rfl _ _ HR2.out ?_; obtain ⟨k0', k1'⟩ := KA.out _ B2.out)
    | fail)
  rw [rounds_succ]
  obtain ⟨g3, c3, w3, hr, ho, hg⟩ := AM.out w2 w.heap.size g2 a c2 _ O2.out (HM.out.keep B2.out) (by omega) B2.out.size 23
  have HR3 := hid hr
  have O3 := hid ho
  have B3 := hid (B2.out.grown hg B2.out.size (fun x e => by cases e; exact (O2.out.lt g2 rfl).1))
  clear hr ho hg
  go_wp2_with (first
    | (at_builtin; refine Lib.wpList_append_run _ rfl _ _ _ _ rfl _ _ rfl rfl _ _ HR3.out ?_)
    | fail)
  rw [rounds_succ]
  go_wp2
  go_ret
  exact ⟨g3, c3, rfl, O3.out, B3.out⟩
end Go.Proofs.YtiaddfedaikaiaaGreatDoor

namespace Go.Proofs.YtiaddfedaikaiaaGreatDoor
open Go.RowKit

theorem RowT.lies {w : World} : ∀ {l : List Tm} {b o : Nat}, RowT w l b o → ∃ L : Row, L.map (·.1) = l ∧ (∀ j u, (flat L)[j]? = some u → w.cell? ⟨b, o + j, none⟩ = some u) ∧ ∀ x ∈ L, TmAt w x.1 x.2.1
  | [], _, _, _ => ⟨[], rfl, fun j u h => by simp [flat] at h, fun x hx => by cases hx⟩
  | t :: l, b, o, h => by
    unfold RowT at h
    obtain ⟨⟨p, c, hs, ht⟩, h2⟩ := h
    obtain ⟨L, e, h3, h4⟩ := h2.lies
    refine ⟨(t, p, c) :: L, by rw [List.map_cons, e], fun j u hj => ?_, fun x hx => ?_⟩
    · have hf : flat ((t, p, c) :: L) = cellsT (t, p, c) ++ flat L := rfl
      rw [hf] at hj
      by_cases h6 : j < 6
      · rw [List.getElem?_append_left (by simpa [cellsT] using h6)] at hj
        have : j = 0 ∨ j = 1 ∨ j = 2 ∨ j = 3 ∨ j = 4 ∨ j = 5 := by omega
        rcases this with rfl | rfl | rfl | rfl | rfl | rfl
        · obtain rfl : _ = u := Option.some.inj hj
          exact hs.c0
        · obtain rfl : _ = u := Option.some.inj hj
          exact hs.c1
        · obtain rfl : _ = u := Option.some.inj hj
          exact hs.c2
        · obtain rfl : _ = u := Option.some.inj hj
          exact hs.c3
        · obtain rfl : _ = u := Option.some.inj hj
          exact hs.c4
        · obtain rfl : _ = u := Option.some.inj hj
          exact hs.c5
      · rw [List.getElem?_append_right (by simpa [cellsT] using h6)] at hj
        have h7 := h3 (j - 6) u (by simpa [cellsT] using hj)
        rwa [show o + 6 + (j - 6) = o + j by omega] at h7
    · rcases List.mem_cons.1 hx with rfl | hx
      · exact ht
      · exact h4 x hx
theorem TmAt.lies {w : World} {t : Tm} {p : Option Addr} (h : TmAt w t p) : ∃ L : Row, L.map (·.1) = t.args ∧ Lies w L p ∧ ∀ x ∈ L, TmAt w x.1 x.2.1 := by
  cases t with
  | mk k n u b v l =>
    unfold TmAt at h
    rcases h.2 with h2 | ⟨b', o, e, h2⟩
    · exact ⟨[], by show ([] : List Tm) = l; rw [h2], .inl rfl, fun x hx => by cases hx⟩
    · obtain ⟨L, e1, h3, h4⟩ := h2.lies
      exact ⟨L, e1, .inr ⟨b', o, e, h3⟩, h4⟩
theorem flat_append (L M : Row) : flat (L ++ M) = flat L ++ flat M := by unfold flat; rw [List.flatMap_append]
/-- A compound of a row that one owns. -/
theorem own_built {w : World} {B g c n : Nat} (s : ByteArray) (L : Row) (h : w.ownsRow B 25 6 (.slice (some ⟨g, 0, none⟩) n c) n (flat L)) (hl : L.length ≤ 9223372036854775807) (hT : ∀ x ∈ L, TmAt w x.1 x.2.1) : TmAt w (cT s (L.map (·.1))) (some ⟨g, 0, none⟩) := by
  unfold cT TmAt
  refine ⟨by rw [List.length_map]; unfold maxLen; exact hl, .inr ⟨g, 0, rfl, RowT.of_flat L 0 (fun j u hj => ?_) hT⟩⟩
  have h2 := h.cells (g := g) rfl j u hj
  rwa [add_plain] at h2
set_option maxRecDepth 100000 in
set_option maxHeartbeats 8000000 in
theorem between_ok (t f e : Tm) (p pf pe : Option Addr) (c cf ce : Nat) (w : World) (hT : TmAt w t p) (hF : TmAt w f pf) (hE : TmAt w e pe) (hg : Good t) (hgf : Good f) (hge : Good e) (hi : t.args.length + 2 ≤ 64) :
    Calls Tryz.prog 110 #[t.val p c, f.val pf cf, e.val pe ce] w fun x w' => ∃ q c', x = .returned ((cT t.name (t.args ++ [f, e])).val q c') ∧ TmAt w' (cT t.name (t.args ++ [f, e])) q ∧ Below w.heap.size w w' := by
  obtain ⟨W0, hW0⟩ : ∃ W0, W0 = (((w.alloc (tobj t p c)).alloc (tobj f pf cf)).alloc (tobj e pe ce)).alloc (.cells #[.int .i64 0, .string ⟨#[]⟩, .string ⟨#[]⟩, .int .u64 0, .int .i64 0, .slice none 0 0] 25) := ⟨_, rfl⟩
  have hs0 : W0.heap.size = w.heap.size + 4 := by rw [hW0]; simp
  have B0 := hid (show Below w.heap.size w W0 by rw [hW0]; exact ((((Below.refl w.heap.size w).alloc (Nat.le_refl _) _).alloc (by simp) _).alloc (by simp <;> omega) _).alloc (by simp <;> omega) _)
  have e0 := hid (show W0.heap[w.heap.size]? = some (tobj t p c) by rw [hW0]; exact (heap_alloc_old (((w.alloc _).alloc _).alloc _) _ (by simp <;> omega)).trans ((heap_alloc_old ((w.alloc _).alloc _) _ (by simp <;> omega)).trans ((heap_alloc_old (w.alloc _) _ (by simp)).trans (heap_alloc_new w _))))
  have e1 := hid (show W0.heap[w.heap.size + 1]? = some (tobj f pf cf) by rw [hW0]; exact (heap_alloc_old (((w.alloc _).alloc _).alloc _) _ (by simp <;> omega)).trans ((heap_alloc_old ((w.alloc _).alloc _) _ (by simp)).trans (by have h := heap_alloc_new (w.alloc (tobj t p c)) (tobj f pf cf); rwa [World.size_alloc] at h)))
  have e2 := hid (show W0.heap[w.heap.size + 1 + 1]? = some (tobj e pe ce) by rw [hW0]; exact (heap_alloc_old (((w.alloc _).alloc _).alloc _) _ (by simp)).trans (by have h := heap_alloc_new ((w.alloc (tobj t p c)).alloc (tobj f pf cf)) (tobj e pe ce); rwa [World.size_alloc, World.size_alloc] at h))
  have R0 := hid (show W0.heap[w.heap.size + 1 + 1 + 1]? = some (.cells #[.int .i64 0, .string ⟨#[]⟩, .string ⟨#[]⟩, .int .u64 0, .int .i64 0, .slice none 0 0] 25 (0, 0)) by rw [hW0]; have h := heap_alloc_new (((w.alloc (tobj t p c)).alloc (tobj f pf cf)).alloc (tobj e pe ce)) (.cells #[.int .i64 0, .string ⟨#[]⟩, .string ⟨#[]⟩, .int .u64 0, .int .i64 0, .slice none 0 0] 25); rw [World.size_alloc, World.size_alloc, World.size_alloc] at h; exact h)
  obtain ⟨r, hr⟩ : ∃ r, r = cT t.name (t.args ++ [f, e]) := ⟨_, rfl⟩
  have hra : r.args.length = t.args.length + 2 := by rw [hr]; unfold cT; simp [Tm.args]
  have hfew := hg.few
  obtain ⟨L, hL, hLies, hLT⟩ := hT.lies
  have hLl : L.length = t.args.length := by rw [← hL, List.length_map]
  obtain ⟨W1, hW1⟩ : ∃ W1, W1 = (W0.alloc (.cells #[.int .i64 f.kind, .string f.name, .string f.num, .int .u64 f.bits, .int .i64 f.var, .slice pf f.args.length cf, .int .i64 e.kind, .string e.name, .string e.num, .int .u64 e.bits, .int .i64 e.var, .slice pe e.args.length ce] 25)).alloc (.cells #[.slice p t.args.length c, .slice (some ⟨W0.heap.size, 0, none⟩) 2 2] 23) := ⟨_, rfl⟩
  have D1 := hid (show Below W0.heap.size W0 W1 by rw [hW1]; exact ((Below.refl _ _).alloc (Nat.le_refl _) _).alloc (by simp) _)
  have B1 := hid (B0.out.trans (D1.out.mono B0.out.size))
  have CC := hid (show Calls Tryz.prog 143 #[.slice (some ⟨W0.heap.size + 1, 0, none⟩) 2 2] W1 fun x w' => ∃ g c', x = .returned (.slice (some ⟨g, 0, none⟩) r.args.length c') ∧ TmAt w' r (some ⟨g, 0, none⟩) ∧ Below W1.heap.size W1 w' from by
    have hb1 : W1.heap[W0.heap.size]? = some (.cells #[.int .i64 f.kind, .string f.name, .string f.num, .int .u64 f.bits, .int .i64 f.var, .slice pf f.args.length cf, .int .i64 e.kind, .string e.name, .string e.num, .int .u64 e.bits, .int .i64 e.var, .slice pe e.args.length ce] 25 (0, 0)) := by rw [hW1]; exact (heap_alloc_old (W0.alloc _) _ (by simp)).trans (heap_alloc_new W0 _)
    have hb2 : W1.heap[W0.heap.size + 1]? = some (.cells #[.slice p t.args.length c, .slice (some ⟨W0.heap.size, 0, none⟩) 2 2] 23 (0, 0)) := by rw [hW1]; have h := heap_alloc_new (W0.alloc (.cells #[.int .i64 f.kind, .string f.name, .string f.num, .int .u64 f.bits, .int .i64 f.var, .slice pf f.args.length cf, .int .i64 e.kind, .string e.name, .string e.num, .int .u64 e.bits, .int .i64 e.var, .slice pe e.args.length ce] 25)) (.cells #[.slice p t.args.length c, .slice (some ⟨W0.heap.size, 0, none⟩) 2 2] 23); rwa [World.size_alloc] at h
    have hc := concat_any L [(f, pf, cf), (e, pe, ce)] p (some ⟨W0.heap.size, 0, none⟩) c 2 (W0.heap.size + 1) W1 (by rw [hLl]; exact (cells_of hb2 0).trans rfl) ((cells_of hb2 1).trans rfl) (hLies.keep B1.out) (.inr ⟨W0.heap.size, 0, rfl, fun j u hj => by rw [cells_of hb1, Nat.zero_add]; simpa [flat, cellsT] using hj⟩) (by simp) (by simp only [List.length_cons, List.length_nil]; omega)
    refine hc.mono fun x w' ⟨g, c', h1, h2, h3⟩ => ?_
    have hlen : L.length + [(f, pf, cf), (e, pe, ce)].length = r.args.length := by rw [hra, hLl]; rfl
    refine ⟨g, c', by rw [h1, hlen], ?_, h3⟩
    have h4 := own_built t.name (L ++ [(f, pf, cf), (e, pe, ce)]) (by rw [flat_append]; exact h2) (by rw [List.length_append]; simp only [List.length_cons, List.length_nil]; omega) (fun y hy => by
      have hb := B1.out.trans (h3.mono B1.out.size)
      rcases List.mem_append.1 hy with hy | hy
      · exact (hLT y hy).keep hb
      · simp at hy
        rcases hy with rfl | rfl
        · exact hF.keep hb
        · exact hE.keep hb)
    rw [List.map_append, hL] at h4
    rw [hr]
    exact h4)
  have CO := hid (show ∀ W q c', Calls Tryz.prog 109 #[.string t.name, .slice q r.args.length c'] W fun x w' => x = .returned (.agg #[.int .i64 r.kind, .string r.name, .string r.num, .int .u64 r.bits, .int .i64 r.var, .slice q r.args.length c']) ∧ Below W.heap.size W w' from fun W q c' => by rw [hr]; exact of_any t.name (t.args ++ [f, e]) q c' W)
  have GR := hid (show Good r from betT_good hg hgf hge (by unfold betT; rw [if_pos hi, hr]))
  have hm : ¬ ((r.args.length : Int) > 64) := by omega
  rw [← hr]
  unfold tobj at hW0
  unfold Tm.val
  clear hT hF hE hg hi hr hra hfew hL hLies hLT hLl hgf hge
  go_enter Tryz.func110, Tryz.ntmps110
  go_upto_region 1 with fail
  rw [← hW0]
  clear hW0
  obtain ⟨a0, a1, a2, a3, a4, a5⟩ := six_of e0.out
  obtain ⟨b0, b1, b2, b3, b4, b5⟩ := six_of e1.out
  obtain ⟨d0, d1, d2, d3, d4, d5⟩ := six_of e2.out
  have hs := hid hs0
  clear hs0
  go_wp2_with (first
    | (go_at_call 143; rw [← hW1]; (with_reducible refine CC.out.mono ?_); rintro x w2 ⟨g, c2, rfl, ht, hb2⟩; have D2 := hid (D1.out.trans (hb2.mono D1.out.size)); have B2 := hid (B0.out.trans (D2.out.mono B0.out.size)); have T2 := hid ht; have E2 := hid (obj_keep e0.out D2.out); have R2 := hid (obj_keep R0.out D2.out); clear hb2 ht hW1; obtain ⟨s0, s1, s2, s3, s4, s5⟩ := six_of E2.out)
    | (go_at_call 109; (with_reducible refine (CO.out _ _ _).mono ?_); rintro x w4 ⟨rfl, hb4⟩; have B4 := hid (B2.out.trans (hb4.mono B2.out.size)); have R4 := hid (obj_keep R2.out hb4); have M4 := hid (T2.out.keep hb4); clear hb4; obtain ⟨⟨z0, z1, z2, z3, z4, z5⟩, ⟨f0, f1, f2, f3, f4, f5⟩⟩ := six_free R4.out)
    | fail)
  have hgr := set6_grown w4 (w.heap.size + 1 + 1 + 1) (.int .i64 r.kind) (.string r.name) (.string r.num) (.int .u64 r.bits) (.int .i64 r.var) (.slice (some ⟨g, 0, none⟩) r.args.length c2)
  have hbw := set6_below B4.out (show w.heap.size ≤ w.heap.size + 1 + 1 + 1 by omega) (.int .i64 r.kind) (.string r.name) (.string r.num) (.int .u64 r.bits) (.int .i64 r.var) (.slice (some ⟨g, 0, none⟩) r.args.length c2)
  have hm' := TmAt.past (b := w.heap.size + 1 + 1 + 1) (t := r) (p := some ⟨g, 0, none⟩) (show Blank w4 (w.heap.size + 1 + 1 + 1) from R4.out) (Past.grown hgr) GR.out M4.out
  exact bodyPost_ret (results_tm rfl _ _ (w.heap.size + 1 + 1 + 1) r (some ⟨g, 0, none⟩) c2 (by rfl) (set6 R4.out _ _ _ _ _ _)) rfl ⟨some ⟨g, 0, none⟩, c2, rfl, hm', hbw⟩
set_option maxRecDepth 100000 in
set_option maxHeartbeats 8000000 in
theorem between_bad (t f e : Tm) (p pf pe : Option Addr) (c cf ce : Nat) (w : World) (hT : TmAt w t p) (hF : TmAt w f pf) (hE : TmAt w e pe) (hg : Good t) (hi : ¬ t.args.length + 2 ≤ 64) :
    Calls Tryz.prog 110 #[t.val p c, f.val pf cf, e.val pe ce] w fun x w' => ∃ k, x = .panicked [{ v := .iface 105 (.pointer (some ⟨k, 0, none⟩)), recovered := false }] ∧ BallAt w' k bArity ∧ Below w.heap.size w w' := by
  obtain ⟨W0, hW0⟩ : ∃ W0, W0 = (((w.alloc (tobj t p c)).alloc (tobj f pf cf)).alloc (tobj e pe ce)).alloc (.cells #[.int .i64 0, .string ⟨#[]⟩, .string ⟨#[]⟩, .int .u64 0, .int .i64 0, .slice none 0 0] 25) := ⟨_, rfl⟩
  have hs0 : W0.heap.size = w.heap.size + 4 := by rw [hW0]; simp
  have B0 := hid (show Below w.heap.size w W0 by rw [hW0]; exact ((((Below.refl w.heap.size w).alloc (Nat.le_refl _) _).alloc (by simp) _).alloc (by simp <;> omega) _).alloc (by simp <;> omega) _)
  have e0 := hid (show W0.heap[w.heap.size]? = some (tobj t p c) by rw [hW0]; exact (heap_alloc_old (((w.alloc _).alloc _).alloc _) _ (by simp <;> omega)).trans ((heap_alloc_old ((w.alloc _).alloc _) _ (by simp <;> omega)).trans ((heap_alloc_old (w.alloc _) _ (by simp)).trans (heap_alloc_new w _))))
  have e1 := hid (show W0.heap[w.heap.size + 1]? = some (tobj f pf cf) by rw [hW0]; exact (heap_alloc_old (((w.alloc _).alloc _).alloc _) _ (by simp <;> omega)).trans ((heap_alloc_old ((w.alloc _).alloc _) _ (by simp)).trans (by have h := heap_alloc_new (w.alloc (tobj t p c)) (tobj f pf cf); rwa [World.size_alloc] at h)))
  have e2 := hid (show W0.heap[w.heap.size + 1 + 1]? = some (tobj e pe ce) by rw [hW0]; exact (heap_alloc_old (((w.alloc _).alloc _).alloc _) _ (by simp)).trans (by have h := heap_alloc_new ((w.alloc (tobj t p c)).alloc (tobj f pf cf)) (tobj e pe ce); rwa [World.size_alloc, World.size_alloc] at h))
  have R0 := hid (show W0.heap[w.heap.size + 1 + 1 + 1]? = some (.cells #[.int .i64 0, .string ⟨#[]⟩, .string ⟨#[]⟩, .int .u64 0, .int .i64 0, .slice none 0 0] 25 (0, 0)) by rw [hW0]; have h := heap_alloc_new (((w.alloc (tobj t p c)).alloc (tobj f pf cf)).alloc (tobj e pe ce)) (.cells #[.int .i64 0, .string ⟨#[]⟩, .string ⟨#[]⟩, .int .u64 0, .int .i64 0, .slice none 0 0] 25); rw [World.size_alloc, World.size_alloc, World.size_alloc] at h; exact h)
  obtain ⟨r, hr⟩ : ∃ r, r = cT t.name (t.args ++ [f, e]) := ⟨_, rfl⟩
  have hra : r.args.length = t.args.length + 2 := by rw [hr]; unfold cT; simp [Tm.args]
  have hfew := hg.few
  obtain ⟨L, hL, hLies, hLT⟩ := hT.lies
  have hLl : L.length = t.args.length := by rw [← hL, List.length_map]
  obtain ⟨W1, hW1⟩ : ∃ W1, W1 = (W0.alloc (.cells #[.int .i64 f.kind, .string f.name, .string f.num, .int .u64 f.bits, .int .i64 f.var, .slice pf f.args.length cf, .int .i64 e.kind, .string e.name, .string e.num, .int .u64 e.bits, .int .i64 e.var, .slice pe e.args.length ce] 25)).alloc (.cells #[.slice p t.args.length c, .slice (some ⟨W0.heap.size, 0, none⟩) 2 2] 23) := ⟨_, rfl⟩
  have D1 := hid (show Below W0.heap.size W0 W1 by rw [hW1]; exact ((Below.refl _ _).alloc (Nat.le_refl _) _).alloc (by simp) _)
  have B1 := hid (B0.out.trans (D1.out.mono B0.out.size))
  have CC := hid (show Calls Tryz.prog 143 #[.slice (some ⟨W0.heap.size + 1, 0, none⟩) 2 2] W1 fun x w' => ∃ g c', x = .returned (.slice (some ⟨g, 0, none⟩) r.args.length c') ∧ TmAt w' r (some ⟨g, 0, none⟩) ∧ Below W1.heap.size W1 w' from by
    have hb1 : W1.heap[W0.heap.size]? = some (.cells #[.int .i64 f.kind, .string f.name, .string f.num, .int .u64 f.bits, .int .i64 f.var, .slice pf f.args.length cf, .int .i64 e.kind, .string e.name, .string e.num, .int .u64 e.bits, .int .i64 e.var, .slice pe e.args.length ce] 25 (0, 0)) := by rw [hW1]; exact (heap_alloc_old (W0.alloc _) _ (by simp)).trans (heap_alloc_new W0 _)
    have hb2 : W1.heap[W0.heap.size + 1]? = some (.cells #[.slice p t.args.length c, .slice (some ⟨W0.heap.size, 0, none⟩) 2 2] 23 (0, 0)) := by rw [hW1]; have h := heap_alloc_new (W0.alloc (.cells #[.int .i64 f.kind, .string f.name, .string f.num, .int .u64 f.bits, .int .i64 f.var, .slice pf f.args.length cf, .int .i64 e.kind, .string e.name, .string e.num, .int .u64 e.bits, .int .i64 e.var, .slice pe e.args.length ce] 25)) (.cells #[.slice p t.args.length c, .slice (some ⟨W0.heap.size, 0, none⟩) 2 2] 23); rwa [World.size_alloc] at h
    have hc := concat_any L [(f, pf, cf), (e, pe, ce)] p (some ⟨W0.heap.size, 0, none⟩) c 2 (W0.heap.size + 1) W1 (by rw [hLl]; exact (cells_of hb2 0).trans rfl) ((cells_of hb2 1).trans rfl) (hLies.keep B1.out) (.inr ⟨W0.heap.size, 0, rfl, fun j u hj => by rw [cells_of hb1, Nat.zero_add]; simpa [flat, cellsT] using hj⟩) (by simp) (by simp only [List.length_cons, List.length_nil]; omega)
    refine hc.mono fun x w' ⟨g, c', h1, h2, h3⟩ => ?_
    have hlen : L.length + [(f, pf, cf), (e, pe, ce)].length = r.args.length := by rw [hra, hLl]; rfl
    refine ⟨g, c', by rw [h1, hlen], ?_, h3⟩
    have h4 := own_built t.name (L ++ [(f, pf, cf), (e, pe, ce)]) (by rw [flat_append]; exact h2) (by rw [List.length_append]; simp only [List.length_cons, List.length_nil]; omega) (fun y hy => by
      have hb := B1.out.trans (h3.mono B1.out.size)
      rcases List.mem_append.1 hy with hy | hy
      · exact (hLT y hy).keep hb
      · simp at hy
        rcases hy with rfl | rfl
        · exact hF.keep hb
        · exact hE.keep hb)
    rw [List.map_append, hL] at h4
    rw [hr]
    exact h4)
  have CP := hid (fun W => represent_any ⟨#[109, 97, 120, 95, 97, 114, 105, 116, 121]⟩ W)
  have hm : (r.args.length : Int) > 64 := by omega
  unfold tobj at hW0
  unfold Tm.val
  clear hT hF hE hg hi hr hra hfew hL hLies hLT hLl
  go_enter Tryz.func110, Tryz.ntmps110
  go_upto_region 1 with fail
  rw [← hW0]
  clear hW0
  obtain ⟨a0, a1, a2, a3, a4, a5⟩ := six_of e0.out
  obtain ⟨b0, b1, b2, b3, b4, b5⟩ := six_of e1.out
  obtain ⟨d0, d1, d2, d3, d4, d5⟩ := six_of e2.out
  have hs := hid hs0
  clear hs0
  go_wp2_with (first
    | (go_at_call 143; rw [← hW1]; (with_reducible refine CC.out.mono ?_); rintro x w2 ⟨g, c2, rfl, ht, hb2⟩; have D2 := hid (D1.out.trans (hb2.mono D1.out.size)); have B2 := hid (B0.out.trans (D2.out.mono B0.out.size)); have T2 := hid ht; have E2 := hid (obj_keep e0.out D2.out); have R2 := hid (obj_keep R0.out D2.out); clear hb2 ht hW1; obtain ⟨s0, s1, s2, s3, s4, s5⟩ := six_of E2.out)
    | (go_at_call 144; (with_reducible refine (CP.out _).mono ?_); rintro x w5 ⟨k, rfl, hk, hb5⟩; have K5 := hid hk; have B5 := hid (B2.out.trans (hb5.mono B2.out.size)); clear hb5 hk)
    | fail)
  exact ⟨rfl, k, rfl, K5.out, B5.out⟩
end Go.Proofs.YtiaddfedaikaiaaGreatDoor
