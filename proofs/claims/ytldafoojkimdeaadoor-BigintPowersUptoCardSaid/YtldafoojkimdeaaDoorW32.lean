/- Walks: few, same. -/
import Derived.Test.YtldafoojkimdeaaDoorW31
import Derived.Deep.RegionHeld3
import Derived.Deep.AppendSrc
import Derived.Deep.Upon
namespace Go.Proofs.YtldafoojkimdeaaDoor
open Go.RowKit Lm

theorem Tryd.underlying22' : Tryd.prog.underlying 22 = some (.slice 43) := Tryd.underlying22

theorem lims_news {w : World} {b off : Nat} {A : List Nat} {la : Nat} (h : ∀ i, i < la → w.cell? ⟨b, off + i, none⟩ = some (.int .u32 (dg A i : Int))) (m : Nat) (hm : m ≤ la) (hA : A.length = la) :
    ∀ j u, (lims (A.take m))[j]? = some u → w.cell? ((⟨b, off, none⟩ : Addr).add j) = some u := by
  intro j u hu
  have hj : j < m := by
    rcases Nat.lt_or_ge j m with h1 | h1
    · exact h1
    · rw [List.getElem?_eq_none (by rw [lims_len, List.length_take]; omega)] at hu; cases hu
  have hadd : (⟨b, off, none⟩ : Addr).add j = ⟨b, off + j, none⟩ := by unfold Addr.add; split <;> simp_all
  rw [hadd, h j (by omega)]
  rw [lims_get _ _ (by rw [List.length_take]; omega), dg_take _ _ _ hj] at hu
  exact hu
theorem lims_one (L : List Nat) : ∀ u ∈ lims L, u.oneCell' = true := by
  intro u hu
  unfold lims at hu
  obtain ⟨x, _, rfl⟩ := List.mem_map.1 hu
  rfl

/-- An empty slice that is not nil. -/
theorem few_made (w : World) : (w.alloc (.cells #[] 43)).drew.ownsRow w.heap.size 43 1 (.slice (some ⟨w.heap.size, 0, none⟩) 0 0) 0 [] :=
  (World.ownsRow_made (base := w.heap.size) (e := 43) (size := 1) w #[] 0 (by simp) (by unfold maxLen; omega) rfl).drew

theorem grown_put (w : World) (p : Addr) (u : Value) : w.grownBy (w.setCell p u) (some p.block) :=
  ⟨rfl, rfl, rfl, by simp, fun k _ hk => heap_setCell_other w p k u (fun e => hk (by simp [e]))⟩
theorem Grow.set {B : Nat} {w : World} {v : Value} {L : List Nat} (h : Grow B w v L) {p : Addr} (hp : v.ownBlock ≠ some p.block) (u : Value) : Grow B (w.setCell p u) v L :=
  World.ownsRow.kept h (grown_put w p u) (.inr hp)

theorem frozen_new (w : World) (k i : Nat) (h : w.heap.size ≤ k) : w.frozen? ⟨k, i, none⟩ = false := by
  simp [World.frozen?, h]

set_option maxRecDepth 100000 in
set_option maxHeartbeats 1000000 in
theorem few_pos (na : Bool) (b off la ca : Nat) (A : List Nat) (n m : Nat) (w : World) (hA : Rd w (some ⟨b, off, none⟩) la ca A) (hcell : Hid (∀ i, i < la → w.cell? ⟨b, off + i, none⟩ = some (.int .u32 (dg A i : Int)))) (h0 : 0 < m) (hm : m ≤ la) (hn : Hid (min n la = m)) (hb : m ≤ 1000) :
    Calls Tryd.prog 65 #[.agg #[.bool na, .slice (some ⟨b, off, none⟩) la ca], .int .i64 (n : Int)] w fun e w' => ∃ ao' cap', e = .returned (.agg #[.bool na, .slice ao' m cap']) ∧ Rd w' ao' m cap' (A.take m) ∧ Below w.heap.size w w' := by
  obtain ⟨i0, hi, hz0, hz1, hz2⟩ := info_parts Tryd.info43
  have hr := hA.room
  have hbw : b < w.heap.size := World.block_lt_of_cell? w _ (hcell.out 0 (by omega))
  have hmin : min (n : Int) (la : Int) = (m : Int) := by have := hn.out; omega
  have hl0 : (0 : Int) ≤ (m : Int) := by omega
  have hl1 : (m : Int) ≤ (ca : Int) := by omega
  go_enter Tryd.func65, Tryd.ntmps65
  go_wp2_with fail
  have hz : ∃ wz, wz = (w.alloc (.cells #[.bool na, .slice (some ⟨b, off, none⟩) la ca] 24)).alloc (.cells #[.bool false, .slice none 0 0] 24) := ⟨_, rfl⟩
  obtain ⟨wz, hz⟩ := hz
  obtain ⟨z0, z1, zf0, zf1⟩ : wz.cell? ⟨w.heap.size, 0, none⟩ = some (.bool na) ∧ wz.cell? ⟨w.heap.size, 1, none⟩ = some (.slice (some ⟨b, off, none⟩) la ca) ∧ wz.frozen? ⟨w.heap.size, 0, none⟩ = false ∧ wz.frozen? ⟨w.heap.size, 1, none⟩ = false :=
    two_cells (by rw [hz]; exact hpS _ (heap_alloc_new w _))
  obtain ⟨y0, y1, yf0, yf1⟩ : wz.cell? ⟨w.heap.size + 1, 0, none⟩ = some (.bool false) ∧ wz.cell? ⟨w.heap.size + 1, 1, none⟩ = some (.slice none 0 0) ∧ wz.frozen? ⟨w.heap.size + 1, 0, none⟩ = false ∧ wz.frozen? ⟨w.heap.size + 1, 1, none⟩ = false :=
    two_cells (by rw [hz]; have := heap_alloc_new (w.alloc (.cells #[.bool na, .slice (some ⟨b, off, none⟩) la ca] 24)) (.cells #[.bool false, .slice none 0 0] 24); simpa using this)
  have hzb : Below w.heap.size w wz := by rw [hz]; exact ((Below.refl _ _).alloc (Nat.le_refl _) _).alloc (by simp) _
  have hzl : w.heap.size + 1 < wz.heap.size := by rw [hz]; simp
  rw [← hz]
  clear hz
  have hcz := fun i hi => (hzb.cell (p := ⟨b, off + i, none⟩) hbw).trans (hcell.out i hi)
  have hbz : Below wz.heap.size wz (wz.alloc (.cells #[] 43)).drew := ((Below.refl _ wz).alloc (Nat.le_refl _) _).drew
  have HN := hid (lims_news (w := (wz.alloc (.cells #[] 43)).drew) (fun i hi => (hbz.cell (p := ⟨b, off + i, none⟩) (World.block_lt_of_cell? wz _ (hcz i hi))).trans (hcz i hi)) m hm hA.size)
  clear hcz hbz
  have n0 := World.new_ne wz _ z0
  have n1 := World.new_ne wz _ z1
  have n2 := World.new_ne wz _ y0
  have n3 := World.new_ne wz _ y1
  have q0 : (wz.alloc (.cells #[] 43)).frozen? ⟨w.heap.size + 1, 0, none⟩ = false := by rw [World.frozen?_alloc_past _ _ _ hzl]; exact yf0
  have q1 : (wz.alloc (.cells #[] 43)).frozen? ⟨w.heap.size + 1, 1, none⟩ = false := by rw [World.frozen?_alloc_past _ _ _ hzl]; exact yf1
  go_region_held3 (fun w' => w'.cell? ⟨w.heap.size, 0, none⟩ = some (.bool na) ∧ w'.cell? ⟨w.heap.size, 1, none⟩ = some (.slice (some ⟨b, off, none⟩) la ca))
    (first
      | go_keep
      | (go_split_ands
         refine ⟨?_, ?_⟩
         · (rw [hgrow.cell_far _ (by simp; omega) (by simp [Value.ownBlock]; omega)]; assumption)
         · (rw [hgrow.cell_far _ (by simp; omega) (by simp [Value.ownBlock]; omega)]; assumption)))
    ((refine step_append_lies _ (by rfl) _ _ _ (by rfl) wz.heap.size 43 i0 _ 1 4 Tryd.underlying22 hi hz0 hz1 hz2 rfl (by omega) (.slice (some ⟨wz.heap.size, 0, none⟩) 0 0) 0 [] (by rfl) (few_made wz)
        ⟨b, off, none⟩ m ca (lims (A.take m)) (by rfl) (by rw [lims_len, List.length_take, hA.size]; omega) HN.out (lims_one _)
        h0 (by unfold maxLen; omega) (by omega) (by simp) (wz.heap.size + 1) (by simp) ?_; intro gg cap w1 hown1 hgrow hat hlt
      have x0 : w1.cell? ⟨w.heap.size + 1, 0, none⟩ = some (.bool false) := by
        rw [hgrow.cell_far _ (by simp; omega) (by simp [Value.ownBlock]; omega)]; simp [World.cell?_alloc_past _ _ _ hzl, y0]
      have x1 : w1.cell? ⟨w.heap.size + 1, 1, none⟩ = some (.slice none 0 0) := by
        rw [hgrow.cell_far _ (by simp; omega) (by simp [Value.ownBlock]; omega)]; simp [World.cell?_alloc_past _ _ _ hzl, y1]
      have xf0 : w1.frozen? ⟨w.heap.size + 1, 0, none⟩ = false := by
        rw [hgrow.frozen_far _ (by simp; omega) (by simp [Value.ownBlock]; omega)]; simpa using q0
      have xf1 : w1.frozen? ⟨w.heap.size + 1, 1, none⟩ = false := by
        rw [hgrow.frozen_far _ (by simp; omega) (by simp [Value.ownBlock]; omega)]; simpa using q1))
  all_goals
    go_wp2
    refine bodyPost_ret (v := .agg #[.bool na, .slice (some ⟨gg, 0, none⟩) m cap]) (by simp [results, Tryd.results65, go_sem, x0, x1]) rfl ?_
    have hs := hA.size
    have hgg : gg ≠ w.heap.size + 1 := by
      rcases hat with h | h
      · simp [Value.ownBlock] at h; omega
      · omega
    have hG : Grow wz.heap.size w1 (.slice (some ⟨gg, 0, none⟩) m cap) (A.take m) := by
      unfold Grow
      rw [Nat.zero_add, List.nil_append] at hown1
      rw [List.length_take, hs, Nat.min_eq_left hm]; exact hown1
    have hG2 := (hG.set (p := ⟨w.heap.size + 1, 0, none⟩) (by simp [Value.ownBlock]; exact hgg) (.bool na)).set (p := ⟨w.heap.size + 1, 1, none⟩) (by simp [Value.ownBlock]; exact hgg) (.slice (some ⟨gg, 0, none⟩) m cap)
    obtain ⟨ao, cap', e, hrd⟩ := hG2.rd (hA.ok.take m) (by rw [List.length_take]; omega)
    simp only [Value.slice.injEq] at e
    obtain ⟨e1, e2, e3⟩ := e
    subst e1; subst e3
    rw [List.length_take, hs, Nat.min_eq_left hm] at hrd
    refine ⟨_, _, rfl, hrd, ?_⟩
    exact ((hzb.trans ((((Below.refl wz.heap.size wz).alloc (Nat.le_refl _) _).drew.grown hgrow (by simp) (fun k hk => by simp [Value.ownBlock] at hk; omega)).mono hzb.size)).setCell (by simp) _).setCell (by simp) _

/-- Nothing is appended, at a step of a region that draws its order. -/
theorem step_append_zero {ops : Array Oper} {o : Oper} {a : Act} {w : World} {K : Act → World → Prop} {Q : Exit → Act → World → Prop} {E : Prop} (hgd : o.guard = none) (s x : Operand)
    (ho : o.op = .call { callee := .builtin .append, args := #[s, x], argTypes := #[22, 22] }) (ao A : Option Addr) (c : Nat) (hs : a.eval s = .slice ao 0 0) (hx : a.eval x = .slice A 0 c)
    (h : K (a.put o.dst (.slice ao 0 0)) w) : if Region.wanted o (yielded ops a.tmps) = true then Oper.wp Tryd.prog o a w K Q else E := by
  have hw : Region.wanted o (yielded ops a.tmps) = true := by simp [Region.wanted, hgd]
  rw [if_pos hw]
  obtain ⟨i0, hi, hz0, hz1, hz2⟩ := info_parts Tryd.info43
  have hS : Src Tryd.prog i0.size 22 (.slice A 0 c) 0 [] w := by
    cases A with
    | none => exact Src.ofNil w Tryd.underlying22 c
    | some ad => exact Src.ofSlice w Tryd.underlying22 ad 0 c [] (by simp) (by simp) (by simp)
  have hr := run_append_nothing (P := Tryd.prog) w 22 22 o.type 43 i0 Tryd.underlying22 hi ao 0 0 (Nat.le_refl _) _ hS
  unfold Oper.wp execOp
  simp only [ho, resolve, invoke, builtin, Sem.run_bind, Sem.run_pure, Result.andThen_ok, List.map_toArray, List.map_cons, List.map_nil, hs, hx, hr]
  exact h

set_option maxRecDepth 100000 in
set_option maxHeartbeats 1000000 in
theorem few_nil (na : Bool) (aa : Option Addr) (ca : Nat) (n : Nat) (w : World) (hn : n ≤ 1000) :
    Calls Tryd.prog 65 #[.agg #[.bool na, .slice aa 0 ca], .int .i64 (n : Int)] w fun e w' => ∃ ao' cap', e = .returned (.agg #[.bool na, .slice ao' 0 cap']) ∧ Below w.heap.size w w' := by
  obtain ⟨i0, hi, hz0, hz1, hz2⟩ := info_parts Tryd.info43
  have hmin : min (n : Int) 0 = 0 := by omega
  have hl1 : (0 : Int) ≤ (ca : Int) := by omega
  cases aa with
  | none =>
    go_enter Tryd.func65, Tryd.ntmps65
    go_wp2_with fail
    go_region_held3 (fun w' => w'.cell? ⟨w.heap.size, 0, none⟩ = some (.bool na) ∧ w'.cell? ⟨w.heap.size, 1, none⟩ = some (.slice none 0 ca))
      (first
        | go_keep)
      ((refine step_append_zero (by rfl) _ _ (by rfl) _ _ _ (by rfl) (by rfl) ?_))
    all_goals
      go_wp2
      refine bodyPost_ret (v := .agg #[.bool na, .slice (some ⟨w.heap.size + 1 + 1, 0, none⟩) 0 0]) (by simp [results, Tryd.results65, go_sem]) rfl ⟨_, _, rfl, ?_⟩
      exact ((((Below.refl _ _).alloc (Nat.le_refl _) _).alloc (by simp) _).alloc (by simp; omega) _).drew
  | some ad =>
    go_enter Tryd.func65, Tryd.ntmps65
    go_wp2_with fail
    go_region_held3 (fun w' => w'.cell? ⟨w.heap.size, 0, none⟩ = some (.bool na) ∧ w'.cell? ⟨w.heap.size, 1, none⟩ = some (.slice (some ad) 0 ca))
      (first
        | go_keep)
      ((refine step_append_zero (by rfl) _ _ (by rfl) _ _ _ (by rfl) (by rfl) ?_))
    all_goals
      go_wp2
      refine bodyPost_ret (v := .agg #[.bool na, .slice (some ⟨w.heap.size + 1 + 1, 0, none⟩) 0 0]) (by simp [results, Tryd.results65, go_sem]) rfl ⟨_, _, rfl, ?_⟩
      exact ((((Below.refl _ _).alloc (Nat.le_refl _) _).alloc (by simp) _).alloc (by simp; omega) _).drew

/-- Both: so many of the lowest limbs. -/
theorem few_any (na : Bool) (aa : Option Addr) (la ca : Nat) (A : List Nat) (n : Nat) (w : World) (hA : Rd w aa la ca A) (hn0 : 0 < n) (hn : n ≤ 1000) :
    Calls Tryd.prog 65 #[.agg #[.bool na, .slice aa la ca], .int .i64 (n : Int)] w fun e w' => ∃ ao' len' cap', e = .returned (.agg #[.bool na, .slice ao' len' cap']) ∧ Rd w' ao' len' cap' (A.take n) ∧ Below w.heap.size w w' := by
  by_cases h0 : min n la = 0
  · have hl : la = 0 := by omega
    subst hl
    have hA0 : A = [] := List.eq_nil_of_length_eq_zero hA.size
    refine (few_nil na aa ca n w hn).mono ?_
    rintro e w' ⟨ao', cap', rfl, hb⟩
    exact ⟨ao', 0, cap', rfl, by subst hA0; exact ⟨by simp, by simpa using Ok.nil, Nat.zero_le _, by omega, fun h => by omega⟩, hb⟩
  · obtain ⟨b, off, rfl, hcell⟩ := hA.cells (by omega)
    refine (few_pos na b off la ca A n (min n la) w hA hcell (by omega) (by omega) rfl (by omega)).mono ?_
    rintro e w' ⟨ao', cap', rfl, hrd, hb⟩
    refine ⟨ao', _, cap', rfl, ?_, hb⟩
    have e1 : A.take (min n la) = A.take n := by rw [← hA.size, ← List.take_take, List.take_length]
    rw [← e1]; exact hrd
end Go.Proofs.YtldafoojkimdeaaDoor
