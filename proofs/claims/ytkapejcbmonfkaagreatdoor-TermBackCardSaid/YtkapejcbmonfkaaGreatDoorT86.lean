/- A list of binds among a law's arguments, opened: how it lies, each node of its terms within bounds, and its length; a tree likewise with the lengths of its lists of arguments. -/
import Derived.Test.YtkapejcbmonfkaaGreatDoorT67m
import Derived.Test.YtkapejcbmonfkaaGreatDoorT84m
namespace Go.Proofs.YtkapejcbmonfkaaGreatDoor
open Go.ChangeShapes Go.WideShapes Go.ChangeAt Go.RowKit Go.Joins Go.Deep

theorem readsB : Tryz.prog.readableRec 45 = true ∧ 45 < Tryz.prog.types.size := ⟨by kernel_rfl, of_decide_eq_true (by kernel_rfl)⟩
theorem weights_mem_all {H : Type} {P : Program} {e : TypeId} {d : DataW H} {n : Nat} : ∀ {l : List (DataW H)}, d ∈ l → n ∈ d.weights P e → n ∈ DataW.weightsAll P e l
  | [], h, _ => by cases h
  | x :: l, h, hn => by
    unfold DataW.weightsAll
    rcases List.mem_cons.1 h with rfl | h
    · exact List.mem_append_left _ hn
    · exact List.mem_append_right _ (weights_mem_all h hn)
section
variable {H : Type} {enc : TypeId × Value → H} {W : World}

theorem trod_struct6W {P : Program} {base : Nat} {spare : Nat → Bool} {held : Bool} {t : TypeId} {f0 f1 f2 f3 f4 f5 : Field} {fuel : Nat} {cs : List Value} {x : DataW H × List MemPlace} (ht : P.underlying t = some (.struct #[f0, f1, f2, f3, f4, f5])) (h : DataW.trod enc P W base spare held fuel t cs = some x) :
    ∃ y0 y1 y2 y3 y4 y5 n, fuel = n + 1 ∧ cs.length = P.cellsOf t ∧ DataW.trod enc P W base spare held n f0.type ((cs.drop f0.offset).take (P.cellsOf f0.type)) = some y0 ∧
      DataW.trod enc P W base spare held n f1.type ((cs.drop f1.offset).take (P.cellsOf f1.type)) = some y1 ∧ DataW.trod enc P W base spare held n f2.type ((cs.drop f2.offset).take (P.cellsOf f2.type)) = some y2 ∧
      DataW.trod enc P W base spare held n f3.type ((cs.drop f3.offset).take (P.cellsOf f3.type)) = some y3 ∧ DataW.trod enc P W base spare held n f4.type ((cs.drop f4.offset).take (P.cellsOf f4.type)) = some y4 ∧
      DataW.trod enc P W base spare held n f5.type ((cs.drop f5.offset).take (P.cellsOf f5.type)) = some y5 ∧ (∀ k ∈ y5.1.weights P f5.type, k ∈ x.1.weights P t) := by
  obtain ⟨xs, n, hn, rfl, hl, hlen, hf⟩ := DataW.trod_struct ht h
  match xs, hlen with
  | [y0, y1, y2, y3, y4, y5], _ =>
    refine ⟨y0, y1, y2, y3, y4, y5, n, hn, hl, by simpa using hf 0 f0 rfl, by simpa using hf 1 f1 rfl, by simpa using hf 2 f2 rfl, by simpa using hf 3 f3 rfl, by simpa using hf 4 f4 rfl, by simpa using hf 5 f5 rfl, fun k hk => ?_⟩
    unfold DataW.weights
    rw [ht]
    exact DataW.weights_mem_each (j := 5) rfl rfl k hk
theorem trod_struct2W {P : Program} {base : Nat} {spare : Nat → Bool} {held : Bool} {t : TypeId} {f0 f1 : Field} {fuel : Nat} {cs : List Value} {x : DataW H × List MemPlace} (ht : P.underlying t = some (.struct #[f0, f1])) (h : DataW.trod enc P W base spare held fuel t cs = some x) :
    ∃ y0 y1 n, fuel = n + 1 ∧ cs.length = P.cellsOf t ∧ DataW.trod enc P W base spare held n f0.type ((cs.drop f0.offset).take (P.cellsOf f0.type)) = some y0 ∧
      DataW.trod enc P W base spare held n f1.type ((cs.drop f1.offset).take (P.cellsOf f1.type)) = some y1 ∧ (∀ k ∈ y1.1.weights P f1.type, k ∈ x.1.weights P t) := by
  obtain ⟨xs, n, hn, rfl, hl, hlen, hf⟩ := DataW.trod_struct ht h
  match xs, hlen with
  | [y0, y1], _ =>
    refine ⟨y0, y1, n, hn, hl, by simpa using hf 0 f0 rfl, by simpa using hf 1 f1 rfl, fun k hk => ?_⟩
    unfold DataW.weights
    rw [ht]
    exact DataW.weights_mem_each (j := 1) rfl rfl k hk
set_option maxRecDepth 100000 in
theorem open_treeW {base : Nat} {sp : Nat → Bool} {held : Bool} : ∀ (fuel : Nat) (cs : List Value) (x : DataW H × List MemPlace), (∀ n ∈ x.1.weights Tryz.prog 25, n ≤ reachBytes) → DataW.trod enc Tryz.prog W base sp held fuel 25 cs = some x →
    ∃ (t : Tm) (p : Option Addr) (cap : Nat), cs = [.int .i64 t.kind, .string t.name, .string t.num, .int .u64 t.bits, .int .i64 t.var, .slice p t.args.length cap] ∧ TmAt W t p ∧ AllT DomA t ∧ AllT CapOk t := by
  intro fuel
  induction fuel using Nat.strongRecOn with
  | _ fuel ih =>
    intro cs x hwx h
    obtain ⟨y0, y1, y2, y3, y4, y5, n, hn, hl, u0, u1, u2, u3, u4, u5, hw5⟩ := trod_struct6W Tryz.underlying25 h
    replace hw5 := fun k hk => hwx k (hw5 k hk)
    rw [show Tryz.prog.cellsOf 25 = 6 by kernel_rfl] at hl
    match cs, hl with
    | [v0, v1, v2, v3, v4, v5], _ =>
      simp only [show Tryz.prog.cellsOf 9 = 1 by kernel_rfl, show Tryz.prog.cellsOf 3 = 1 by kernel_rfl, show Tryz.prog.cellsOf 22 = 1 by kernel_rfl, show Tryz.prog.cellsOf 23 = 1 by kernel_rfl, List.drop, List.take] at u0 u1 u2 u3 u4 u5
      obtain ⟨kd, e0, -, g0⟩ := DataW.trod_int Tryz.underlying3 u0
      obtain ⟨nm, e1, -, z1⟩ := DataW.trod_string Tryz.underlying9 u1
      obtain ⟨nu, e2, -, z2⟩ := DataW.trod_string Tryz.underlying9 u2
      obtain ⟨bi, e3, -, g3⟩ := DataW.trod_int Tryz.underlying22 u3
      obtain ⟨va, e4, -, g4⟩ := DataW.trod_int Tryz.underlying3 u4
      simp only [List.cons.injEq, and_true] at e0 e1 e2 e3 e4
      subst e0; subst e1; subst e2; subst e3; subst e4
      obtain ⟨hb0, hb1⟩ := wf_u64 g3
      have hdom : ∀ l, DomA (.mk kd nm nu bi va l) := fun l => ⟨by unfold maxLen at z1; exact z1, by unfold maxLen at z2; exact z2, hb0, hb1, g4, g0⟩
      rcases DataW.trod_slice Tryz.underlying23 u5 with ⟨hcs, hx⟩ | ⟨a, len, cap, elems, rest, m, hm, hcs, hx, -, hlc, hcm, hel, hE, -, -⟩
      · simp only [List.cons.injEq, and_true] at hcs
        subst hcs
        refine ⟨.mk kd nm nu bi va [], none, 0, rfl, ?_, ?_, ?_⟩
        · unfold TmAt
          exact ⟨by unfold maxLen; simp, .inl rfl⟩
        · unfold AllT AllR
          exact ⟨hdom _, trivial⟩
        · unfold AllT AllR
          exact ⟨by unfold CapOk; simp [Tm.args], trivial⟩
      · simp only [List.cons.injEq, and_true] at hcs
        subst hcs
        subst hx
        have hwE : ∀ i (h : i < elems.length), ∀ n ∈ elems[i].1.weights Tryz.prog 25, n ≤ reachBytes := fun i h n hn2 => hw5 n (by
          unfold DataW.weights
          rw [Tryz.underlying23]
          refine List.mem_cons_of_mem _ (List.mem_append_left _ ?_)
          exact weights_mem_all (d := elems[i].1) (List.mem_map.2 ⟨_, List.getElem_mem h, rfl⟩) hn2)
        have hlen : len ≤ 1759218604390 := by
          have h9 := hw5 (((elems.map (·.1)).length + (rest.map (·.1)).length) * Tryz.prog.bytesOf 25) (by
            unfold DataW.weights
            rw [Tryz.underlying23]
            exact List.mem_cons_self)
          rw [show Tryz.prog.bytesOf 25 = 80 by kernel_rfl] at h9
          simp only [reachBytes, List.length_map] at h9
          omega
        have each : ∀ i, i < len → ∃ q : Tm × Option Addr × Nat, (∀ j, W.cell? ((a.add (i * 6)).add j) = ([Value.int .i64 q.1.kind, .string q.1.name, .string q.1.num, .int .u64 q.1.bits, .int .i64 q.1.var, .slice q.2.1 q.1.args.length q.2.2] : List Value)[j]? ∨ 6 ≤ j) ∧ TmAt W q.1 q.2.1 ∧ AllT DomA q.1 ∧ AllT CapOk q.1 := by
          intro i hi
          have h1 := hE i hi
          rw [show Tryz.prog.cellsOf 25 = 6 by kernel_rfl] at h1
          rw [List.getElem?_eq_getElem (by omega)] at h1
          obtain ⟨cs', h2, h3⟩ := Option.bind_eq_some_iff.1 h1
          obtain ⟨t, p, c, rfl, h5, h6⟩ := ih m (by omega) cs' _ (hwE i (by omega)) h3
          obtain ⟨_, hl2, hcell⟩ := World.cells?_some h2
          refine ⟨(t, p, c), fun j => ?_, h5, h6⟩
          by_cases hj : j < 6
          · left
            have := hcell j hj
            simpa using this
          · right; omega
        obtain ⟨q, hq⟩ := choose_lt each
        refine ⟨.mk kd nm nu bi va ((List.range len).map fun i => (q i).1), some a, cap, by simp [Tm.kind, Tm.name, Tm.num, Tm.bits, Tm.var, Tm.args], ?_, ?_, ?_⟩
        · unfold TmAt
          refine ⟨by simp; omega, ?_⟩
          by_cases h0 : len = 0
          · left; subst h0; rfl
          · right
            obtain ⟨xb, xo, spot⟩ := a
            have hc0 := (hq 0 (by omega)).1 0
            have hspot : spot = none := by
              rcases hc0 with hc | hc
              · simpa [Addr.add] using World.cell?_spot hc
              · omega
            subst hspot
            refine ⟨xb, xo, rfl, RowT.mk fun k hk => ?_⟩
            have hk' : k < len := by simpa using hk
            obtain ⟨hc, ht, -⟩ := hq k hk'
            refine ⟨(q k).2.1, (q k).2.2, ?_, by simpa using ht⟩
            have c : ∀ j, j < 6 → W.cell? ⟨xb, xo + k * 6 + j, none⟩ = ([Value.int .i64 (q k).1.kind, .string (q k).1.name, .string (q k).1.num, .int .u64 (q k).1.bits, .int .i64 (q k).1.var, .slice (q k).2.1 (q k).1.args.length (q k).2.2] : List Value)[j]? := fun j hj => by
              rcases hc j with h | h
              · rw [← h, Addr.add_lit, Addr.add_lit]
              · omega
            have e : ((List.range len).map fun i => (q i).1)[k] = (q k).1 := by simp
            rw [e]
            exact ⟨(c 0 (by omega)).trans rfl, (c 1 (by omega)).trans rfl, (c 2 (by omega)).trans rfl, (c 3 (by omega)).trans rfl, (c 4 (by omega)).trans rfl, (c 5 (by omega)).trans rfl⟩
        · unfold AllT
          refine ⟨hdom _, AllR.mk fun k hk => ?_⟩
          have hk' : k < len := by simpa using hk
          simpa using (hq k hk').2.2.1
        · unfold AllT
          refine ⟨by unfold CapOk; simpa [Tm.args] using hlen, AllR.mk fun k hk => ?_⟩
          have hk' : k < len := by simpa using hk
          simpa using (hq k hk').2.2.2
set_option maxRecDepth 100000 in
theorem open_binds {v : Value} {d : DataW H} {p : List MemPlace} {sp : Nat → Bool} {held : Bool} {r : Reach} {b0 : Nat} (hval : Value.okWide Tryz.prog W r b0 45 v) (hw : ∀ n ∈ d.weights Tryz.prog 45, n ≤ reachBytes) (h : DataW.Trod enc Tryz.prog W 0 sp held 45 v d p) :
    ∃ (l : List Bnd) (q : Option Addr) (cap : Nat), v = .slice q l.length cap ∧ l.length ≤ cap ∧ l.length ≤ 1599289640354 ∧ BindAt W l q ∧ (∀ k (h : k < l.length), AllT DomA l[k].2) ∧ (∀ k (h : k < l.length), AllT CapOk l[k].2) ∧ (∀ k (h : k < l.length), (Lit.int .i64 l[k].1).wf = true) := by
  obtain ⟨a1, len1, cap1, rfl⟩ := okWide_slice Tryz.underlying45 hval
  obtain ⟨fuel, hf⟩ := h
  rcases DataW.trod_slice Tryz.underlying45 hf with ⟨hcs, hx⟩ | ⟨a, len, cap, elems, rest, m, hm, hcs, hx, -, hlc, hcm, hel, hE, -, -⟩
  · simp [Value.cells] at hcs
    obtain ⟨rfl, rfl, rfl⟩ := hcs
    exact ⟨[], none, 0, rfl, by simp, by simp, fun k hk => by simp at hk, fun k hk => by simp at hk, fun k hk => by simp at hk, fun k hk => by simp at hk⟩
  · simp [Value.cells] at hcs
    obtain ⟨rfl, rfl, rfl⟩ := hcs
    obtain rfl : d = .slice (elems.map (·.1)) (rest.map (·.1)) := (Prod.mk.inj hx).1
    have hwE : ∀ i (h : i < elems.length), ∀ n ∈ elems[i].1.weights Tryz.prog 47, n ≤ reachBytes := fun i h n hn2 => hw n (by
      unfold DataW.weights
      rw [Tryz.underlying45]
      refine List.mem_cons_of_mem _ (List.mem_append_left _ ?_)
      exact weights_mem_all (d := elems[i].1) (List.mem_map.2 ⟨_, List.getElem_mem h, rfl⟩) hn2)
    have hlen : len1 ≤ 1599289640354 := by
      have h9 := hw (((elems.map (·.1)).length + (rest.map (·.1)).length) * Tryz.prog.bytesOf 47) (by
        unfold DataW.weights
        rw [Tryz.underlying45]
        exact List.mem_cons_self)
      rw [show Tryz.prog.bytesOf 47 = 88 by kernel_rfl] at h9
      simp only [reachBytes, List.length_map] at h9
      omega
    have each : ∀ i, i < len1 → ∃ q : Bnd × Option Addr × Nat, (∀ j, W.cell? ((a.add (i * 7)).add j) = ([Value.int .i64 q.1.1, .int .i64 q.1.2.kind, .string q.1.2.name, .string q.1.2.num, .int .u64 q.1.2.bits, .int .i64 q.1.2.var, .slice q.2.1 q.1.2.args.length q.2.2] : List Value)[j]? ∨ 7 ≤ j) ∧ TmAt W q.1.2 q.2.1 ∧ AllT DomA q.1.2 ∧ AllT CapOk q.1.2 ∧ (Lit.int .i64 q.1.1).wf = true := by
      intro i hi
      have h1 := hE i hi
      rw [show Tryz.prog.cellsOf 47 = 7 by kernel_rfl] at h1
      rw [List.getElem?_eq_getElem (by omega)] at h1
      obtain ⟨cs', h2, h3⟩ := Option.bind_eq_some_iff.1 h1
      obtain ⟨y0, y1, n, -, hl7, u0, u1, hw1⟩ := trod_struct2W Tryz.underlying47 h3
      obtain ⟨_, hl2, hcell⟩ := World.cells?_some h2
      rw [show Tryz.prog.cellsOf 47 = 7 by kernel_rfl] at hl7
      match cs', hl7 with
      | [v0, v1, v2, v3, v4, v5, v6], _ =>
        simp only [show Tryz.prog.cellsOf 3 = 1 by kernel_rfl, show Tryz.prog.cellsOf 25 = 6 by kernel_rfl, List.drop, List.take] at u0 u1
        obtain ⟨bv, e0, -, g0⟩ := DataW.trod_int Tryz.underlying3 u0
        simp only [List.cons.injEq, and_true] at e0
        subst e0
        obtain ⟨t, q, c, e1, h5, h6, h7⟩ := open_treeW n _ _ (fun k hk => hwE i (by omega) k (hw1 k hk)) u1
        simp only [List.cons.injEq, and_true] at e1
        obtain ⟨rfl, rfl, rfl, rfl, rfl, rfl⟩ := e1
        refine ⟨((bv, t), q, c), fun j => ?_, h5, h6, h7, g0⟩
        by_cases hj : j < 7
        · left
          have := hcell j hj
          simpa using this
        · right; omega
    obtain ⟨q, hq⟩ := choose_lt each
    refine ⟨(List.range len1).map fun i => (q i).1, some a, cap1, by simp, by simpa using hlc, by simpa using hlen, ?_, ?_, ?_, ?_⟩
    · intro k hk
      have hk' : k < len1 := by simpa using hk
      obtain ⟨hc, ht, -⟩ := hq k hk'
      obtain ⟨xb, xo, spot⟩ := a
      have hspot : spot = none := by
        rcases (hq 0 (by omega)).1 0 with hc0 | hc0
        · simpa [Addr.add] using World.cell?_spot hc0
        · omega
      subst hspot
      have c : ∀ j, j < 7 → W.cell? ⟨xb, xo + k * 7 + j, none⟩ = ([Value.int .i64 (q k).1.1, .int .i64 (q k).1.2.kind, .string (q k).1.2.name, .string (q k).1.2.num, .int .u64 (q k).1.2.bits, .int .i64 (q k).1.2.var, .slice (q k).2.1 (q k).1.2.args.length (q k).2.2] : List Value)[j]? := fun j hj => by
        rcases hc j with h | h
        · rw [← h, Addr.add_lit, Addr.add_lit]
        · omega
      have e : ((List.range len1).map fun i => (q i).1)[k] = (q k).1 := by simp
      rw [e]
      exact ⟨xb, xo, rfl, (q k).2.1, (q k).2.2, (c 0 (by omega)).trans rfl, ⟨(c 1 (by omega)).trans rfl, (c 2 (by omega)).trans rfl, (c 3 (by omega)).trans rfl, (c 4 (by omega)).trans rfl, (c 5 (by omega)).trans rfl, (c 6 (by omega)).trans rfl⟩, ht⟩
    · intro k hk
      have hk' : k < len1 := by simpa using hk
      simpa using (hq k hk').2.2.1
    · intro k hk
      have hk' : k < len1 := by simpa using hk
      simpa using (hq k hk').2.2.2.1
    · intro k hk
      have hk' : k < len1 := by simpa using hk
      simpa using (hq k hk').2.2.2.2
end
end Go.Proofs.YtkapejcbmonfkaaGreatDoor
