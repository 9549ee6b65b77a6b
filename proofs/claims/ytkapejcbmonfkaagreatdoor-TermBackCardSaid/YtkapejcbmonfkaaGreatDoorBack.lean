/- For every input the law TermBack answers true and leaves its arguments alone: no condition on the arguments; the package-level tables that its row lists are tied to the program's text by the given tie. -/
import Derived.Test.YtkapejcbmonfkaaGreatDoorT112m
import Derived.Test.YtkapejcbmonfkaaGreatDoorT82m
import Derived.Deep.DeepWitnessRowRef
import Derived.Test.YtkapejcbmonfkaaGreatDoorT86
namespace Go.Proofs.YtkapejcbmonfkaaGreatDoor
open Go.RowKit

theorem rowErr_of {l : List Tm} (h : ∀ t ∈ l, treeErr vName numOk bitsOk t = 0) : rowErr vName numOk bitsOk l = 0 := by
  induction l with
  | nil => rfl
  | cons u l ih =>
    unfold rowErr
    rw [if_pos (h u (by simp))]
    exact ih fun t ht => h t (by simp [ht])
theorem nodeErr_maps (k : Int) (n u : ByteArray) (b v : Int) (l : List Tm) (f : Tm → Tm) : nodeErr vName numOk bitsOk (.mk k n u b v (l.map f)) = nodeErr vName numOk bitsOk (.mk k n u b v l) := by
  have hf : ∀ a c : Tm, a.kind = c.kind → a.name = c.name → a.num = c.num → a.bits = c.bits → a.var = c.var → a.args.length = c.args.length → fieldsOk a = fieldsOk c := by
    intro a c h1 h2 h3 h4 h5 h6
    unfold fieldsOk
    rw [h1, h2, h3, h4, h5, h6]
  unfold nodeErr
  rw [hf (.mk k n u b v (l.map f)) (.mk k n u b v l) rfl rfl rfl rfl rfl (List.length_map _)]
  rfl
theorem Good.leaf1 {t : Tm} (h : Good t) (h1 : t.kind = 1) : t = leaf 1 ⟨#[]⟩ ⟨#[]⟩ t.var := by
  have o := h.ok
  have a1 : t.name = ⟨#[]⟩ := by
    rcases o.name with h | h | h
    · omega
    · omega
    · exact h
  have a2 : t.num = ⟨#[]⟩ := o.num.resolve_left (by omega)
  have a3 : t.bits = 0 := o.bits.resolve_left (by omega)
  have a4 : t.args = [] := o.args.resolve_left (by omega)
  cases t
  simp only [Tm.kind, Tm.name, Tm.num, Tm.bits, Tm.args, Tm.var] at *
  subst h1 a1 a2 a3 a4
  rfl
theorem Good.var0 {t : Tm} (h : Good t) : 0 ≤ t.var := by
  have hn := h.node
  unfold nodeErr at hn
  have hf : fieldsOk t = true := by
    cases e : fieldsOk t with
    | true => rfl
    | false => rw [e] at hn; simp at hn
  unfold fieldsOk at hf
  simp only [Bool.and_eq_true, decide_eq_true_eq] at hf
  exact hf.1.2
theorem leafV_good {v : Int} (h0 : 0 ≤ v) (hw : (Lit.int .i64 v).wf = true) : Good (leaf 1 ⟨#[]⟩ ⟨#[]⟩ v) := by
  have hs : (⟨#[]⟩ : ByteArray).size = 0 := rfl
  refine ⟨?_, ?_⟩
  · unfold leaf AllT AllR
    exact ⟨⟨by simp [Tm.name, hs], by simp [Tm.num, hs], by simp [Tm.bits], by simp [Tm.bits], hw, by show (Lit.int .i64 1).wf = true; decide +kernel⟩, trivial⟩
  · have hv : vName ⟨#[]⟩ = true := by decide +kernel
    have he : (⟨#[]⟩ : ByteArray).toList = [] := by decide +kernel
    rw [treeErr_args]
    unfold leaf
    simp [nodeErr, fieldsOk, Tm.kind, Tm.name, Tm.num, Tm.bits, Tm.var, Tm.args, hv, he, hs, rowErr, h0]
theorem lookB_mem2 : ∀ {l : List Bnd} {v : Int} {u : Tm}, lookB l v = some u → (v, u) ∈ l
  | [], _, _, h => by cases h
  | x :: l, v, u, h => by
    unfold lookB at h
    split at h
    · rename_i e
      subst e
      obtain rfl := Option.some.inj h
      exact List.mem_cons_self
    · exact List.mem_cons_of_mem _ (lookB_mem2 h)
theorem stand_valid {l : List Bnd} (hD : ∀ k (h : k < l.length), AllT DomA l[k].2) (h : standE l [] = 0) {v : Int} {u : Tm} (hl : lookB l v = some u) : Valid u := by
  have hm := lookB_mem2 hl
  obtain ⟨k, hk, e⟩ := List.getElem_of_mem hm
  have h1 := hD k hk
  rw [e] at h1
  exact ⟨h1, ((standE_zero h).1 _ hm).2.2⟩
mutual
theorem inst_good {l : List Bnd} (hl : ∀ v u, lookB l v = some u → Good u) : ∀ t, Good t → Good (instT l t)
  | .mk k n u b v ts, hg => by
    by_cases h : k = 1
    · rw [instT_var (show (Tm.mk k n u b v ts).kind = 1 from h)]
      unfold instV
      cases e : lookB l (Tm.mk k n u b v ts).var with
      | some o => exact hl _ _ e
      | none =>
        have h1 := hg.leaf1 h
        simp only
        rw [← h1]
        exact hg
    · rw [instT_not (show (Tm.mk k n u b v ts).kind ≠ 1 from h)]
      have hall := inst_goodR hl ts (fun t ht => (hg.arg t ht).1)
      refine ⟨?_, ?_⟩
      · unfold AllT
        have hd := hg.1.head
        exact ⟨⟨hd.name, hd.num, hd.lo, hd.hi, hd.var, hd.kind⟩, AllR.mk fun j hj => (hall _ (List.getElem_mem hj)).1⟩
      · rw [treeErr_args]
        have hn := hg.node
        rw [show nodeErr vName numOk bitsOk (Tm.mk (Tm.mk k n u b v ts).kind (Tm.mk k n u b v ts).name (Tm.mk k n u b v ts).num (Tm.mk k n u b v ts).bits (Tm.mk k n u b v ts).var ((Tm.mk k n u b v ts).args.map (instT l))) = 0 from (nodeErr_maps k n u b v ts _).trans hn, if_pos rfl]
        exact rowErr_of fun t ht => (hall t ht).2
theorem inst_goodR {l : List Bnd} (hl : ∀ v u, lookB l v = some u → Good u) : ∀ ts : List Tm, (∀ t ∈ ts, Good t) → ∀ t ∈ ts.map (instT l), Good t
  | [], _, t, ht => by simp at ht
  | u :: ts, hg, t, ht => by
    rw [List.map_cons] at ht
    rcases List.mem_cons.1 ht with rfl | ht
    · exact inst_good hl u (hg u (by simp))
    · exact inst_goodR hl ts (fun t ht => hg t (by simp [ht])) t ht
end
mutual
theorem back_T (l : List Bnd) : ∀ (t : Tm) (S : List Bnd), (∀ v u, lookB S v = some u → u = instV l v) → ∃ S', matT t (instT l t) S = some S' ∧ (∀ v u, lookB S v = some u → lookB S' v = some u) ∧ (∀ v u, lookB S' v = some u → u = instV l v) ∧ S'.length ≤ S.length + nodes t ∧
    (∀ S2, (∀ v u, lookB S' v = some u → lookB S2 v = some u) → instT S2 t = instT l t)
  | .mk k n u b v ts, S, hS => by
    by_cases h : k = 1
    · have e1 : instT l (.mk k n u b v ts) = instV l v := instT_var (show (Tm.mk k n u b v ts).kind = 1 from h)
      have e2 : ∀ S2, instT S2 (.mk k n u b v ts) = instV S2 v := fun S2 => instT_var (show (Tm.mk k n u b v ts).kind = 1 from h)
      rw [e1, matT_var (show (Tm.mk k n u b v ts).kind = 1 from h)]
      show ∃ S', (match lookB S v with | some o => if sameT o (instV l v) = true then some S else none | none => some (insB S (v, instV l v))) = some S' ∧ _
      cases hl : lookB S v with
      | some o =>
        obtain rfl := hS v o hl
        refine ⟨S, if_pos ((sameT_iff _ _).2 rfl), fun _ _ h => h, hS, by omega, fun S2 h2 => ?_⟩
        rw [e2]
        have h3 := h2 v _ hl
        rw [show instV S2 v = (match lookB S2 v with | some u => u | none => leaf 1 ⟨#[]⟩ ⟨#[]⟩ v) from rfl, h3]
      | none =>
        have hi := fun w => lookB_ins S (v, instV l v) w hl
        refine ⟨insB S (v, instV l v), rfl, fun w o ho => ?_, fun w o ho => ?_, ?_, fun S2 h2 => ?_⟩
        · rw [hi]
          by_cases hw : v = w
          · subst hw; rw [hl] at ho; cases ho
          · rw [if_neg (by exact hw)]; exact ho
        · rw [hi] at ho
          by_cases hw : v = w
          · rw [if_pos (by exact hw)] at ho
            obtain rfl := Option.some.inj ho
            rw [← hw]
          · rw [if_neg (by exact hw)] at ho
            exact hS w o ho
        · rw [insB_length]
          have := nodes_pos (.mk k n u b v ts)
          omega
        · rw [e2]
          have h3 := h2 v (instV l v) (by rw [hi, if_pos rfl])
          rw [show instV S2 v = (match lookB S2 v with | some u => u | none => leaf 1 ⟨#[]⟩ ⟨#[]⟩ v) from rfl, h3]
    · have e2 : ∀ S2, instT S2 (.mk k n u b v ts) = .mk k n u b v (ts.map (instT S2)) := fun S2 => instT_not (show (Tm.mk k n u b v ts).kind ≠ 1 from h)
      obtain ⟨S', g1, g2, g3, g4, g5⟩ := back_R l ts S hS
      refine ⟨S', ?_, g2, g3, by unfold nodes; omega, fun S2 h2 => by rw [e2, e2, g5 S2 h2]⟩
      rw [e2, matT_not (show (Tm.mk k n u b v ts).kind ≠ 1 from h), if_pos ⟨rfl, rfl, rfl, rfl, by simp [Tm.args]⟩]
      exact g1
theorem back_R (l : List Bnd) : ∀ (ts : List Tm) (S : List Bnd), (∀ v u, lookB S v = some u → u = instV l v) → ∃ S', matL ts (ts.map (instT l)) S = some S' ∧ (∀ v u, lookB S v = some u → lookB S' v = some u) ∧ (∀ v u, lookB S' v = some u → u = instV l v) ∧ S'.length ≤ S.length + nodesL ts ∧
    (∀ S2, (∀ v u, lookB S' v = some u → lookB S2 v = some u) → ts.map (instT S2) = ts.map (instT l))
  | [], S, hS => ⟨S, rfl, fun _ _ h => h, hS, by omega, fun _ _ => rfl⟩
  | t :: ts, S, hS => by
    obtain ⟨S1, g1, g2, g3, g4, g5⟩ := back_T l t S hS
    obtain ⟨S2, k1, k2, k3, k4, k5⟩ := back_R l ts S1 g3
    refine ⟨S2, ?_, fun v u h => k2 v u (g2 v u h), k3, by unfold nodesL; omega, fun S3 h3 => ?_⟩
    · rw [List.map_cons, matL, g1]
      exact k1
    · rw [List.map_cons, List.map_cons, g5 S3 (fun v u h => h3 v u (k2 v u h)), k5 S3 h3]
end
mutual
theorem matT_keys (D : Int → Prop) : ∀ (t u : Tm) (S S' : List Bnd), AllT (fun t => D t.var) t → (∀ x ∈ S, D x.1) → matT t u S = some S' → ∀ x ∈ S', D x.1
  | .mk k n u b v l, t, S, S', ht, h, e => by
    rw [matT] at e
    split at e
    · split at e
      · split at e
        · obtain rfl := Option.some.inj e; exact h
        · cases e
      · obtain rfl := Option.some.inj e
        intro x hx
        rcases insB_mem S _ x hx with rfl | hx
        · exact ht.head
        · exact h x hx
    · split at e
      · exact matL_keys D l t.args S S' (by unfold AllT at ht; exact ht.2) h e
      · cases e
theorem matL_keys (D : Int → Prop) : ∀ (l m : List Tm) (S S' : List Bnd), AllR (fun t => D t.var) l → (∀ x ∈ S, D x.1) → matL l m S = some S' → ∀ x ∈ S', D x.1
  | [], _, S, S', _, h, e => by rw [matL] at e; obtain rfl := Option.some.inj e; exact h
  | _ :: _, [], S, S', _, h, e => by rw [matL] at e; cases e
  | t :: l, u :: m, S, S', hl, h, e => by
    unfold AllR at hl
    rw [matL] at e
    split at e
    · cases e
    · rename_i S2 h2
      exact matL_keys D l m S2 S' hl.2 (matT_keys D t u S S2 hl.1 h h2) e
end
mutual
theorem Good.vars0 : ∀ (d : Nat) (t : Tm), nodes t ≤ d → Good t → AllT (fun t => 0 ≤ t.var ∧ (Lit.int .i64 t.var).wf = true) t
  | 0, t, h, _ => by have := nodes_pos t; omega
  | d + 1, t, h, hg => AllT.of ⟨hg.var0, hg.1.head.var⟩ fun u hu => Good.vars0 d u (by have := (hg.arg u hu).2; omega) (hg.arg u hu).1
end
theorem standE_mk : ∀ (l : List Bnd) (S : List Int), (∀ x ∈ l, x.1 ∉ S ∧ 0 ≤ x.1 ∧ checkErr vName numOk bitsOk x.2 = 0) → (l.map (·.1)).Nodup → standE l S = 0
  | [], _, _, _ => rfl
  | x :: l, S, h, hn => by
    rw [List.map_cons, List.nodup_cons] at hn
    obtain ⟨h1, h2, h3⟩ := h x (by simp)
    unfold standE
    rw [if_neg (by simp [h1]; omega), if_pos h3]
    refine standE_mk l _ (fun y hy => ?_) hn.2
    obtain ⟨k1, k2, k3⟩ := h y (by simp [hy])
    refine ⟨fun hm => ?_, k2, k3⟩
    rcases List.mem_append.1 hm with hm | hm
    · exact k1 hm
    · simp at hm
      exact hn.1 (List.mem_map.2 ⟨y, hy, hm⟩)
theorem Rises.nodup {l : List Bnd} (h : Rises l) : (l.map (·.1)).Nodup := by
  unfold List.Nodup
  exact h.keys.imp fun h => by omega
theorem Good.check {t : Tm} (h : Good t) (hn : nodes t ≤ 4000) : checkErr vName numOk bitsOk t = 0 := by
  unfold checkErr
  rw [if_neg (by omega)]
  exact h.2
theorem Valid.few {t : Tm} (h : Valid t) : nodes t ≤ 4000 := by
  have h1 := h.2
  unfold checkErr at h1
  split at h1
  · cases h1
  · omega
/-- What Put answers of any term and binds. -/
def putB (l : List Bnd) (t : Tm) : Tm × Int := if checkErr vName numOk bitsOk t ≠ 0 then (leaf 0 ⟨#[]⟩ ⟨#[]⟩ 0, checkErr vName numOk bitsOk t) else putD l t
theorem putB_zero {l : List Bnd} {t : Tm} (h : (putB l t).2 = 0) : checkErr vName numOk bitsOk t = 0 ∧ standE l [] = 0 ∧ nodes (instT l t) ≤ 4000 ∧ (putB l t).1 = instT l t := by
  unfold putB at h ⊢
  by_cases h1 : checkErr vName numOk bitsOk t = 0
  · rw [if_neg (by simp [h1])] at h ⊢
    unfold putD at h ⊢
    by_cases h2 : standE l [] = 0
    · rw [if_neg (by simp [h2])] at h ⊢
      by_cases h3 : 4000 < nodes (instT l t)
      · rw [if_pos h3] at h; cases h
      · rw [if_neg h3]
        exact ⟨h1, h2, by omega, rfl⟩
    · rw [if_pos h2] at h; exact absurd h h2
  · rw [if_pos h1] at h; exact absurd h h1
theorem putB_good {l : List Bnd} {t : Tm} (h1 : checkErr vName numOk bitsOk t = 0) (h2 : standE l [] = 0) (h3 : nodes (instT l t) ≤ 4000) : putB l t = (instT l t, 0) := by
  unfold putB
  rw [if_neg (by simp [h1])]
  unfold putD
  rw [if_neg (by simp [h2]), if_neg (by omega)]
/-- What Put made is matched, and what matching tells makes it again. -/
theorem back_put (t : Tm) (l : List Bnd) (hDt : AllT DomA t) (hD : ∀ k (h : k < l.length), AllT DomA l[k].2) (h : (putB l t).2 = 0) :
    ∃ m, matchA t (putB l t).1 = some m ∧ checksErr vName numOk bitsOk [t, (putB l t).1] = 0 ∧ putB m t = ((putB l t).1, 0) ∧ (∀ k (h : k < m.length), AllT DomA m[k].2) ∧ (∀ k (h : k < m.length), (Lit.int .i64 m[k].1).wf = true) ∧ m.length ≤ 4000 ∧ AllT DomA (putB l t).1 := by
  obtain ⟨h1, h2, h3, h4⟩ := putB_zero h
  have vt : Valid t := ⟨hDt, h1⟩
  have gl : ∀ v u, lookB l v = some u → Good u := fun v u e => (stand_valid hD h2 e).good
  have gu := inst_good gl t vt.good
  have cu := gu.check h3
  obtain ⟨m, g1, -, g3, g4, g5⟩ := back_T l t [] (fun v u e => by cases e)
  have hk := matT_keys (fun v => 0 ≤ v ∧ (Lit.int .i64 v).wf = true) t _ [] m (Good.vars0 (nodes t) t (Nat.le_refl _) vt.good) (fun x hx => by cases hx) g1
  have hr := matT_rises t _ [] m (by unfold Rises; exact List.Pairwise.nil) g1
  have hval : ∀ x ∈ m, Valid x.2 := fun x hx => by
    obtain ⟨k, hk1, rfl⟩ := List.getElem_of_mem hx
    have e := g3 _ _ (hr.look k hk1)
    rw [e]
    obtain ⟨a1, a2⟩ := hk _ hx
    unfold instV
    cases e2 : lookB l m[k].1 with
    | some u => exact stand_valid hD h2 e2
    | none =>
      have g := leafV_good a1 a2
      exact ⟨g.1, g.check (by unfold leaf nodes nodesL; omega)⟩
  have hs : standE m [] = 0 := standE_mk m [] (fun x hx => ⟨by simp, (hk x hx).1, (hval x hx).2⟩) hr.nodup
  have hi : instT m t = instT l t := g5 m fun _ _ h => h
  have hc : checksErr vName numOk bitsOk [t, instT l t] = 0 := by
    unfold checksErr
    rw [if_pos h1]
    unfold checksErr
    rw [if_pos cu]
    rfl
  refine ⟨m, ?_, by rw [h4]; exact hc, ?_, fun k hk1 => (hval _ (List.getElem_mem hk1)).1, fun k hk1 => (hk _ (List.getElem_mem hk1)).2, ?_, by rw [h4]; exact gu.1⟩
  · unfold matchA
    rw [h4, if_pos hc]
    exact g1
  · rw [h4, ← hi]
    exact putB_good h1 hs (by rw [hi]; exact h3)
  · have := vt.few
    simp at g4
    omega
theorem listT_cons (t : Tm) (l : List Tm) (e : Tm) : listT (t :: l) e = .mk 5 ⟨#[46]⟩ ⟨#[]⟩ 0 0 [t, listT l e] := rfl
theorem isCons_list (a b : Tm) : isCons (.mk 5 ⟨#[46]⟩ ⟨#[]⟩ 0 0 [a, b]) = true := by
  unfold isCons
  simp [Tm.kind, Tm.name, Tm.args]
theorem back_elems : ∀ (l : List Tm) (e : Tm), isCons e = false → elems (listT l e) = (l, e)
  | [], e, h => elems_not h
  | t :: l, e, h => by
    rw [listT_cons, elems_cons (isCons_list _ _) (by simp [Tm.args]) (by simp [Tm.args])]
    simp only [Tm.args, List.getElem_cons_zero, List.getElem_cons_succ]
    rw [back_elems l e h]
theorem listT_good : ∀ {l : List Tm} {e : Tm}, (∀ t ∈ l, Good t) → Good e → Good (listT l e)
  | [], e, _, h => h
  | t :: l, e, hl, h => by
    have ih := listT_good (l := l) (fun u hu => hl u (List.mem_cons_of_mem _ hu)) h
    have ht := hl t (by simp)
    rw [listT_cons]
    have hs : (⟨#[46]⟩ : ByteArray).size = 1 := rfl
    refine ⟨?_, ?_⟩
    · unfold AllT AllR AllR AllR
      exact ⟨DomA.plain _ _ (by decide) (by decide +kernel), ht.1, ih.1, trivial⟩
    · have hv : vName ⟨#[46]⟩ = true := by decide +kernel
      have he : (⟨#[]⟩ : ByteArray).toList = [] := by decide +kernel
      rw [treeErr_args, if_pos (by simp [nodeErr, fieldsOk, Tm.kind, Tm.name, Tm.num, Tm.bits, Tm.var, Tm.args, hv, he, hs])]
      exact rowErr_of fun u hu => by
        simp only [Tm.args, List.mem_cons, List.not_mem_nil, or_false] at hu
        rcases hu with rfl | rfl
        · exact ht.2
        · exact ih.2
theorem listT_nodes : ∀ (l : List Tm) (e : Tm), nodes (listT l e) = nodes e + (l.length + nodesL l)
  | [], e => by simp [listT, nodesL]
  | t :: l, e => by
    rw [listT_cons]
    have h1 : nodes (.mk 5 ⟨#[46]⟩ ⟨#[]⟩ 0 0 [t, listT l e]) = nodes t + nodes (listT l e) + 1 := by simp [nodes, nodesL]
    have h2 : nodesL (t :: l) = nodes t + nodesL l := rfl
    rw [h1, h2, listT_nodes l e]
    simp only [List.length_cons]
    omega
theorem back_list {l : List Tm} {e : Tm} (hD : AllR DomA l) (he : Good e) (hc : isCons e = false) (h : listErr l e = 0) : checkErr vName numOk bitsOk (listT l e) = 0 ∧ elemsA (listT l e) = (l, e) := by
  have hv : checkErr vName numOk bitsOk (listT l e) = 0 := by
    unfold listErr at h
    by_cases h1 : checksErr vName numOk bitsOk l = 0
    · rw [if_pos h1] at h
      by_cases h2 : checkErr vName numOk bitsOk e = 0
      · rw [if_pos h2] at h
        by_cases h3 : 4000 < tot l e l.length
        · rw [if_pos h3] at h; cases h
        · refine (listT_good (fun t ht => ?_) he).check ?_
          · obtain ⟨k, hk, rfl⟩ := List.getElem_of_mem ht
            exact (checks_each h1 hD k hk).good
          · rw [listT_nodes]
            unfold tot at h3
            rw [List.take_length] at h3
            omega
      · rw [if_neg h2] at h; exact absurd h h2
    · rw [if_neg h1] at h; exact absurd h h1
  refine ⟨hv, ?_⟩
  unfold elemsA
  rw [if_pos hv]
  exact back_elems l e hc
theorem nilT_good : Good (leaf 2 ⟨#[91, 93]⟩ ⟨#[]⟩ 0) := by
  have hs : (⟨#[91, 93]⟩ : ByteArray).size = 2 := rfl
  refine ⟨?_, ?_⟩
  · unfold leaf AllT AllR
    exact ⟨DomA.plain _ _ (by decide) (by decide +kernel), trivial⟩
  · have hv : vName ⟨#[91, 93]⟩ = true := by decide +kernel
    have he : (⟨#[]⟩ : ByteArray).toList = [] := by decide +kernel
    rw [treeErr_args]
    unfold leaf
    simp [nodeErr, fieldsOk, Tm.kind, Tm.name, Tm.num, Tm.bits, Tm.var, Tm.args, hv, he, hs, rowErr]
theorem nilT_not : isCons (leaf 2 ⟨#[91, 93]⟩ ⟨#[]⟩ 0) = false := by
  unfold isCons leaf
  simp [Tm.kind]
theorem putB_any (t : Tm) (p : Option Addr) (cp : Nat) (l : List Bnd) (q : Option Addr) (cl : Nat) (w : World) (ht : TmAt w t p) (hl : BindAt w l q) (hX : Utf w) (hDt : AllT DomA t) (hD : ∀ k (h : k < l.length), AllT DomA l[k].2) (hwf : ∀ k (h : k < l.length), (Lit.int .i64 l[k].1).wf = true) (hlm : l.length ≤ 4398046511104) :
    Calls Tryz.prog 23 #[t.val p cp, .slice q l.length cl] w fun x w' => ∃ q2 c2 S, x = .returned (.tuple #[(putB l t).1.val q2 c2, .int .i64 (putB l t).2]) ∧ MineT w' (putB l t).1 q2 c2 S ∧ (∀ k ∈ S, w.heap.size ≤ k) ∧ Below w.heap.size w w' := by
  by_cases h : checkErr vName numOk bitsOk t = 0
  · have e : putB l t = putD l t := by unfold putB; rw [if_neg (by simp [h])]
    rw [e]
    exact put_any t p cp l q cl w ht hl hX hDt hD hwf hlm h (Valid.good ⟨hDt, h⟩).cp (fun h0 k hk => (Valid.good ⟨hD k hk, ((standE_zero h0).1 l[k] (List.getElem_mem hk)).2.2⟩).cp)
  · have e : putB l t = (leaf 0 ⟨#[]⟩ ⟨#[]⟩ 0, checkErr vName numOk bitsOk t) := by unfold putB; rw [if_pos h]
    rw [e]
    exact (put_bad1 t p cp l q cl w ht hl hX hDt hD hwf hlm h).mono fun x w' ⟨a, b⟩ => ⟨none, 0, [], a, leaf_mine _ _ _ _ _, by simp, b⟩
end Go.Proofs.YtkapejcbmonfkaaGreatDoor

namespace Go.Proofs.YtkapejcbmonfkaaGreatDoor
open Go.RowKit

theorem PairM.at_ {B : Nat} {w' : World} {t : Tm} {q : Option Addr} {n c : Nat} {S : List Nat} {r : Option Addr} {cr : Nat} {S2 : List Nat} (h : PairM B w' t q n c S r cr S2) : n = (elemsA t).1.length ∧ ListAt w' (elemsA t).1 q ∧ TmAt w' (elemsA t).2 r := by
  refine ⟨h.list.len, ?_, h.rest.at_⟩
  rcases h.list.row with ⟨_, k, _⟩ | ⟨g, arr, e, _⟩
  · exact .inl (List.length_eq_zero_iff.1 (by rw [← h.list.len, k]))
  · exact .inr ⟨g, 0, e, (h.list.mine g e).2.at_⟩
set_option maxRecDepth 100000 in
set_option maxHeartbeats 64000000 in
theorem backs_yes (l : List Tm) (t : Tm) (bs : List Bnd) (pl pt pb : Option Addr) (cl ct cb : Nat) (w : World) (hU : Utf w) (hl : ListAt w l pl) (ht : TmAt w t pt) (hb : BindAt w bs pb) (hD : AllR DomA l) (hDt : AllT DomA t) (hDb : ∀ k (h : k < bs.length), AllT DomA bs[k].2) (hwf : ∀ k (h : k < bs.length), (Lit.int .i64 bs[k].1).wf = true) (hlm : l.length ≤ 4398046511104) (hbm : bs.length ≤ 4398046511104) :
    Calls Tryz.prog 9 #[.slice pl l.length cl, t.val pt ct, .slice pb bs.length cb] w fun x w' => x = .returned (.bool true) ∧ Below w.heap.size w w' := by
  obtain ⟨W0, hW0⟩ : ∃ W0, W0 = w.alloc (.cells #[.int .i64 t.kind, .string t.name, .string t.num, .int .u64 t.bits, .int .i64 t.var, .slice pt t.args.length ct] 25) := ⟨_, rfl⟩
  have BW := hid (show Below w.heap.size w W0 by rw [hW0]; exact (Below.refl w.heap.size w).alloc (Nat.le_refl _) _)
  have PT := hid (show W0.heap[w.heap.size]? = some (tobj t pt ct) by rw [hW0]; exact heap_alloc_new w _)
  have AWK := hid (awake_true W0 (hU.keep BW.out))
  obtain ⟨e0, he0⟩ : ∃ e0, e0 = leaf 2 ⟨#[91, 93]⟩ ⟨#[]⟩ 0 := ⟨_, rfl⟩
  have hE0 := hid (show ∀ (q : Option Addr) c, e0.val q c = .agg #[.int .i64 2, .string ⟨#[91, 93]⟩, .string ⟨#[]⟩, .int .u64 0, .int .i64 0, .slice q 0 c] from by rw [he0]; intro q c; rfl)
  have hE1 := hid (show ∀ W : World, TmAt W e0 none from by rw [he0]; intro W; exact (leaf_mine W 2 ⟨#[91, 93]⟩ ⟨#[]⟩ 0).at_)
  have gE : Good e0 := by rw [he0]; exact nilT_good
  have nE : isCons e0 = false := by rw [he0]; exact nilT_not
  clear he0
  obtain ⟨x, hx⟩ : ∃ x, x = listA l e0 := ⟨_, rfl⟩
  obtain ⟨ue, hue⟩ : ∃ ue, ue = listErr l e0 := ⟨_, rfl⟩
  have CL := hid (show ∀ W, Below w.heap.size w W → Calls Tryz.prog 28 #[.slice pl l.length cl, .agg #[.int .i64 2, .string ⟨#[91, 93]⟩, .string ⟨#[]⟩, .int .u64 0, .int .i64 0, .slice none 0 0]] W fun y w' => ∃ q c, y = .returned (.tuple #[.agg #[.int .i64 x.kind, .string x.name, .string x.num, .int .u64 x.bits, .int .i64 x.var, .slice q x.args.length c], .int .i64 ue]) ∧ TmAt w' x q ∧ Below W.heap.size W w' from fun W h => by
    rw [hx, hue, ← hE0.out none 0]
    exact (list_any l e0 pl none cl 0 W (hl.keep h) (hE1.out W) (hU.keep h) hD gE.1 hlm).mono fun y w' ⟨q, c, S, a1, a2, a3, a4⟩ => ⟨q, c, a1, a2.at_, a4⟩)
  have CE := hid (show ue = 0 → ∀ W p c, TmAt W x p → Below w.heap.size w W → Calls Tryz.prog 30 #[.agg #[.int .i64 x.kind, .string x.name, .string x.num, .int .u64 x.bits, .int .i64 x.var, .slice p x.args.length c]] W fun y w' => ∃ q c1 r cr, y = .returned (.tuple #[.slice q l.length c1, .agg #[.int .i64 2, .string ⟨#[91, 93]⟩, .string ⟨#[]⟩, .int .u64 0, .int .i64 0, .slice r 0 cr], .int .i64 0]) ∧ ListAt w' l q ∧ TmAt w' e0 r ∧ Below W.heap.size W w' from fun h0 W p c h1 h2 => by
    have hz : listErr l e0 = 0 := by rw [← hue, h0]
    obtain ⟨k1, k2⟩ := back_list hD gE nE hz
    have hxe : x = listT l e0 := by rw [hx]; unfold listA; rw [if_pos hz]
    have hdx : AllT DomA x := by rw [hxe]; exact listT_dom hD gE.1
    refine (elements_any x p c W h1 hdx (hU.keep h2)).mono fun y w' ⟨q, n, c1, S, r, cr, S2, g1, g2, g3⟩ => ?_
    obtain ⟨a1, a2, a3⟩ := g2.at_
    rw [hxe, k2] at a1 a2 a3 g1
    rw [k1, hE0.out] at g1
    rw [a1] at g1
    exact ⟨q, c1, r, cr, g1, a2, a3, g3⟩)
  have CSL := hid (show ∀ W p c, ListAt W l p → Below w.heap.size w W → Calls Tryz.prog 39 #[.slice p l.length c, .slice pl l.length cl] W fun y w' => y = .returned (.bool true) ∧ Below W.heap.size W w' from fun W p c h1 h2 => by
    have h := sameList_any l l p pl c cl W h1 (hl.keep h2) (by unfold maxLen; omega) (by unfold maxLen; omega)
    rwa [(eqL_iff l l).2 rfl] at h)
  have CSE := hid (show ∀ W p c, TmAt W e0 p → Calls Tryz.prog 25 #[.agg #[.int .i64 2, .string ⟨#[91, 93]⟩, .string ⟨#[]⟩, .int .u64 0, .int .i64 0, .slice p 0 c], .agg #[.int .i64 2, .string ⟨#[91, 93]⟩, .string ⟨#[]⟩, .int .u64 0, .int .i64 0, .slice none 0 0]] W fun y w' => y = .returned (.bool true) ∧ Below W.heap.size W w' from fun W p c h1 => by
    have h := same_any (nodes e0) e0 e0 p none c 0 W (Nat.le_refl _) h1 (hE1.out W)
    rw [(sameT_iff e0 e0).2 rfl, hE0.out, hE0.out] at h
    exact h)
  obtain ⟨u, hu⟩ : ∃ u, u = (putB bs t).1 := ⟨_, rfl⟩
  obtain ⟨up, hup⟩ : ∃ up, up = (putB bs t).2 := ⟨_, rfl⟩
  have CP := hid (show ∀ W, Below w.heap.size w W → Calls Tryz.prog 23 #[.agg #[.int .i64 t.kind, .string t.name, .string t.num, .int .u64 t.bits, .int .i64 t.var, .slice pt t.args.length ct], .slice pb bs.length cb] W fun y w' => ∃ q c, y = .returned (.tuple #[.agg #[.int .i64 u.kind, .string u.name, .string u.num, .int .u64 u.bits, .int .i64 u.var, .slice q u.args.length c], .int .i64 up]) ∧ TmAt w' u q ∧ Below W.heap.size W w' from fun W h => by
    rw [hu, hup]
    exact (putB_any t pt ct bs pb cb W (ht.keep h) (hb.keep h) (hU.keep h) hDt hDb hwf hbm).mono fun y w' ⟨q, c, S, a1, a2, a3, a4⟩ => ⟨q, c, a1, a2.at_, a4⟩)
  have CM := hid (show up = 0 → ∃ m : List Bnd, (∀ W q c, TmAt W u q → Below w.heap.size w W → Calls Tryz.prog 37 #[.agg #[.int .i64 t.kind, .string t.name, .string t.num, .int .u64 t.bits, .int .i64 t.var, .slice pt t.args.length ct], .agg #[.int .i64 u.kind, .string u.name, .string u.num, .int .u64 u.bits, .int .i64 u.var, .slice q u.args.length c]] W fun y w' => ∃ q2 c2, y = .returned (.tuple #[.slice q2 m.length c2, .bool true, .int .i64 0]) ∧ BindAt w' m q2 ∧ Below W.heap.size W w') ∧
      (∀ W q c, BindAt W m q → Below w.heap.size w W → Calls Tryz.prog 23 #[.agg #[.int .i64 t.kind, .string t.name, .string t.num, .int .u64 t.bits, .int .i64 t.var, .slice pt t.args.length ct], .slice q m.length c] W fun y w' => ∃ q2 c2, y = .returned (.tuple #[.agg #[.int .i64 u.kind, .string u.name, .string u.num, .int .u64 u.bits, .int .i64 u.var, .slice q2 u.args.length c2], .int .i64 0]) ∧ TmAt w' u q2 ∧ Below W.heap.size W w') from fun h0 => by
    obtain ⟨m, m1, m2, m3, m4, m5, m6, m7⟩ := back_put t bs hDt hDb (by rw [← hup, h0])
    rw [← hu] at m1 m2 m3 m7
    refine ⟨m, fun W q c h1 h2 => ?_, fun W q c h1 h2 => ?_⟩
    · refine (matchAll_any t u pt q ct c W (ht.keep h2) h1 hDt m7 (hU.keep h2)).mono fun y w' ⟨q2, n2, c2, L, S, g1, g2, g3, g4⟩ => ?_
      have hn := g2.length
      have hL : L.length = m.length := by
        have := congrArg List.length g3
        simpa [m1] using this
      rw [m1, m2] at g1
      rw [m1] at g3
      have ha := g2.at_
      rw [g3] at ha
      rw [← hn, hL] at g1
      exact ⟨q2, c2, g1, ha, g4⟩
    · refine (putB_any t pt ct m q c W (ht.keep h2) h1 (hU.keep h2) hDt m4 m5 (by omega)).mono fun y w' ⟨q2, c2, S, a1, a2, a3, a4⟩ => ?_
      rw [m3] at a1 a2
      exact ⟨q2, c2, a1, a2.at_, a4⟩)
  have CS := hid (show ∀ W p q c d, TmAt W u p → TmAt W u q → Calls Tryz.prog 25 #[.agg #[.int .i64 u.kind, .string u.name, .string u.num, .int .u64 u.bits, .int .i64 u.var, .slice p u.args.length c], .agg #[.int .i64 u.kind, .string u.name, .string u.num, .int .u64 u.bits, .int .i64 u.var, .slice q u.args.length d]] W fun e w' => e = .returned (.bool true) ∧ Below W.heap.size W w' from fun W p q c d h1 h2 => by
    have h := same_any (nodes u) u u p q c d W (Nat.le_refl _) h1 h2
    rwa [(sameT_iff u u).2 rfl] at h)
  have hlE := ht.len
  unfold maxLen at hlE
  have hW0' : W0 = w.alloc (.cells #[.int .i64 t.kind, .string t.name, .string t.num, .int .u64 t.bits, .int .i64 t.var, .slice pt t.args.length ct] 25) := hW0
  unfold Tm.val
  clear hU hl ht hb hD hDt hDb hwf hlm hbm hx hue hu hup hW0 gE nE hE0
  go_enter Tryz.func9, Tryz.ntmps9
  have PT := hid (show W0.heap[w.heap.size]? = some (.cells #[.int .i64 t.kind, .string t.name, .string t.num, .int .u64 t.bits, .int .i64 t.var, .slice pt t.args.length ct] 25 (0, 0)) from PT.out)
  go_upto_region 2 with (first
    | (go_at_call 10; rw [← hW0']; (with_reducible refine (AWK.out).mono ?_); rintro y w1 ⟨rfl, hb1⟩; replace PT := hid (obj_keep PT.out hb1); replace BW := hid (BW.out.trans (Below.mono hb1 BW.out.size)); clear hb1 hW0' AWK)
    | fail)
  go_upto_region 3 with fail
  obtain ⟨Ee, hEe⟩ : ∃ Ee, Ee = w1.heap.size := ⟨_, rfl⟩
  obtain ⟨V, hV⟩ : ∃ V, V = w1.alloc (.cells #[.int .i64 2, .string ⟨#[91, 93]⟩, .string ⟨#[]⟩, .int .u64 0, .int .i64 0, .slice none 0 0] 25) := ⟨_, rfl⟩
  rw [← hV, ← hEe]
  have hbV := hid (show Below w1.heap.size w1 V by rw [hV]; exact (Below.refl _ _).alloc (Nat.le_refl _) _)
  have PE := hid (show V.heap[Ee]? = some (.cells #[.int .i64 2, .string ⟨#[91, 93]⟩, .string ⟨#[]⟩, .int .u64 0, .int .i64 0, .slice none 0 0] 25 (0, 0)) by rw [hV, hEe]; exact heap_alloc_new w1 _)
  replace PT := hid (obj_keep PT.out hbV.out)
  replace BW := hid (BW.out.trans (Below.mono hbV.out BW.out.size))
  clear hV hbV hEe
  obtain ⟨w2, rfl⟩ : ∃ w2, w2 = V := ⟨_, rfl⟩
  obtain ⟨⟨e0, e1, e2, e3, e4, e5⟩, _⟩ := six_free (show w2.heap[Ee]? = some (.cells #[.int .i64 2, .string ⟨#[91, 93]⟩, .string ⟨#[]⟩, .int .u64 0, .int .i64 0, .slice none 0 0] 25 (0, 0)) from PE.out)
  go_upto_region 4 with (first
    | (go_at_call 28; (with_reducible refine (CL.out _ BW.out).mono ?_); rintro y w3 ⟨qx, cx, rfl, hx, hb3⟩; replace PT := hid (obj_keep PT.out hb3); replace PE := hid (obj_keep PE.out hb3); replace BW := hid (BW.out.trans (Below.mono hb3 BW.out.size)); have AX := hid hx; clear hb3 hx CL)
    | fail)
  clear e0 e1 e2 e3 e4 e5
  obtain ⟨Xx, hXx⟩ : ∃ Xx, Xx = w3.heap.size := ⟨_, rfl⟩
  obtain ⟨V, hV⟩ : ∃ V, V = w3.alloc (.cells #[.int .i64 x.kind, .string x.name, .string x.num, .int .u64 x.bits, .int .i64 x.var, .slice qx x.args.length cx] 25) := ⟨_, rfl⟩
  rw [← hV, ← hXx]
  have hbV := hid (show Below w3.heap.size w3 V by rw [hV]; exact (Below.refl _ _).alloc (Nat.le_refl _) _)
  have PX := hid (show V.heap[Xx]? = some (.cells #[.int .i64 x.kind, .string x.name, .string x.num, .int .u64 x.bits, .int .i64 x.var, .slice qx x.args.length cx] 25 (0, 0)) by rw [hV, hXx]; exact heap_alloc_new w3 _)
  replace PT := hid (obj_keep PT.out hbV.out)
  replace PE := hid (obj_keep PE.out hbV.out)
  replace AX := hid (AX.out.keep hbV.out)
  replace BW := hid (BW.out.trans (Below.mono hbV.out BW.out.size))
  clear hV hbV hXx
  obtain ⟨w4, rfl⟩ : ∃ w4, w4 = V := ⟨_, rfl⟩
  by_cases hue0 : ue = 0
  · obtain rfl : ue = 0 := hue0
    obtain ⟨⟨x0, x1, x2, x3, x4, x5⟩, _⟩ := six_free (show w4.heap[Xx]? = some (.cells #[.int .i64 x.kind, .string x.name, .string x.num, .int .u64 x.bits, .int .i64 x.var, .slice qx x.args.length cx] 25 (0, 0)) from PX.out)
    go_upto_region 6 with (first
      | (go_at_call 30; (with_reducible refine (CE.out rfl _ qx cx AX.out BW.out).mono ?_); rintro y w5 ⟨qy, cy, qr, cr, rfl, hy, hr, hb5⟩; replace PT := hid (obj_keep PT.out hb5); replace PE := hid (obj_keep PE.out hb5); replace PX := hid (obj_keep PX.out hb5); replace AX := hid (AX.out.keep hb5); replace BW := hid (BW.out.trans (Below.mono hb5 BW.out.size)); have AY := hid hy; have AR := hid hr; clear hb5 hy hr CE)
      | fail)
    clear x0 x1 x2 x3 x4 x5
    obtain ⟨Rr, hRr⟩ : ∃ Rr, Rr = w5.heap.size := ⟨_, rfl⟩
    obtain ⟨V, hV⟩ : ∃ V, V = w5.alloc (.cells #[.int .i64 2, .string ⟨#[91, 93]⟩, .string ⟨#[]⟩, .int .u64 0, .int .i64 0, .slice qr 0 cr] 25) := ⟨_, rfl⟩
    rw [← hV, ← hRr]
    have hbV := hid (show Below w5.heap.size w5 V by rw [hV]; exact (Below.refl _ _).alloc (Nat.le_refl _) _)
    have PR := hid (show V.heap[Rr]? = some (.cells #[.int .i64 2, .string ⟨#[91, 93]⟩, .string ⟨#[]⟩, .int .u64 0, .int .i64 0, .slice qr 0 cr] 25 (0, 0)) by rw [hV, hRr]; exact heap_alloc_new w5 _)
    replace PT := hid (obj_keep PT.out hbV.out)
    replace PE := hid (obj_keep PE.out hbV.out)
    replace PX := hid (obj_keep PX.out hbV.out)
    replace AX := hid (AX.out.keep hbV.out)
    replace AY := hid (AY.out.keep hbV.out)
    replace AR := hid (AR.out.keep hbV.out)
    replace BW := hid (BW.out.trans (Below.mono hbV.out BW.out.size))
    clear hV hbV hRr
    obtain ⟨w6, rfl⟩ : ∃ w6, w6 = V := ⟨_, rfl⟩
    go_upto_region 7 with (first
      | (go_at_call 39; (with_reducible refine (CSL.out _ qy cy AY.out BW.out).mono ?_); rintro y w7 ⟨rfl, hb7⟩; replace PT := hid (obj_keep PT.out hb7); replace PE := hid (obj_keep PE.out hb7); replace PX := hid (obj_keep PX.out hb7); replace PR := hid (obj_keep PR.out hb7); replace AX := hid (AX.out.keep hb7); replace AY := hid (AY.out.keep hb7); replace AR := hid (AR.out.keep hb7); replace BW := hid (BW.out.trans (Below.mono hb7 BW.out.size)); clear hb7 CSL)
      | fail)
    obtain ⟨⟨r0, r1, r2, r3, r4, r5⟩, _⟩ := six_free (show w7.heap[Rr]? = some (.cells #[.int .i64 2, .string ⟨#[91, 93]⟩, .string ⟨#[]⟩, .int .u64 0, .int .i64 0, .slice qr 0 cr] 25 (0, 0)) from PR.out)
    obtain ⟨⟨e0, e1, e2, e3, e4, e5⟩, _⟩ := six_free (show w7.heap[Ee]? = some (.cells #[.int .i64 2, .string ⟨#[91, 93]⟩, .string ⟨#[]⟩, .int .u64 0, .int .i64 0, .slice none 0 0] 25 (0, 0)) from PE.out)
    go_upto_region 8 with (first
      | (go_at_call 25; (with_reducible refine (CSE.out _ qr cr AR.out).mono ?_); rintro y w8 ⟨rfl, hb8⟩; replace PT := hid (obj_keep PT.out hb8); replace PE := hid (obj_keep PE.out hb8); replace PX := hid (obj_keep PX.out hb8); replace PR := hid (obj_keep PR.out hb8); replace AX := hid (AX.out.keep hb8); replace AY := hid (AY.out.keep hb8); replace AR := hid (AR.out.keep hb8); replace BW := hid (BW.out.trans (Below.mono hb8 BW.out.size)); clear hb8 CSE)
      | fail)
    clear r0 r1 r2 r3 r4 r5 e0 e1 e2 e3 e4 e5
    clear PR PE PX AX AY AR hE1
    obtain ⟨w9, rfl⟩ : ∃ w9, w9 = w8 := ⟨_, rfl⟩
    obtain ⟨⟨t0, t1, t2, t3, t4, t5⟩, _⟩ := six_free (show w9.heap[w.heap.size]? = some (.cells #[.int .i64 t.kind, .string t.name, .string t.num, .int .u64 t.bits, .int .i64 t.var, .slice pt t.args.length ct] 25 (0, 0)) from PT.out)
    go_upto_region 11 with (first
      | (go_at_call 23; (with_reducible refine (CP.out _ BW.out).mono ?_); rintro y w10 ⟨qu, cu, rfl, hu, hb10⟩; replace PT := hid (obj_keep PT.out hb10); replace BW := hid (BW.out.trans (Below.mono hb10 BW.out.size)); have AU := hid hu; clear hb10 hu CP)
      | fail)
    clear t0 t1 t2 t3 t4 t5
    obtain ⟨Uu, hUu⟩ : ∃ Uu, Uu = w10.heap.size := ⟨_, rfl⟩
    obtain ⟨V, hV⟩ : ∃ V, V = w10.alloc (.cells #[.int .i64 u.kind, .string u.name, .string u.num, .int .u64 u.bits, .int .i64 u.var, .slice qu u.args.length cu] 25) := ⟨_, rfl⟩
    rw [← hV, ← hUu]
    have hbV := hid (show Below w10.heap.size w10 V by rw [hV]; exact (Below.refl _ _).alloc (Nat.le_refl _) _)
    have PU := hid (show V.heap[Uu]? = some (.cells #[.int .i64 u.kind, .string u.name, .string u.num, .int .u64 u.bits, .int .i64 u.var, .slice qu u.args.length cu] 25 (0, 0)) by rw [hV, hUu]; exact heap_alloc_new w10 _)
    replace PT := hid (obj_keep PT.out hbV.out)
    replace AU := hid (AU.out.keep hbV.out)
    replace BW := hid (BW.out.trans (Below.mono hbV.out BW.out.size))
    clear hV hbV hUu
    obtain ⟨w11, rfl⟩ : ∃ w11, w11 = V := ⟨_, rfl⟩
    by_cases hup0 : up = 0
    rotate_left
    · have hq : (up == 0) = false := beq_eq_false_iff_ne.2 hup0
      have hq2 : (up != 0) = true := by simp [hup0]
      clear hup0
      go_wp2_with fail
      go_ret
      exact ⟨rfl, BW.out⟩
    obtain rfl : up = 0 := hup0
    obtain ⟨m, CMm, CPm⟩ := CM.out rfl
    replace CMm := hid CMm
    replace CPm := hid CPm
    clear CM
    obtain ⟨⟨t0, t1, t2, t3, t4, t5⟩, _⟩ := six_free (show w11.heap[w.heap.size]? = some (.cells #[.int .i64 t.kind, .string t.name, .string t.num, .int .u64 t.bits, .int .i64 t.var, .slice pt t.args.length ct] 25 (0, 0)) from PT.out)
    obtain ⟨⟨u0, u1, u2, u3, u4, u5⟩, _⟩ := six_free (show w11.heap[Uu]? = some (.cells #[.int .i64 u.kind, .string u.name, .string u.num, .int .u64 u.bits, .int .i64 u.var, .slice qu u.args.length cu] 25 (0, 0)) from PU.out)
    go_upto_region 14 with (first
      | (go_at_call 37; (with_reducible refine (CMm.out _ qu cu AU.out BW.out).mono ?_); rintro y w12 ⟨qm, cm, rfl, hm, hb12⟩; replace PT := hid (obj_keep PT.out hb12); replace PU := hid (obj_keep PU.out hb12); replace AU := hid (AU.out.keep hb12); replace BW := hid (BW.out.trans (Below.mono hb12 BW.out.size)); have AM := hid hm; clear hb12 hm CMm)
      | fail)
    clear t0 t1 t2 t3 t4 t5 u0 u1 u2 u3 u4 u5
    obtain ⟨⟨t0, t1, t2, t3, t4, t5⟩, _⟩ := six_free (show w12.heap[w.heap.size]? = some (.cells #[.int .i64 t.kind, .string t.name, .string t.num, .int .u64 t.bits, .int .i64 t.var, .slice pt t.args.length ct] 25 (0, 0)) from PT.out)
    go_upto_region 17 with (first
      | (go_at_call 23; (with_reducible refine (CPm.out _ qm cm AM.out BW.out).mono ?_); rintro y w13 ⟨qv, cv, rfl, hv, hb13⟩; replace PT := hid (obj_keep PT.out hb13); replace PU := hid (obj_keep PU.out hb13); replace AU := hid (AU.out.keep hb13); replace AM := hid (AM.out.keep hb13); replace BW := hid (BW.out.trans (Below.mono hb13 BW.out.size)); have AV := hid hv; clear hb13 hv CPm)
      | fail)
    clear t0 t1 t2 t3 t4 t5
    obtain ⟨Vv, hVv⟩ : ∃ Vv, Vv = w13.heap.size := ⟨_, rfl⟩
    obtain ⟨V, hV⟩ : ∃ V, V = w13.alloc (.cells #[.int .i64 u.kind, .string u.name, .string u.num, .int .u64 u.bits, .int .i64 u.var, .slice qv u.args.length cv] 25) := ⟨_, rfl⟩
    rw [← hV, ← hVv]
    have hbV := hid (show Below w13.heap.size w13 V by rw [hV]; exact (Below.refl _ _).alloc (Nat.le_refl _) _)
    have PV := hid (show V.heap[Vv]? = some (.cells #[.int .i64 u.kind, .string u.name, .string u.num, .int .u64 u.bits, .int .i64 u.var, .slice qv u.args.length cv] 25 (0, 0)) by rw [hV, hVv]; exact heap_alloc_new w13 _)
    replace PT := hid (obj_keep PT.out hbV.out)
    replace PU := hid (obj_keep PU.out hbV.out)
    replace AU := hid (AU.out.keep hbV.out)
    replace AM := hid (AM.out.keep hbV.out)
    replace AV := hid (AV.out.keep hbV.out)
    replace BW := hid (BW.out.trans (Below.mono hbV.out BW.out.size))
    clear hV hbV hVv
    obtain ⟨w14, rfl⟩ : ∃ w14, w14 = V := ⟨_, rfl⟩
    obtain ⟨⟨u0, u1, u2, u3, u4, u5⟩, _⟩ := six_free (show w14.heap[Uu]? = some (.cells #[.int .i64 u.kind, .string u.name, .string u.num, .int .u64 u.bits, .int .i64 u.var, .slice qu u.args.length cu] 25 (0, 0)) from PU.out)
    obtain ⟨⟨v0, v1, v2, v3, v4, v5⟩, _⟩ := six_free (show w14.heap[Vv]? = some (.cells #[.int .i64 u.kind, .string u.name, .string u.num, .int .u64 u.bits, .int .i64 u.var, .slice qv u.args.length cv] 25 (0, 0)) from PV.out)
    go_wp2_with (first
      | (go_at_call 25; (with_reducible refine (CS.out _ qu qv cu cv AU.out AV.out).mono ?_); rintro y w15 ⟨rfl, hb15⟩; replace BW := hid (BW.out.trans (Below.mono hb15 BW.out.size)); clear hb15)
      | fail)
    go_ret
    exact ⟨rfl, BW.out⟩
  · have hq : (ue == 0) = false := beq_eq_false_iff_ne.2 hue0
    clear CE CSL CSE PE PX AX hE1 hue0
    obtain ⟨w9, rfl⟩ : ∃ w9, w9 = w4 := ⟨_, rfl⟩
    obtain ⟨⟨t0, t1, t2, t3, t4, t5⟩, _⟩ := six_free (show w9.heap[w.heap.size]? = some (.cells #[.int .i64 t.kind, .string t.name, .string t.num, .int .u64 t.bits, .int .i64 t.var, .slice pt t.args.length ct] 25 (0, 0)) from PT.out)
    go_upto_region 11 with (first
      | (go_at_call 23; (with_reducible refine (CP.out _ BW.out).mono ?_); rintro y w10 ⟨qu, cu, rfl, hu, hb10⟩; replace PT := hid (obj_keep PT.out hb10); replace BW := hid (BW.out.trans (Below.mono hb10 BW.out.size)); have AU := hid hu; clear hb10 hu CP)
      | fail)
    clear t0 t1 t2 t3 t4 t5
    obtain ⟨Uu, hUu⟩ : ∃ Uu, Uu = w10.heap.size := ⟨_, rfl⟩
    obtain ⟨V, hV⟩ : ∃ V, V = w10.alloc (.cells #[.int .i64 u.kind, .string u.name, .string u.num, .int .u64 u.bits, .int .i64 u.var, .slice qu u.args.length cu] 25) := ⟨_, rfl⟩
    rw [← hV, ← hUu]
    have hbV := hid (show Below w10.heap.size w10 V by rw [hV]; exact (Below.refl _ _).alloc (Nat.le_refl _) _)
    have PU := hid (show V.heap[Uu]? = some (.cells #[.int .i64 u.kind, .string u.name, .string u.num, .int .u64 u.bits, .int .i64 u.var, .slice qu u.args.length cu] 25 (0, 0)) by rw [hV, hUu]; exact heap_alloc_new w10 _)
    replace PT := hid (obj_keep PT.out hbV.out)
    replace AU := hid (AU.out.keep hbV.out)
    replace BW := hid (BW.out.trans (Below.mono hbV.out BW.out.size))
    clear hV hbV hUu
    obtain ⟨w11, rfl⟩ : ∃ w11, w11 = V := ⟨_, rfl⟩
    by_cases hup0 : up = 0
    rotate_left
    · have hq : (up == 0) = false := beq_eq_false_iff_ne.2 hup0
      have hq2 : (up != 0) = true := by simp [hup0]
      clear hup0
      go_wp2_with fail
      go_ret
      exact ⟨rfl, BW.out⟩
    obtain rfl : up = 0 := hup0
    obtain ⟨m, CMm, CPm⟩ := CM.out rfl
    replace CMm := hid CMm
    replace CPm := hid CPm
    clear CM
    obtain ⟨⟨t0, t1, t2, t3, t4, t5⟩, _⟩ := six_free (show w11.heap[w.heap.size]? = some (.cells #[.int .i64 t.kind, .string t.name, .string t.num, .int .u64 t.bits, .int .i64 t.var, .slice pt t.args.length ct] 25 (0, 0)) from PT.out)
    obtain ⟨⟨u0, u1, u2, u3, u4, u5⟩, _⟩ := six_free (show w11.heap[Uu]? = some (.cells #[.int .i64 u.kind, .string u.name, .string u.num, .int .u64 u.bits, .int .i64 u.var, .slice qu u.args.length cu] 25 (0, 0)) from PU.out)
    go_upto_region 14 with (first
      | (go_at_call 37; (with_reducible refine (CMm.out _ qu cu AU.out BW.out).mono ?_); rintro y w12 ⟨qm, cm, rfl, hm, hb12⟩; replace PT := hid (obj_keep PT.out hb12); replace PU := hid (obj_keep PU.out hb12); replace AU := hid (AU.out.keep hb12); replace BW := hid (BW.out.trans (Below.mono hb12 BW.out.size)); have AM := hid hm; clear hb12 hm CMm)
      | fail)
    clear t0 t1 t2 t3 t4 t5 u0 u1 u2 u3 u4 u5
    obtain ⟨⟨t0, t1, t2, t3, t4, t5⟩, _⟩ := six_free (show w12.heap[w.heap.size]? = some (.cells #[.int .i64 t.kind, .string t.name, .string t.num, .int .u64 t.bits, .int .i64 t.var, .slice pt t.args.length ct] 25 (0, 0)) from PT.out)
    go_upto_region 17 with (first
      | (go_at_call 23; (with_reducible refine (CPm.out _ qm cm AM.out BW.out).mono ?_); rintro y w13 ⟨qv, cv, rfl, hv, hb13⟩; replace PT := hid (obj_keep PT.out hb13); replace PU := hid (obj_keep PU.out hb13); replace AU := hid (AU.out.keep hb13); replace AM := hid (AM.out.keep hb13); replace BW := hid (BW.out.trans (Below.mono hb13 BW.out.size)); have AV := hid hv; clear hb13 hv CPm)
      | fail)
    clear t0 t1 t2 t3 t4 t5
    obtain ⟨Vv, hVv⟩ : ∃ Vv, Vv = w13.heap.size := ⟨_, rfl⟩
    obtain ⟨V, hV⟩ : ∃ V, V = w13.alloc (.cells #[.int .i64 u.kind, .string u.name, .string u.num, .int .u64 u.bits, .int .i64 u.var, .slice qv u.args.length cv] 25) := ⟨_, rfl⟩
    rw [← hV, ← hVv]
    have hbV := hid (show Below w13.heap.size w13 V by rw [hV]; exact (Below.refl _ _).alloc (Nat.le_refl _) _)
    have PV := hid (show V.heap[Vv]? = some (.cells #[.int .i64 u.kind, .string u.name, .string u.num, .int .u64 u.bits, .int .i64 u.var, .slice qv u.args.length cv] 25 (0, 0)) by rw [hV, hVv]; exact heap_alloc_new w13 _)
    replace PT := hid (obj_keep PT.out hbV.out)
    replace PU := hid (obj_keep PU.out hbV.out)
    replace AU := hid (AU.out.keep hbV.out)
    replace AM := hid (AM.out.keep hbV.out)
    replace AV := hid (AV.out.keep hbV.out)
    replace BW := hid (BW.out.trans (Below.mono hbV.out BW.out.size))
    clear hV hbV hVv
    obtain ⟨w14, rfl⟩ : ∃ w14, w14 = V := ⟨_, rfl⟩
    obtain ⟨⟨u0, u1, u2, u3, u4, u5⟩, _⟩ := six_free (show w14.heap[Uu]? = some (.cells #[.int .i64 u.kind, .string u.name, .string u.num, .int .u64 u.bits, .int .i64 u.var, .slice qu u.args.length cu] 25 (0, 0)) from PU.out)
    obtain ⟨⟨v0, v1, v2, v3, v4, v5⟩, _⟩ := six_free (show w14.heap[Vv]? = some (.cells #[.int .i64 u.kind, .string u.name, .string u.num, .int .u64 u.bits, .int .i64 u.var, .slice qv u.args.length cv] 25 (0, 0)) from PV.out)
    go_wp2_with (first
      | (go_at_call 25; (with_reducible refine (CS.out _ qu qv cu cv AU.out AV.out).mono ?_); rintro y w15 ⟨rfl, hb15⟩; replace BW := hid (BW.out.trans (Below.mono hb15 BW.out.size)); clear hb15)
      | fail)
    go_ret
    exact ⟨rfl, BW.out⟩
end Go.Proofs.YtkapejcbmonfkaaGreatDoor

namespace Go.Proofs.YtkapejcbmonfkaaGreatDoor
open Go.ChangeShapes Go.WideShapes Go.ChangeAt Go.RowKit Go.Joins Go.ChangeMaps

theorem backs_params : ∀ t ∈ Tryz.f9.params.toList, Tryz.prog.readableRec t = true ∧ t < Tryz.prog.types.size := by
  intro t ht
  rw [Tryz.params9] at ht
  simp at ht
  rcases ht with rfl | rfl | rfl
  · exact readsL
  · exact readsT
  · exact readsB

set_option maxRecDepth 100000 in
theorem backs_contract (H : Type) (enc : TypeId × Value → H) (W : World) (base : Nat) (args : Array Value) (ds gs : List (DataW H)) (before : List MemPlace)
    (hval : ∀ (j : Nat) t v, Tryz.f9.params[j]? = some t → args[j]? = some v → Value.okWide Tryz.prog W .any base t v)
    (hW : DataW.Whole enc Tryz.prog Tryz.f9.params.toList Rows.termBackSpec.vars false W args.toList ds gs before) (hL : laidMet Tryz.prog theLaid W) {vt : List TypeId} (hsz : (DataW.weightsEach Tryz.prog (Tryz.f9.params.toList ++ vt) (ds ++ gs)).all (· ≤ reachBytes) = true) :
    Calls Tryz.prog 9 args W fun e W' => ∃ v, e = .returned v ∧ Rows.termBackSpec.post enc Tryz.prog Tryz.f9 false true false false W args v W' := by
  have hU := laid_facts hL
  have hW' := hW
  obtain ⟨p, q, hA0, hV, rfl, hfz, hnd⟩ := hW
  have hA : DataW.TrodAll enc Tryz.prog W 0 (fun _ => true) true Tryz.f9.params.toList args.toList ds p := hA0
  rw [Tryz.params9] at hA hval hsz
  obtain ⟨v0, vs0, d0, ds0, p0, q0', hargs, rfl, rfl, h0, r0⟩ := trodAll_cons hA
  obtain ⟨v1, vs1, d1, ds1, p1, q1', rfl, rfl, rfl, h1, r1⟩ := trodAll_cons r0
  obtain ⟨v2, vs2, d2, ds2, p2, q2', rfl, rfl, rfl, h2, r2⟩ := trodAll_cons r1
  obtain ⟨rfl, rfl, rfl⟩ := trodAll_nil r2
  obtain rfl : args = #[v0, v1, v2] := by cases args; simp_all
  obtain ⟨t0, q0, c0, rfl, hT0, hD0, k0⟩ := open_list (hval 0 23 v0 rfl rfl) h0
  have l0 := list_reach hsz (j := 0) rfl rfl k0
  obtain ⟨t1, q1, c1, rfl, hT1, hD1⟩ := open_term (hval 1 25 v1 rfl rfl) h1
  obtain ⟨t2, q2, c2, rfl, lc2, lb2, hT2, hD2, hC2, hw2⟩ := open_binds (hval 2 45 v2 rfl rfl) (fun n hn => of_decide_eq_true (List.all_eq_true.1 hsz n (DataW.weights_mem_each (j := 2) rfl rfl n hn))) h2
  refine (backs_yes t0 t1 t2 q0 q1 q2 c0 c1 c2 W hU hT0 hT1 hT2 hD0 hD1 hD2 hw2 l0 (by omega)).mono fun e W' ⟨he, hb⟩ => ⟨_, he, ?_⟩
  exact law_post backs_params rfl rfl rfl rfl rfl hW' hb

/-- The world of the witness. -/
noncomputable def backsWorld (os : Os) : World := World.laidAll Tryz.prog os Rows.termBackRow.laid
noncomputable def backsArgs : Array Value := #[.slice none 0 0, .agg #[.int .i64 0, .string ByteArray.empty, .string ByteArray.empty, .int .u64 0, .int .i64 0, .slice none 0 0], .slice none 0 0]
set_option maxRecDepth 100000 in
theorem backs_laid (os : Os) : laidMet Tryz.prog Rows.termBackRow.laid ((backsWorld os).forCall (fun _ _ => 0) ⟨#[], backsArgs, []⟩).memory :=
  laidMet_laidAll _ (by kernel_rfl) (by kernel_rfl)
set_option maxRecDepth 100000 in
theorem backs_reads (os : Os) {H : Type} (enc : TypeId × Value → H) : ∃ places, DataW.whole enc Tryz.prog ((backsWorld os).forCall (fun _ _ => 0) ⟨#[], backsArgs, []⟩).memory Tryz.f9.params.toList Rows.termBackSpec.vars false backsArgs.toList 8 =
    some ([.nil, .agg [.lit (.int .i64 0), .lit (.string []), .lit (.string []), .lit (.int .u64 0), .lit (.int .i64 0), .nil], .nil], [], places) :=
  ⟨[], by kernel_rfl⟩

set_option maxRecDepth 100000 in
theorem backs_lifted (os : Os) (started : os.Started) (H : Type) (enc : TypeId × Value → H) (F : Stop.Interp) :
    ReturnsInHanded {} Tryz.checked os 9 .any ((OpenSpec.ofChange Rows.termBackSpec).preRow enc Tryz.prog Tryz.f9 Rows.termBackRow.domain false Rows.termBackRow.laid) (((OpenSpec.ofChange Rows.termBackSpec).at F).post enc Tryz.prog Tryz.f9 false true false false) := by
  obtain ⟨places, hx⟩ := backs_reads os enc
  refine returnsInHanded_of_row (C := Tryz.checked) (s := OpenSpec.ofChange Rows.termBackSpec) own started (by kernel_rfl) Tryz.func9
    (witness_row_atRef (enc := enc) (C := Tryz.checked) false (backsWorld os) backsArgs (World.laidAll_os _ _ _) (by kernel_rfl) (by kernel_rfl) (by kernel_rfl)
      (OpenSpec.preRow_of_cond 8 hx (by kernel_rfl) (fun k hk => by cases hk) (by kernel_rfl) (backs_laid os))) ?_
  intro W base args ds gs before hval hW _ _ hsz hL _ _
  exact backs_contract H enc W base args ds gs before hval hW hL hsz

set_option maxRecDepth 100000 in
theorem backs_said : Rows.TermBackSaid :=
  OpenClaim.holds_of_cond 9 Tryz.f9 rfl rfl rfl rfl rfl rfl rfl ⟨rfl, rfl, rfl, rfl, rfl⟩ rfl rfl rfl rfl rfl (by kernel_rfl) Tryz.func9 (by kernel_rfl)
    (of_decide_eq_true (by kernel_rfl)) (by unfold Func.isWrapper; first | (rw [if_pos (by decide +kernel)]; kernel_rfl) | (rw [if_neg (by decide +kernel)]; exact ⟨rfl, rfl⟩))
    (fun os started H enc _ F => by rw [OpenClaim.pre_eq_preRow]; exact backs_lifted os started H enc F)

set_option maxRecDepth 100000 in
theorem backs_plain (f : FuncId) (fn : Func) (hf : Tryz.pinned.checked.prog.funcNamed "hornbeam/hornbeamlaw02.TermBack" = some f) (hfn : Tryz.pinned.checked.prog.funcs[f]? = some fn) :
    false = Tryz.pinned.checked.prog.looks [] ∧ ∀ (j : Nat) t, fn.params[j]? = some t → Tryz.pinned.checked.prog.wantsStandIn t = false := by
  obtain rfl : f = 9 := Option.some.inj ((show Tryz.prog.funcNamed "hornbeam/hornbeamlaw02.TermBack" = some 9 by kernel_rfl).symm.trans hf) |>.symm
  obtain rfl : fn = Tryz.f9 := (Option.some.inj (Tryz.func9.symm.trans hfn)).symm
  refine ⟨by kernel_rfl, fun j t ht => ?_⟩
  rw [Tryz.params9] at ht
  have hm := Array.mem_of_getElem? ht
  simp at hm
  rcases hm with rfl | rfl | rfl
  · exact (show Tryz.prog.wantsStandIn 23 = false by kernel_rfl)
  · exact (show Tryz.prog.wantsStandIn 25 = false by kernel_rfl)
  · exact (show Tryz.prog.wantsStandIn 45 = false by kernel_rfl)

set_option maxRecDepth 100000 in
theorem backs_card : Rows.TermBackCardSaid :=
  Claim7.holds_tied_plain_at .later [] _ _ _ _ backs_said (fun _ h => by cases h) (by kernel_rfl) (fun _ h => by cases h) termBack_row_tie rfl ⟨rfl, rfl⟩ (by kernel_rfl) rfl backs_plain (by kernel_rfl)
end Go.Proofs.YtkapejcbmonfkaaGreatDoor
