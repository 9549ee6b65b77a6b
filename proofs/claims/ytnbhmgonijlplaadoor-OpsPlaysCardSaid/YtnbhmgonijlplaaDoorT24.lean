/- The law OpsAdds answers true whatever was added, where the program's tables of words and of blanks lie as its text lays them. -/
import Derived.Test.YtnbhmgonijlplaaDoorT23
import Derived.Laws.StructEq
namespace Go.Proofs.YtnbhmgonijlplaaDoor
open Go.RowKit Go.Maps

instance : DecidableEq Opn := fun x y => by
  obtain ⟨n1, t1, p1⟩ := x
  obtain ⟨n2, t2, p2⟩ := y
  exact decidable_of_iff (n1.data.toList = n2.data.toList ∧ t1 = t2 ∧ p1 = p2) ⟨fun ⟨h1, h2, h3⟩ => by
    have : n1 = n2 := ByteArray.ext (Array.toList_inj.1 h1)
    subst this h2 h3; rfl, fun h => by cases h; exact ⟨rfl, rfl, rfl⟩⟩
def opEq (x y : Opn) : Bool := decide (x = y)
theorem eq39 (x y : Opn) (w : World) : (binOp .eql 39 (.agg #[.string x.name, .int .i64 x.typ, .int .i64 x.pri]) (.agg #[.string y.name, .int .i64 y.typ, .int .i64 y.pri])).run Tryd.prog w = .ok (.bool (opEq x y)) w := by
  have u3 := Tryd.underlying3
  have a3 := Tryd.isAgg3
  have z3 := Tryd.sizeOf3
  have u9 := Tryd.underlying9
  have a9 := Tryd.isAgg9
  have z9 := Tryd.sizeOf9
  have hS : Tryd.prog.underlying 39 = some (.struct (Tryd.prog.fieldsOf 39)) := by kernel_rfl
  have hp : Tryd.prog.stoodInHeld 39 = false := by kernel_rfl
  rw [run_eql_struct, show (10000 : Nat) = 9999 + 1 from rfl, run_equalIn_agg w 9999 39 _ _ hS hp]
  simp only [Program.fieldsOf, Tryd.underlying39]
  have e : opEq x y = ((x.name.toList == y.name.toList) && (x.typ == y.typ) && (x.pri == y.pri)) := by
    obtain ⟨n1, t1, p1⟩ := x
    obtain ⟨n2, t2, p2⟩ := y
    unfold opEq
    rw [Bool.eq_iff_iff, decide_eq_true_iff, Bool.and_eq_true, Bool.and_eq_true, beq_iff_eq, beq_iff_eq, beq_iff_eq, Lib.toList_data, Lib.toList_data]
    constructor
    · intro h; cases h; exact ⟨⟨rfl, rfl⟩, rfl⟩
    · rintro ⟨⟨h1, h2⟩, h3⟩
      simp only at h1 h2 h3
      have : n1 = n2 := ByteArray.ext (Array.toList_inj.1 h1)
      subst this h2 h3; rfl
  rw [e]
  go_simp
  by_cases h1 : x.name.toList = y.name.toList <;> by_cases h2 : x.typ = y.typ <;> by_cases h3 : x.pri = y.pri <;> simp [h1, h2, h3]

/-- How often the operators of one list stand in another one, all together. -/
def cross (l was : List Opn) : Nat := (l.map (fun y => was.count y)).sum
theorem count_snoc (l : List Opn) (k : Nat) (h : k < l.length) (x : Opn) : (l.take (k + 1)).count x = (l.take k).count x + if opEq l[k] x = true then 1 else 0 := by
  rw [List.take_succ_eq_append_getElem h, List.count_append]
  congr 1
  unfold opEq
  rw [List.count_singleton]
  by_cases e : l[k] = x <;> simp [e]
theorem cross_snoc (l was : List Opn) (k : Nat) (h : k < l.length) : cross (l.take (k + 1)) was = cross (l.take k) was + was.count l[k] := by
  unfold cross
  rw [List.take_succ_eq_append_getElem h, List.map_append, List.sum_append]
  simp

theorem count_one {was : List Opn} (hw : was.Nodup) {x : Opn} (h : x ∈ was) : was.count x = 1 := by
  have h1 := List.nodup_iff_count.1 hw x
  have h2 := List.count_pos_iff.2 h
  omega
theorem count_le_len (l : List Opn) (x : Opn) : l.count x ≤ l.length := List.count_le_length
theorem cross_le {was : List Opn} (hw : was.Nodup) : ∀ l : List Opn, cross l was ≤ l.length
  | [] => by simp [cross]
  | y :: l => by
    have h := cross_le hw l
    have h2 : was.count y ≤ 1 := List.nodup_iff_count.1 hw y
    unfold cross at *
    simp only [List.map_cons, List.sum_cons, List.length_cons]
    omega
theorem cross_all {was : List Opn} (hw : was.Nodup) : ∀ {l : List Opn}, (∀ y ∈ l, y ∈ was) → cross l was = l.length
  | [], _ => by simp [cross]
  | y :: l, h => by
    have h1 := cross_all hw fun z hz => h z (List.mem_cons_of_mem _ hz)
    have h2 : was.count y = 1 := count_one hw (h y List.mem_cons_self)
    unfold cross at *
    simp only [List.map_cons, List.sum_cons, List.length_cons]
    omega
theorem cross_most {was : List Opn} (hw : was.Nodup) (x : Opn) : ∀ {l : List Opn}, l.Nodup → (∀ y ∈ l, y = x ∨ y ∈ was) → l.length ≤ cross l was + 1
  | [], _, _ => by simp
  | y :: l, hn, h => by
    obtain ⟨h1, h2⟩ := List.nodup_cons.1 hn
    by_cases e : y = x
    · subst e
      have h3 := cross_all hw (l := l) fun z hz => (h z (List.mem_cons_of_mem _ hz)).elim (fun e => absurd (e ▸ hz) h1) id
      unfold cross at *
      simp only [List.map_cons, List.sum_cons, List.length_cons]
      omega
    · have h3 := cross_most hw x h2 fun z hz => h z (List.mem_cons_of_mem _ hz)
      have h4 : was.count y = 1 := count_one hw ((h y List.mem_cons_self).resolve_left e)
      unfold cross at *
      simp only [List.map_cons, List.sum_cons, List.length_cons]
      omega

section
variable {F : Fn} {L M : List Opn} (hL : Told F L)
include hL
theorem told_len_del {c : Int} {s : ByteArray} (hM : Told (fset F c s none) M) : (∀ y ∈ M, y ∈ L) ∧ M.length ≤ L.length ∧ L.length ≤ M.length + 1 := by
  have h1 : ∀ y ∈ M, y ∈ L := fun y hy => (hL.mem y).2 (by
    rcases fset_some ((hM.mem y).1 hy) with ⟨_, _, e⟩ | ⟨_, e⟩
    · cases e
    · exact e)
  refine ⟨h1, nodup_sub hM.nodup h1, ?_⟩
  cases e : F c s with
  | none =>
    refine Nat.le_succ_of_le (nodup_sub hL.nodup fun y hy => (hM.mem y).2 ?_)
    have hy' := (hL.mem y).1 hy
    rw [fset_other _ _ (fun h => by rw [h.1, h.2, e] at hy'; cases hy')]
    exact hy'
  | some z =>
    refine Nat.le_trans (nodup_sub (m := z :: M) hL.nodup fun y hy => ?_) (by simp)
    have hy' := (hL.mem y).1 hy
    by_cases h : cls y.typ = c ∧ y.name = s
    · rw [h.1, h.2, e] at hy'; cases hy'; exact List.mem_cons_self
    · exact List.mem_cons_of_mem _ ((hM.mem y).2 (by rw [fset_other _ _ h]; exact hy'))
theorem told_len_put {k p : Int} {s : ByteArray} (hM : Told (fset F (cls k) s (some ⟨s, k, p⟩)) M) : (⟨s, k, p⟩ : Opn) ∈ M ∧ (∀ y ∈ M, y = ⟨s, k, p⟩ ∨ y ∈ L) ∧ L.length ≤ M.length ∧ M.length ≤ L.length + 1 := by
  have h0 : (⟨s, k, p⟩ : Opn) ∈ M := (hM.mem _).2 (fset_same _ _ _ _)
  have h1 : ∀ y ∈ M, y = ⟨s, k, p⟩ ∨ y ∈ L := fun y hy => by
    rcases fset_some ((hM.mem y).1 hy) with ⟨_, _, e⟩ | ⟨_, e⟩
    · cases e; exact .inl rfl
    · exact .inr ((hL.mem y).2 e)
  have h2 : M.length ≤ L.length + 1 := Nat.le_trans (nodup_sub (m := (⟨s, k, p⟩ : Opn) :: L) hM.nodup fun y hy => (h1 y hy).elim (fun e => e ▸ List.mem_cons_self) (List.mem_cons_of_mem _)) (by simp)
  refine ⟨h0, h1, ?_, h2⟩
  cases e : F (cls k) s with
  | none =>
    refine nodup_sub hL.nodup fun y hy => (hM.mem y).2 ?_
    have hy' := (hL.mem y).1 hy
    rw [fset_other _ _ (fun h => by rw [h.1, h.2, e] at hy'; cases hy')]
    exact hy'
  | some z =>
    by_cases hz : z = ⟨s, k, p⟩
    · refine nodup_sub hL.nodup fun y hy => (hM.mem y).2 ?_
      have hy' := (hL.mem y).1 hy
      by_cases h : cls y.typ = cls k ∧ y.name = s
      · rw [h.1, h.2, e] at hy'; cases hy'; rw [h.1, h.2, fset_same, hz]
      · rw [fset_other _ _ h]; exact hy'
    · have h3 : L.length ≤ (z :: M.erase ⟨s, k, p⟩).length := nodup_sub hL.nodup fun y hy => by
        have hy' := (hL.mem y).1 hy
        by_cases h : cls y.typ = cls k ∧ y.name = s
        · rw [h.1, h.2, e] at hy'; cases hy'; exact List.mem_cons_self
        · refine List.mem_cons_of_mem _ ((List.mem_erase_of_ne (fun (q : y = ⟨s, k, p⟩) => h (by rw [q]; exact ⟨rfl, rfl⟩))).2 ((hM.mem y).2 (by rw [fset_other _ _ h]; exact hy')))
      rw [List.length_cons, List.length_erase_of_mem h0] at h3
      have := List.length_pos_of_mem h0
      omega
end
end Go.Proofs.YtnbhmgonijlplaaDoor
