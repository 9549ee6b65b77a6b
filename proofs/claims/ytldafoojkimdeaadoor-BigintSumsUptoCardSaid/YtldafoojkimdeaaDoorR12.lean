/- What the laws' second forms want for their rows: an integer among arguments of small bulk, opened. No condition but those that each theorem names. -/
import Derived.Test.YtldafoojkimdeaaDoorW36
namespace Go.Proofs.YtldafoojkimdeaaDoor
open Go.ChangeShapes Go.WideShapes Go.ChangeAt Go.RowKit Go.Joins Lm

theorem bulk_pos {H : Type} (d : DataW H) : 1 ≤ Rows.uptoBulk d := by
  cases d with
  | lit l => cases l <;> simp [Rows.uptoBulk]
  | nil => simp [Rows.uptoBulk]
  | ptr d => simp [Rows.uptoBulk]
  | slice elems spare => simp [Rows.uptoBulk]
  | agg parts => simp [Rows.uptoBulk]
  | iface t d => simp [Rows.uptoBulk]
  | map entries => simp [Rows.uptoBulk]
  | held h => simp [Rows.uptoBulk]
theorem bulk_mem {H : Type} {d : DataW H} {l : List (DataW H)} (h : d ∈ l) : Rows.uptoBulk d ≤ Rows.uptoBulkAll l := by
  induction l with
  | nil => cases h
  | cons x r ih =>
    simp only [Rows.uptoBulkAll]
    rcases List.mem_cons.1 h with e | e
    · subst e; omega
    · have := ih e; omega
theorem bulk_len {H : Type} (l : List (DataW H)) : l.length ≤ Rows.uptoBulkAll l := by
  induction l with
  | nil => simp [Rows.uptoBulkAll]
  | cons x r ih => have := bulk_pos x; simp only [Rows.uptoBulkAll, List.length_cons]; omega

section
variable {H : Type} {enc : TypeId × Value → H} {W : World}
set_option maxRecDepth 100000 in
/-- An integer among arguments of small bulk: its sign, and limbs that can be read; nil has no room. -/
theorem open_num2 {t : TypeId} (ht : t = 24) {ts : List TypeId} {ds : List (DataW H)} {j base : Nat} {v : Value} {d : DataW H} {p : List MemPlace} (hsz : (DataW.weightsEach Tryd.prog ts ds).all (· ≤ reachBytes) = true) (hj : ts[j]? = some 24) (hd : ds[j]? = some d)
    (hval : Value.okWide Tryd.prog W .any base t v) (h : DataW.Trod enc Tryd.prog W 0 (fun _ => true) true t v d p) (hk : Rows.uptoBulkAll ds ≤ 1048576) :
    ∃ n ao len cap A, v = .agg #[.bool n, .slice ao len cap] ∧ Rd W ao len cap A ∧ len ≤ 1048576 ∧ (ao = none → cap = 0) := by
  obtain ⟨n, ao, len, cap, A, rfl, hR⟩ := open_num ht hsz hj hd hval h
  refine ⟨n, ao, len, cap, A, rfl, hR, ?_⟩
  subst ht
  obtain ⟨c0, c1, y0, y1, m, e0, rfl, rfl, hy0, hy1⟩ := open_agg2 Tryd.underlying24 (by kernel_rfl) cells24 hval h
  obtain ⟨b, eb, -⟩ := DataW.trod_bool Tryd.underlying4 hy0
  have hb := Nat.le_trans (bulk_mem (List.mem_of_getElem? hd)) hk
  rcases open_ints Tryd.underlying22 Tryd.underlying43 cells43 hy1 with ⟨e1, _⟩ | ⟨a, len', cap', zs, e1, hba, hl, hm, hlen, hx, hcell, hwf⟩
  · simp only [List.cons.injEq, and_true] at eb e1
    subst eb; subst e1
    simp at e0
    obtain ⟨_, rfl, rfl, rfl⟩ := e0
    exact ⟨by omega, fun _ => rfl⟩
  · simp only [List.cons.injEq, and_true] at eb e1
    subst eb; subst e1
    simp at e0
    obtain ⟨_, rfl, rfl, rfl⟩ := e0
    have hzl : zs.length = cap := by simpa using hlen
    refine ⟨?_, fun e => by cases e⟩
    have e2 : y1.1 = .slice (lits .u32 (zs.take len)) (lits .u32 (zs.drop len)) := by rw [hx]
    have h1 := bulk_len (lits .u32 (zs.take len) : List (DataW H))
    have h2 : (lits .u32 (zs.take len) : List (DataW H)).length = len := by simp [lits]; omega
    simp only [Rows.uptoBulk, Rows.uptoBulkAll, e2] at hb
    omega
end
end Go.Proofs.YtldafoojkimdeaaDoor
