/- What every law of this seat wants for its row: an integer among the arguments opened; a post where nothing old is touched; the world of the witness. What the laws' second forms want for their rows: an integer among arguments of small bulk, opened. No condition but those that each theorem names. -/
import Derived.Test.YtldafoojkimdeaaDoorCards
import Derived.Test.YtldafoojkimdeaaDoorTie
import Derived.Test.YtldafoojkimdeaaDoorMem
import Derived.WalkKit
import Derived.ProofKit
import Derived.OpenShut
import Derived.Carry
import Derived.SizedLaws
import Derived.LaidMore
import Derived.Lay
import Derived.SevenTiedAt
import Derived.Deep.DeepHandedRow
import Derived.Lib.SmallJoins
namespace Go.Proofs.YtldafoojkimdeaaDoor
open Go.ChangeShapes Go.WideShapes Go.ChangeAt Go.RowKit Go.Joins Lm

theorem own : ownKnob Tryd.prog.godebug = none := by kernel_rfl
theorem laidOut : laidOutB Tryd.prog = true := by kernel_rfl
theorem cells24 : Tryd.prog.cellsOf 24 = 2 := by kernel_rfl
theorem cells43 : Tryd.prog.cellsOf 43 = 1 := by kernel_rfl
theorem bytes43 : Tryd.prog.bytesOf 43 = 4 := by kernel_rfl
theorem reads24 : Tryd.prog.readableRec 24 = true ∧ 24 < Tryd.prog.types.size := ⟨by kernel_rfl, of_decide_eq_true (by kernel_rfl)⟩
theorem reads3 : Tryd.prog.readableRec 3 = true ∧ 3 < Tryd.prog.types.size := ⟨by kernel_rfl, of_decide_eq_true (by kernel_rfl)⟩

theorem u32_bounds {z : Int} (h : (Lit.int .u32 z).wf = true) : 0 ≤ z ∧ z < 4294967296 := by
  have := bounds_u32 h
  omega
theorem most_of {n : Nat} (h : n * 4 ≤ reachBytes) : n ≤ 70368744177664 := by
  unfold reachBytes at h
  omega

section
variable {H : Type} {enc : TypeId × Value → H} {W W' : World}

theorem trodAll_below (hb : Below W.heap.size W W') : ∀ {ts : List TypeId} {vs : List Value} {ds : List (DataW H)} {ps : List MemPlace}, (∀ t ∈ ts, Tryd.prog.readableRec t = true ∧ t < Tryd.prog.types.size) →
    DataW.TrodAll enc Tryd.prog W 0 (fun _ => true) true ts vs ds ps → DataW.TrodAll enc Tryd.prog W' 0 (fun b => decide (b < W.heap.size)) true ts vs ds ps
  | [], vs, ds, ps, _, h => by
    obtain ⟨rfl, rfl, rfl⟩ := trodAll_nil h
    exact trodAll_mk0
  | t :: ts, vs, ds, ps, ht, h => by
    have hlt := h.lt
    obtain ⟨v, vs', d, ds', p, q, rfl, rfl, rfl, h0, hr⟩ := trodAll_cons h
    obtain ⟨h1, h2⟩ := ht t List.mem_cons_self
    exact trodAll_cons_mk (Below.trod laidOut h1 h2 h0 hb fun x hx => hlt x (List.mem_append_left _ hx)) (trodAll_below hb (fun t' h' => ht t' (List.mem_cons_of_mem _ h')) hr)

/-- A law's post: it answered true, and nothing that was there has turned. -/
theorem law_post {f : Func} {s : ChangeSpec} {args : Array Value} {ds gs : List (DataW H)} {before : List MemPlace} (hts : ∀ t ∈ f.params.toList, Tryd.prog.readableRec t = true ∧ t < Tryd.prog.types.size) (hres : f.resultTypes = #[4])
    (hv : s.vars = []) (hr : (s.fn H ds).results = [.lit (.bool true)]) (ha : (s.fn H ds).args = ds) (hw : (s.fn H ds).vars = [])
    (hW : DataW.Whole enc Tryd.prog f.params.toList s.vars false W args.toList ds gs before) (hb : Below W.heap.size W W') : s.post enc Tryd.prog f false true false false W args (.bool true) W' := by
  have hW0 := hW
  obtain ⟨p, q, hA, hV, rfl, _, _⟩ := hW
  rw [hv] at hV
  obtain ⟨rfl, rfl⟩ := trodVars_none hV
  refine ⟨ds, [], p ++ [], [], p ++ [], [], hW0, ?_, ?_, ?_, hb.frame _, fun h => by cases h⟩
  · rw [hres, List.append_nil, hr]
    exact trodAll_mk1 (shut_bool Tryd.underlying4 _)
  · rw [List.append_nil, List.append_nil, ha]
    exact trodAll_below hb hts hA
  · rw [hv, List.append_nil, hw]
    exact rfl

set_option maxRecDepth 100000 in
/-- An integer among the arguments: its sign, and limbs that can be read. -/
theorem open_num {t : TypeId} (ht : t = 24) {ts : List TypeId} {ds : List (DataW H)} {j base : Nat} {v : Value} {d : DataW H} {p : List MemPlace} (hsz : (DataW.weightsEach Tryd.prog ts ds).all (· ≤ reachBytes) = true) (hj : ts[j]? = some 24) (hd : ds[j]? = some d)
    (hval : Value.okWide Tryd.prog W .any base t v) (h : DataW.Trod enc Tryd.prog W 0 (fun _ => true) true t v d p) : ∃ n ao len cap A, v = .agg #[.bool n, .slice ao len cap] ∧ Rd W ao len cap A := by
  subst ht
  obtain ⟨c0, c1, y0, y1, m, rfl, rfl, rfl, hy0, hy1⟩ := open_agg2 Tryd.underlying24 (by kernel_rfl) cells24 hval h
  obtain ⟨b, e0, -⟩ := DataW.trod_bool Tryd.underlying4 hy0
  rcases open_ints Tryd.underlying22 Tryd.underlying43 cells43 hy1 with ⟨e1, _⟩ | ⟨a, len, cap, zs, e1, hba, hl, hm, hlen, hx, hcell, hwf⟩
  · simp only [List.cons.injEq, and_true] at e0 e1
    subst e0; subst e1
    exact ⟨b, none, 0, 0, [], rfl, rfl, Ok.nil, Nat.le_refl _, Nat.zero_le _, fun h => absurd h (Nat.lt_irrefl 0)⟩
  · simp only [List.cons.injEq, and_true] at e0 e1
    subst e0; subst e1
    have hzl : zs.length = cap := by simpa using hlen
    have hw : (zs.length * 4) ≤ reachBytes := by
      have h1 := List.all_eq_true.1 hsz _ (DataW.weights_mem_each hj hd (zs.length * 4) (by
        have e2 : y1.1 = .slice (lits .u32 (zs.take len)) (lits .u32 (zs.drop len)) := by rw [hx]
        rw [e2]
        have e3 : (lits .u32 (zs.take len) : List (DataW H)).length + (lits .u32 (zs.drop len) : List (DataW H)).length = zs.length := by simp [lits]; omega
        simp [DataW.weights, DataW.weightsEach, Tryd.underlying24, Tryd.underlying22, bytes43, e3]))
      simpa using h1
    have hmost := most_of hw
    have hA : ((zs.take len).map Int.toNat).length = len := by rw [List.length_map, List.length_take, hzl, Nat.min_eq_left hl]
    have hnn : ∀ z ∈ zs, 0 ≤ z ∧ z < 4294967296 := fun z hz => u32_bounds (hwf z hz)
    refine ⟨b, some a, len, cap, (zs.take len).map Int.toNat, rfl, hA, ?_, hl, by omega, fun h0 => ?_⟩
    · intro x hx'
      obtain ⟨z, hz, rfl⟩ := List.mem_map.1 hx'
      have := hnn z (List.mem_of_mem_take hz)
      omega
    · obtain ⟨g, off, rfl, hc⟩ := ints_at hcell (by omega)
      refine ⟨g, off, rfl, fun i hi => ?_⟩
      rw [hc i (by omega)]
      have hz : dg ((zs.take len).map Int.toNat) i = (zs.getD i 0).toNat := by
        unfold dg
        rw [getD_in _ _ (by omega), List.getElem_map, List.getElem_take]
        simp [List.getD, show i < zs.length by omega]
      have hm : zs.getD i 0 ∈ zs := by
        simp [List.getD, show i < zs.length by omega]
      rw [hz, Int.toNat_of_nonneg (hnn _ hm).1]
end
end Go.Proofs.YtldafoojkimdeaaDoor

namespace Go.Proofs.YtldafoojkimdeaaDoor
open Go.ChangeShapes Go.WideShapes Go.ChangeAt Go.RowKit Go.Joins Lm

theorem bulk_pos {H : Type} (d : DataW H) : 1 ≤ Rows.uptoBulk d := by
  cases d with
  | lit l => cases l <;> simp [Rows.uptoBulk]
  | nil => simp [Rows.uptoBulk]
  | ptr d => simp [Rows.uptoBulk]
  | slice elems spare => simp [Rows.uptoBulk]
  | agg parts => simp [Rows.uptoBulk]
  | iface t d => simp [Rows.uptoBulk]
  | map entries => simp [Rows.uptoBulk]
  | held h => simp [Rows.uptoBulk]
theorem bulk_mem {H : Type} {d : DataW H} {l : List (DataW H)} (h : d ∈ l) : Rows.uptoBulk d ≤ Rows.uptoBulkAll l := by
  induction l with
  | nil => cases h
  | cons x r ih =>
    simp only [Rows.uptoBulkAll]
    rcases List.mem_cons.1 h with e | e
    · subst e; omega
    · have := ih e; omega
theorem bulk_len {H : Type} (l : List (DataW H)) : l.length ≤ Rows.uptoBulkAll l := by
  induction l with
  | nil => simp [Rows.uptoBulkAll]
  | cons x r ih => have := bulk_pos x; simp only [Rows.uptoBulkAll, List.length_cons]; omega

section
variable {H : Type} {enc : TypeId × Value → H} {W : World}
set_option maxRecDepth 100000 in
/-- An integer among arguments of small bulk: its sign, and limbs that can be read; nil has no room. -/
theorem open_num2 {t : TypeId} (ht : t = 24) {ts : List TypeId} {ds : List (DataW H)} {j base : Nat} {v : Value} {d : DataW H} {p : List MemPlace} (hsz : (DataW.weightsEach Tryd.prog ts ds).all (· ≤ reachBytes) = true) (hj : ts[j]? = some 24) (hd : ds[j]? = some d)
    (hval : Value.okWide Tryd.prog W .any base t v) (h : DataW.Trod enc Tryd.prog W 0 (fun _ => true) true t v d p) (hk : Rows.uptoBulkAll ds ≤ 1048576) :
    ∃ n ao len cap A, v = .agg #[.bool n, .slice ao len cap] ∧ Rd W ao len cap A ∧ len ≤ 1048576 ∧ (ao = none → cap = 0) := by
  obtain ⟨n, ao, len, cap, A, rfl, hR⟩ := open_num ht hsz hj hd hval h
  refine ⟨n, ao, len, cap, A, rfl, hR, ?_⟩
  subst ht
  obtain ⟨c0, c1, y0, y1, m, e0, rfl, rfl, hy0, hy1⟩ := open_agg2 Tryd.underlying24 (by kernel_rfl) cells24 hval h
  obtain ⟨b, eb, -⟩ := DataW.trod_bool Tryd.underlying4 hy0
  have hb := Nat.le_trans (bulk_mem (List.mem_of_getElem? hd)) hk
  rcases open_ints Tryd.underlying22 Tryd.underlying43 cells43 hy1 with ⟨e1, _⟩ | ⟨a, len', cap', zs, e1, hba, hl, hm, hlen, hx, hcell, hwf⟩
  · simp only [List.cons.injEq, and_true] at eb e1
    subst eb; subst e1
    simp at e0
    obtain ⟨_, rfl, rfl, rfl⟩ := e0
    exact ⟨by omega, fun _ => rfl⟩
  · simp only [List.cons.injEq, and_true] at eb e1
    subst eb; subst e1
    simp at e0
    obtain ⟨_, rfl, rfl, rfl⟩ := e0
    have hzl : zs.length = cap := by simpa using hlen
    refine ⟨?_, fun e => by cases e⟩
    have e2 : y1.1 = .slice (lits .u32 (zs.take len)) (lits .u32 (zs.drop len)) := by rw [hx]
    have h1 := bulk_len (lits .u32 (zs.take len) : List (DataW H))
    have h2 : (lits .u32 (zs.take len) : List (DataW H)).length = len := by simp [lits]; omega
    simp only [Rows.uptoBulk, Rows.uptoBulkAll, e2] at hb
    omega
end
end Go.Proofs.YtldafoojkimdeaaDoor
