/- For every input of bulk at most 1048576 (values and letters together; beyond 2^45 limbs the law's own lists of bits would be longer than a slice can be) the law BigintDivides answers true and leaves its arguments alone: no other condition; the package-level tables that its row lists are tied to the program's text by the given tie. -/
import Derived.Test.YtldafoojkimdeaaDoorCards
import Derived.Test.YtldafoojkimdeaaDoorTie
import Derived.Test.YtldafoojkimdeaaDoorDividesM1
import Derived.WalkKit
import Derived.ProofKit
import Derived.OpenShut
import Derived.Carry
import Derived.SizedLaws
import Derived.LaidMore
import Derived.Lay
import Derived.SevenTiedAt
import Derived.Deep.DeepHandedRow
import Derived.Lib.SmallJoins
import Derived.Test.YtldafoojkimdeaaDoorDividesM12
namespace Go.Proofs.YtldafoojkimdeaaDoor
open Go.ChangeShapes Go.WideShapes Go.ChangeAt Go.RowKit Go.Joins Lm

theorem own : ownKnob Tryd.prog.godebug = none := by kernel_rfl
theorem laidOut : laidOutB Tryd.prog = true := by kernel_rfl
theorem cells24 : Tryd.prog.cellsOf 24 = 2 := by kernel_rfl
theorem cells43 : Tryd.prog.cellsOf 43 = 1 := by kernel_rfl
theorem bytes43 : Tryd.prog.bytesOf 43 = 4 := by kernel_rfl
theorem reads24 : Tryd.prog.readableRec 24 = true ∧ 24 < Tryd.prog.types.size := ⟨by kernel_rfl, of_decide_eq_true (by kernel_rfl)⟩
theorem reads3 : Tryd.prog.readableRec 3 = true ∧ 3 < Tryd.prog.types.size := ⟨by kernel_rfl, of_decide_eq_true (by kernel_rfl)⟩

theorem u32_bounds {z : Int} (h : (Lit.int .u32 z).wf = true) : 0 ≤ z ∧ z < 4294967296 := by
  have := bounds_u32 h
  omega
theorem most_of {n : Nat} (h : n * 4 ≤ reachBytes) : n ≤ 70368744177664 := by
  unfold reachBytes at h
  omega

section
variable {H : Type} {enc : TypeId × Value → H} {W W' : World}

theorem trodAll_below (hb : Below W.heap.size W W') : ∀ {ts : List TypeId} {vs : List Value} {ds : List (DataW H)} {ps : List MemPlace}, (∀ t ∈ ts, Tryd.prog.readableRec t = true ∧ t < Tryd.prog.types.size) →
    DataW.TrodAll enc Tryd.prog W 0 (fun _ => true) true ts vs ds ps → DataW.TrodAll enc Tryd.prog W' 0 (fun b => decide (b < W.heap.size)) true ts vs ds ps
  | [], vs, ds, ps, _, h => by
    obtain ⟨rfl, rfl, rfl⟩ := trodAll_nil h
    exact trodAll_mk0
  | t :: ts, vs, ds, ps, ht, h => by
    have hlt := h.lt
    obtain ⟨v, vs', d, ds', p, q, rfl, rfl, rfl, h0, hr⟩ := trodAll_cons h
    obtain ⟨h1, h2⟩ := ht t List.mem_cons_self
    exact trodAll_cons_mk (Below.trod laidOut h1 h2 h0 hb fun x hx => hlt x (List.mem_append_left _ hx)) (trodAll_below hb (fun t' h' => ht t' (List.mem_cons_of_mem _ h')) hr)

/-- A law's post: it answered true, and nothing that was there has turned. -/
theorem law_post {f : Func} {s : ChangeSpec} {args : Array Value} {ds gs : List (DataW H)} {before : List MemPlace} (hts : ∀ t ∈ f.params.toList, Tryd.prog.readableRec t = true ∧ t < Tryd.prog.types.size) (hres : f.resultTypes = #[4])
    (hv : s.vars = []) (hr : (s.fn H ds).results = [.lit (.bool true)]) (ha : (s.fn H ds).args = ds) (hw : (s.fn H ds).vars = [])
    (hW : DataW.Whole enc Tryd.prog f.params.toList s.vars false W args.toList ds gs before) (hb : Below W.heap.size W W') : s.post enc Tryd.prog f false true false false W args (.bool true) W' := by
  have hW0 := hW
  obtain ⟨p, q, hA, hV, rfl, _, _⟩ := hW
  rw [hv] at hV
  obtain ⟨rfl, rfl⟩ := trodVars_none hV
  refine ⟨ds, [], p ++ [], [], p ++ [], [], hW0, ?_, ?_, ?_, hb.frame _, fun h => by cases h⟩
  · rw [hres, List.append_nil, hr]
    exact trodAll_mk1 (shut_bool Tryd.underlying4 _)
  · rw [List.append_nil, List.append_nil, ha]
    exact trodAll_below hb hts hA
  · rw [hv, List.append_nil, hw]
    exact rfl

set_option maxRecDepth 100000 in
/-- An integer among the arguments: its sign, and limbs that can be read. -/
theorem open_num {t : TypeId} (ht : t = 24) {ts : List TypeId} {ds : List (DataW H)} {j base : Nat} {v : Value} {d : DataW H} {p : List MemPlace} (hsz : (DataW.weightsEach Tryd.prog ts ds).all (· ≤ reachBytes) = true) (hj : ts[j]? = some 24) (hd : ds[j]? = some d)
    (hval : Value.okWide Tryd.prog W .any base t v) (h : DataW.Trod enc Tryd.prog W 0 (fun _ => true) true t v d p) : ∃ n ao len cap A, v = .agg #[.bool n, .slice ao len cap] ∧ Rd W ao len cap A := by
  subst ht
  obtain ⟨c0, c1, y0, y1, m, rfl, rfl, rfl, hy0, hy1⟩ := open_agg2 Tryd.underlying24 (by kernel_rfl) cells24 hval h
  obtain ⟨b, e0, -⟩ := DataW.trod_bool Tryd.underlying4 hy0
  rcases open_ints Tryd.underlying22 Tryd.underlying43 cells43 hy1 with ⟨e1, _⟩ | ⟨a, len, cap, zs, e1, hba, hl, hm, hlen, hx, hcell, hwf⟩
  · simp only [List.cons.injEq, and_true] at e0 e1
    subst e0; subst e1
    exact ⟨b, none, 0, 0, [], rfl, rfl, Ok.nil, Nat.le_refl _, Nat.zero_le _, fun h => absurd h (Nat.lt_irrefl 0)⟩
  · simp only [List.cons.injEq, and_true] at e0 e1
    subst e0; subst e1
    have hzl : zs.length = cap := by simpa using hlen
    have hw : (zs.length * 4) ≤ reachBytes := by
      have h1 := List.all_eq_true.1 hsz _ (DataW.weights_mem_each hj hd (zs.length * 4) (by
        have e2 : y1.1 = .slice (lits .u32 (zs.take len)) (lits .u32 (zs.drop len)) := by rw [hx]
        rw [e2]
        have e3 : (lits .u32 (zs.take len) : List (DataW H)).length + (lits .u32 (zs.drop len) : List (DataW H)).length = zs.length := by simp [lits]; omega
        simp [DataW.weights, DataW.weightsEach, Tryd.underlying24, Tryd.underlying22, bytes43, e3]))
      simpa using h1
    have hmost := most_of hw
    have hA : ((zs.take len).map Int.toNat).length = len := by rw [List.length_map, List.length_take, hzl, Nat.min_eq_left hl]
    have hnn : ∀ z ∈ zs, 0 ≤ z ∧ z < 4294967296 := fun z hz => u32_bounds (hwf z hz)
    refine ⟨b, some a, len, cap, (zs.take len).map Int.toNat, rfl, hA, ?_, hl, by omega, fun h0 => ?_⟩
    · intro x hx'
      obtain ⟨z, hz, rfl⟩ := List.mem_map.1 hx'
      have := hnn z (List.mem_of_mem_take hz)
      omega
    · obtain ⟨g, off, rfl, hc⟩ := ints_at hcell (by omega)
      refine ⟨g, off, rfl, fun i hi => ?_⟩
      rw [hc i (by omega)]
      have hz : dg ((zs.take len).map Int.toNat) i = (zs.getD i 0).toNat := by
        unfold dg
        rw [getD_in _ _ (by omega), List.getElem_map, List.getElem_take]
        simp [List.getD, show i < zs.length by omega]
      have hm : zs.getD i 0 ∈ zs := by
        simp [List.getD, show i < zs.length by omega]
      rw [hz, Int.toNat_of_nonneg (hnn _ hm).1]
end
end Go.Proofs.YtldafoojkimdeaaDoor

namespace Go.Proofs.YtldafoojkimdeaaDoor
open Go.ChangeShapes Go.WideShapes Go.ChangeAt Go.RowKit Go.Joins Lm

theorem bulk_pos {H : Type} (d : DataW H) : 1 ≤ Rows.uptoBulk d := by
  cases d with
  | lit l => cases l <;> simp [Rows.uptoBulk]
  | nil => simp [Rows.uptoBulk]
  | ptr d => simp [Rows.uptoBulk]
  | slice elems spare => simp [Rows.uptoBulk]
  | agg parts => simp [Rows.uptoBulk]
  | iface t d => simp [Rows.uptoBulk]
  | map entries => simp [Rows.uptoBulk]
  | held h => simp [Rows.uptoBulk]
theorem bulk_mem {H : Type} {d : DataW H} {l : List (DataW H)} (h : d ∈ l) : Rows.uptoBulk d ≤ Rows.uptoBulkAll l := by
  induction l with
  | nil => cases h
  | cons x r ih =>
    simp only [Rows.uptoBulkAll]
    rcases List.mem_cons.1 h with e | e
    · subst e; omega
    · have := ih e; omega
theorem bulk_len {H : Type} (l : List (DataW H)) : l.length ≤ Rows.uptoBulkAll l := by
  induction l with
  | nil => simp [Rows.uptoBulkAll]
  | cons x r ih => have := bulk_pos x; simp only [Rows.uptoBulkAll, List.length_cons]; omega

section
variable {H : Type} {enc : TypeId × Value → H} {W : World}
set_option maxRecDepth 100000 in
/-- An integer among arguments of small bulk: its sign, and limbs that can be read; nil has no room. -/
theorem open_num2 {t : TypeId} (ht : t = 24) {ts : List TypeId} {ds : List (DataW H)} {j base : Nat} {v : Value} {d : DataW H} {p : List MemPlace} (hsz : (DataW.weightsEach Tryd.prog ts ds).all (· ≤ reachBytes) = true) (hj : ts[j]? = some 24) (hd : ds[j]? = some d)
    (hval : Value.okWide Tryd.prog W .any base t v) (h : DataW.Trod enc Tryd.prog W 0 (fun _ => true) true t v d p) (hk : Rows.uptoBulkAll ds ≤ 1048576) :
    ∃ n ao len cap A, v = .agg #[.bool n, .slice ao len cap] ∧ Rd W ao len cap A ∧ len ≤ 1048576 ∧ (ao = none → cap = 0) := by
  obtain ⟨n, ao, len, cap, A, rfl, hR⟩ := open_num ht hsz hj hd hval h
  refine ⟨n, ao, len, cap, A, rfl, hR, ?_⟩
  subst ht
  obtain ⟨c0, c1, y0, y1, m, e0, rfl, rfl, hy0, hy1⟩ := open_agg2 Tryd.underlying24 (by kernel_rfl) cells24 hval h
  obtain ⟨b, eb, -⟩ := DataW.trod_bool Tryd.underlying4 hy0
  have hb := Nat.le_trans (bulk_mem (List.mem_of_getElem? hd)) hk
  rcases open_ints Tryd.underlying22 Tryd.underlying43 cells43 hy1 with ⟨e1, _⟩ | ⟨a, len', cap', zs, e1, hba, hl, hm, hlen, hx, hcell, hwf⟩
  · simp only [List.cons.injEq, and_true] at eb e1
    subst eb; subst e1
    simp at e0
    obtain ⟨_, rfl, rfl, rfl⟩ := e0
    exact ⟨by omega, fun _ => rfl⟩
  · simp only [List.cons.injEq, and_true] at eb e1
    subst eb; subst e1
    simp at e0
    obtain ⟨_, rfl, rfl, rfl⟩ := e0
    have hzl : zs.length = cap := by simpa using hlen
    refine ⟨?_, fun e => by cases e⟩
    have e2 : y1.1 = .slice (lits .u32 (zs.take len)) (lits .u32 (zs.drop len)) := by rw [hx]
    have h1 := bulk_len (lits .u32 (zs.take len) : List (DataW H))
    have h2 : (lits .u32 (zs.take len) : List (DataW H)).length = len := by simp [lits]; omega
    simp only [Rows.uptoBulk, Rows.uptoBulkAll, e2] at hb
    omega
end
end Go.Proofs.YtldafoojkimdeaaDoor

namespace Go.Proofs.YtldafoojkimdeaaDoor
open Go.ChangeShapes Go.WideShapes Go.ChangeAt Go.RowKit Go.Joins Lm

theorem divides_params : ∀ t ∈ Tryd.f5.params.toList, Tryd.prog.readableRec t = true ∧ t < Tryd.prog.types.size := by
  intro t ht
  rw [Tryd.params5] at ht
  simp at ht
  subst ht; exact reads24

set_option maxRecDepth 100000 in
theorem divides_contract (H : Type) (enc : TypeId × Value → H) (W : World) (base : Nat) (args : Array Value) (ds gs : List (DataW H)) (before : List MemPlace)
    (hval : ∀ (j : Nat) t v, Tryd.f5.params[j]? = some t → args[j]? = some v → Value.okWide Tryd.prog W .any base t v)
    (hW : DataW.Whole enc Tryd.prog Tryd.f5.params.toList Rows.bigintDividesSpec.vars false W args.toList ds gs before)
    (hsz : (DataW.weightsEach Tryd.prog (Tryd.f5.params.toList ++ (OpenSpec.ofChange Rows.bigintDividesSpec).bare.plain.varTypes Tryd.prog) (ds ++ gs)).all (· ≤ reachBytes) = true) (hk : Rows.uptoBulkAll (ds ++ gs) ≤ 1048576) :
    Calls Tryd.prog 5 args W fun e W' => ∃ v, e = .returned v ∧ Rows.bigintDividesSpec.post enc Tryd.prog Tryd.f5 false true false false W args v W' := by
  have hW' := hW
  obtain ⟨p, q, hA0, hV, rfl, hfz, hnd⟩ := hW
  have hA : DataW.TrodAll enc Tryd.prog W 0 (fun _ => true) true Tryd.f5.params.toList args.toList ds p := hA0
  rw [Tryd.params5] at hA hval hsz
  obtain ⟨v0, vs0, d0, ds0, p0, q0, hargs, rfl, rfl, h0, r0⟩ := trodAll_cons hA
  obtain ⟨v1, vs1, d1, ds1, p1, q1, rfl, rfl, rfl, h1, r1⟩ := trodAll_cons r0
  obtain ⟨rfl, rfl, rfl⟩ := trodAll_nil r1
  obtain rfl : args = #[v0, v1] := by cases args; simp_all
  obtain ⟨n0, a0, l0, c0, A0, rfl, w0, s0, z0⟩ := open_num2 rfl hsz (j := 0) rfl rfl (hval 0 24 v0 rfl rfl) h0 hk
  obtain ⟨n1, a1, l1, c1, A1, rfl, w1, s1, z1⟩ := open_num2 rfl hsz (j := 1) rfl rfl (hval 1 24 v1 rfl rfl) h1 hk
  refine (divides_yes W w0 s0 z0 w1 s1 z1).mono fun e W' ⟨he, hb⟩ => ⟨_, he, ?_⟩
  exact law_post divides_params rfl rfl rfl rfl rfl hW' hb

/-- The world of the witness. -/
noncomputable def dividesWorld (os : Os) : World := World.laidAll Tryd.prog os Rows.bigintDividesUptoRow.laid
noncomputable def dividesArgs : Array Value := #[.agg #[.bool false, .slice none 0 0], .agg #[.bool false, .slice none 0 0]]
set_option maxRecDepth 100000 in
theorem divides_laid (os : Os) : laidMet Tryd.prog Rows.bigintDividesUptoRow.laid ((dividesWorld os).forCall (fun _ _ => 0) ⟨#[], dividesArgs, []⟩).memory :=
  laidMet_laidAll _ (by kernel_rfl) (by kernel_rfl)
set_option maxRecDepth 100000 in
theorem divides_reads (os : Os) {H : Type} (enc : TypeId × Value → H) : ∃ places, DataW.whole enc Tryd.prog ((dividesWorld os).forCall (fun _ _ => 0) ⟨#[], dividesArgs, []⟩).memory Tryd.f5.params.toList Rows.bigintDividesSpec.vars false dividesArgs.toList 8 =
    some ([.agg [.lit (.bool false), .nil], .agg [.lit (.bool false), .nil]], [], places) :=
  ⟨[], by kernel_rfl⟩

set_option maxRecDepth 100000 in
theorem divides_lifted (os : Os) (started : os.Started) (H : Type) (enc : TypeId × Value → H) (F : Stop.Interp) :
    ReturnsInHanded {} Tryd.checked os 5 .any ((Rows.OpenSpec.upto Rows.bigintDividesSpec).preRow enc Tryd.prog Tryd.f5 Rows.bigintDividesUptoRow.domain false Rows.bigintDividesUptoRow.laid) (((Rows.OpenSpec.upto Rows.bigintDividesSpec).at F).post enc Tryd.prog Tryd.f5 false true false false) := by
  obtain ⟨places, hx⟩ := divides_reads os enc
  refine returnsInHanded_of_row (C := Tryd.checked) (s := Rows.OpenSpec.upto Rows.bigintDividesSpec) own started (by kernel_rfl) Tryd.func5
    (witness_row_at (enc := enc) (C := Tryd.checked) false (dividesWorld os) dividesArgs (World.laidAll_os _ _ _) (by kernel_rfl) (by kernel_rfl) (by kernel_rfl)
      (OpenSpec.preRow_of_cond 8 hx (by kernel_rfl) (fun k hk => by cases hk; kernel_rfl) (by kernel_rfl) (divides_laid os))) ?_
  intro W base args ds gs before hval hW _ hcond hsz hL _ _
  exact divides_contract H enc W base args ds gs before hval hW hsz (of_decide_eq_true (hcond _ rfl))

set_option maxRecDepth 100000 in
theorem divides_said : Rows.BigintDividesUptoSaid :=
  OpenClaim.holds_of_cond 5 Tryd.f5 rfl rfl rfl rfl rfl rfl rfl ⟨rfl, rfl, rfl, rfl, rfl⟩ rfl rfl rfl rfl rfl (by kernel_rfl) Tryd.func5 (by kernel_rfl)
    (of_decide_eq_true (by kernel_rfl)) (by unfold Func.isWrapper; first | (rw [if_pos (by decide +kernel)]; kernel_rfl) | (rw [if_neg (by decide +kernel)]; exact ⟨rfl, rfl⟩))
    (fun os started H enc _ F => by rw [OpenClaim.pre_eq_preRow]; exact divides_lifted os started H enc F)

set_option maxRecDepth 100000 in
theorem divides_plain (f : FuncId) (fn : Func) (hf : Tryd.pinned.checked.prog.funcNamed "hornbeam/hornbeamlaw01.BigintDivides" = some f) (hfn : Tryd.pinned.checked.prog.funcs[f]? = some fn) :
    false = Tryd.pinned.checked.prog.looks [] ∧ ∀ (j : Nat) t, fn.params[j]? = some t → Tryd.pinned.checked.prog.wantsStandIn t = false := by
  obtain rfl : f = 5 := Option.some.inj ((show Tryd.prog.funcNamed "hornbeam/hornbeamlaw01.BigintDivides" = some 5 by kernel_rfl).symm.trans hf) |>.symm
  obtain rfl : fn = Tryd.f5 := (Option.some.inj (Tryd.func5.symm.trans hfn)).symm
  refine ⟨by kernel_rfl, fun j t ht => ?_⟩
  rw [Tryd.params5] at ht
  obtain rfl : t = 24 := by simpa using Array.mem_of_getElem? ht
  exact (show Tryd.prog.wantsStandIn 24 = false by kernel_rfl)

set_option maxRecDepth 100000 in
theorem divides_card : Rows.BigintDividesUptoCardSaid :=
  Claim7.holds_tied_plain_at .later [] _ _ _ _ divides_said (fun _ h => by cases h) (by kernel_rfl) (fun _ h => by cases h) bigintDividesUpto_row_tie rfl ⟨rfl, rfl⟩ (by kernel_rfl) rfl divides_plain (by kernel_rfl)
end Go.Proofs.YtldafoojkimdeaaDoor
