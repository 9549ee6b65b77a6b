/- For every input the law TermOneOrder answers true and leaves its arguments alone: no condition on the arguments; the package-level tables that its row lists are tied to the program's text by the given tie. -/
import Derived.Test.YtpdclfihleoigaaDoorT43m
import Derived.Test.YtpdclfihleoigaaDoorT36m
import Derived.Deep.DeepWitnessRowRef
namespace Go.Proofs.YtpdclfihleoigaaDoor
open Go.ChangeShapes Go.WideShapes Go.ChangeAt Go.RowKit Go.Joins Go.ChangeMaps

theorem oneOrder_params : ∀ t ∈ Tryd.f5.params.toList, Tryd.prog.readableRec t = true ∧ t < Tryd.prog.types.size := by
  intro t ht
  rw [Tryd.params5] at ht
  simp at ht
  subst ht; exact readsT

set_option maxRecDepth 100000 in
theorem oneOrder_contract (H : Type) (enc : TypeId × Value → H) (W : World) (base : Nat) (args : Array Value) (ds gs : List (DataW H)) (before : List MemPlace)
    (hval : ∀ (j : Nat) t v, Tryd.f5.params[j]? = some t → args[j]? = some v → Value.okWide Tryd.prog W .any base t v)
    (hW : DataW.Whole enc Tryd.prog Tryd.f5.params.toList Rows.termOneOrderSpec.vars false W args.toList ds gs before) (hL : laidMet Tryd.prog theLaid W) :
    Calls Tryd.prog 5 args W fun e W' => ∃ v, e = .returned v ∧ Rows.termOneOrderSpec.post enc Tryd.prog Tryd.f5 false true false false W args v W' := by
  have hU := laid_facts hL
  have hW' := hW
  obtain ⟨p, q, hA0, hV, rfl, hfz, hnd⟩ := hW
  have hA : DataW.TrodAll enc Tryd.prog W 0 (fun _ => true) true Tryd.f5.params.toList args.toList ds p := hA0
  rw [Tryd.params5] at hA hval
  obtain ⟨v0, vs0, d0, ds0, p0, q0', hargs, rfl, rfl, h0, r0⟩ := trodAll_cons hA
  obtain ⟨v1, vs1, d1, ds1, p1, q1', rfl, rfl, rfl, h1, r1⟩ := trodAll_cons r0
  obtain ⟨v2, vs2, d2, ds2, p2, q2', rfl, rfl, rfl, h2, r2⟩ := trodAll_cons r1
  obtain ⟨rfl, rfl, rfl⟩ := trodAll_nil r2
  obtain rfl : args = #[v0, v1, v2] := by cases args; simp_all
  obtain ⟨t0, q0, c0, rfl, hT0, hD0⟩ := open_term (hval 0 26 v0 rfl rfl) h0
  obtain ⟨t1, q1, c1, rfl, hT1, hD1⟩ := open_term (hval 1 26 v1 rfl rfl) h1
  obtain ⟨t2, q2, c2, rfl, hT2, hD2⟩ := open_term (hval 2 26 v2 rfl rfl) h2
  refine (oneOrder_yes t0 t1 t2 q0 q1 q2 c0 c1 c2 W hU hT0 hT1 hT2 hD0 hD1 hD2).mono fun e W' ⟨he, hb⟩ => ⟨_, he, ?_⟩
  exact law_post oneOrder_params rfl rfl rfl rfl rfl hW' hb

/-- The world of the witness. -/
noncomputable def oneOrderWorld (os : Os) : World := World.laidAll Tryd.prog os Rows.termOneOrderRow.laid
noncomputable def oneOrderArgs : Array Value := #[.agg #[.int .i64 0, .string ByteArray.empty, .string ByteArray.empty, .int .u64 0, .int .i64 0, .slice none 0 0], .agg #[.int .i64 0, .string ByteArray.empty, .string ByteArray.empty, .int .u64 0, .int .i64 0, .slice none 0 0], .agg #[.int .i64 0, .string ByteArray.empty, .string ByteArray.empty, .int .u64 0, .int .i64 0, .slice none 0 0]]
set_option maxRecDepth 100000 in
theorem oneOrder_laid (os : Os) : laidMet Tryd.prog Rows.termOneOrderRow.laid ((oneOrderWorld os).forCall (fun _ _ => 0) ⟨#[], oneOrderArgs, []⟩).memory :=
  laidMet_laidAll _ (by kernel_rfl) (by kernel_rfl)
set_option maxRecDepth 100000 in
theorem oneOrder_reads (os : Os) {H : Type} (enc : TypeId × Value → H) : ∃ places, DataW.whole enc Tryd.prog ((oneOrderWorld os).forCall (fun _ _ => 0) ⟨#[], oneOrderArgs, []⟩).memory Tryd.f5.params.toList Rows.termOneOrderSpec.vars false oneOrderArgs.toList 8 =
    some ([.agg [.lit (.int .i64 0), .lit (.string []), .lit (.string []), .lit (.int .u64 0), .lit (.int .i64 0), .nil], .agg [.lit (.int .i64 0), .lit (.string []), .lit (.string []), .lit (.int .u64 0), .lit (.int .i64 0), .nil], .agg [.lit (.int .i64 0), .lit (.string []), .lit (.string []), .lit (.int .u64 0), .lit (.int .i64 0), .nil]], [], places) :=
  ⟨[], by kernel_rfl⟩

set_option maxRecDepth 100000 in
theorem oneOrder_lifted (os : Os) (started : os.Started) (H : Type) (enc : TypeId × Value → H) (F : Stop.Interp) :
    ReturnsInHanded {} Tryd.checked os 5 .any ((OpenSpec.ofChange Rows.termOneOrderSpec).preRow enc Tryd.prog Tryd.f5 Rows.termOneOrderRow.domain false Rows.termOneOrderRow.laid) (((OpenSpec.ofChange Rows.termOneOrderSpec).at F).post enc Tryd.prog Tryd.f5 false true false false) := by
  obtain ⟨places, hx⟩ := oneOrder_reads os enc
  refine returnsInHanded_of_row (C := Tryd.checked) (s := OpenSpec.ofChange Rows.termOneOrderSpec) own started (by kernel_rfl) Tryd.func5
    (witness_row_atRef (enc := enc) (C := Tryd.checked) false (oneOrderWorld os) oneOrderArgs (World.laidAll_os _ _ _) (by kernel_rfl) (by kernel_rfl) (by kernel_rfl)
      (OpenSpec.preRow_of_cond 8 hx (by kernel_rfl) (fun k hk => by cases hk) (by kernel_rfl) (oneOrder_laid os))) ?_
  intro W base args ds gs before hval hW _ _ hsz hL _ _
  exact oneOrder_contract H enc W base args ds gs before hval hW hL

set_option maxRecDepth 100000 in
theorem oneOrder_said : Rows.TermOneOrderSaid :=
  OpenClaim.holds_of_cond 5 Tryd.f5 rfl rfl rfl rfl rfl rfl rfl ⟨rfl, rfl, rfl, rfl, rfl⟩ rfl rfl rfl rfl rfl (by kernel_rfl) Tryd.func5 (by kernel_rfl)
    (of_decide_eq_true (by kernel_rfl)) (by unfold Func.isWrapper; first | (rw [if_pos (by decide +kernel)]; kernel_rfl) | (rw [if_neg (by decide +kernel)]; exact ⟨rfl, rfl⟩))
    (fun os started H enc _ F => by rw [OpenClaim.pre_eq_preRow]; exact oneOrder_lifted os started H enc F)

set_option maxRecDepth 100000 in
theorem oneOrder_plain (f : FuncId) (fn : Func) (hf : Tryd.pinned.checked.prog.funcNamed "hornbeam/hornbeamlaw02.TermOneOrder" = some f) (hfn : Tryd.pinned.checked.prog.funcs[f]? = some fn) :
    false = Tryd.pinned.checked.prog.looks [] ∧ ∀ (j : Nat) t, fn.params[j]? = some t → Tryd.pinned.checked.prog.wantsStandIn t = false := by
  obtain rfl : f = 5 := Option.some.inj ((show Tryd.prog.funcNamed "hornbeam/hornbeamlaw02.TermOneOrder" = some 5 by kernel_rfl).symm.trans hf) |>.symm
  obtain rfl : fn = Tryd.f5 := (Option.some.inj (Tryd.func5.symm.trans hfn)).symm
  refine ⟨by kernel_rfl, fun j t ht => ?_⟩
  rw [Tryd.params5] at ht
  have hm := Array.mem_of_getElem? ht
  simp at hm
  subst hm
  exact (show Tryd.prog.wantsStandIn 26 = false by kernel_rfl)

set_option maxRecDepth 100000 in
theorem oneOrder_card : Rows.TermOneOrderCardSaid :=
  Claim7.holds_tied_plain_at .later [] _ _ _ _ oneOrder_said (fun _ h => by cases h) (by kernel_rfl) (fun _ h => by cases h) termOneOrder_row_tie rfl ⟨rfl, rfl⟩ (by kernel_rfl) rfl oneOrder_plain (by kernel_rfl)
end Go.Proofs.YtpdclfihleoigaaDoor
