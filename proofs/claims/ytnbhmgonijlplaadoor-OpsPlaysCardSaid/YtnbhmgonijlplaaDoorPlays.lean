/- For every input the law OpsPlays answers true and leaves its arguments alone: no condition on the arguments; the package-level tables that its row lists are tied to the program's text by the given tie. -/
import Derived.Test.YtnbhmgonijlplaaDoorT48
import Derived.Test.YtnbhmgonijlplaaDoorT13
import Derived.Test.YtnbhmgonijlplaaDoorT49
import Derived.Deep.DeepWitnessRowRef
namespace Go.Proofs.YtnbhmgonijlplaaDoor
open Go.ChangeShapes Go.WideShapes Go.ChangeAt Go.RowKit Go.Joins Go.ChangeMaps

theorem plays_params : ∀ t ∈ Tryd.f3.params.toList, Tryd.prog.readableRec t = true ∧ t < Tryd.prog.types.size := by
  intro t ht
  rw [Tryd.params3] at ht
  simp at ht
  subst ht; exact reads22

set_option maxRecDepth 100000 in
theorem plays_contract (H : Type) (enc : TypeId × Value → H) (W : World) (base : Nat) (args : Array Value) (ds gs : List (DataW H)) (before : List MemPlace)
    (hval : ∀ (j : Nat) t v, Tryd.f3.params[j]? = some t → args[j]? = some v → Value.okWide Tryd.prog W .any base t v)
    (hW : DataW.Whole enc Tryd.prog Tryd.f3.params.toList Rows.opsPlaysSpec.vars false W args.toList ds gs before) (hL : laidMet Tryd.prog theLaid W) {vt : List TypeId} (hsz : (DataW.weightsEach Tryd.prog (Tryd.f3.params.toList ++ vt) (ds ++ gs)).all (· ≤ reachBytes) = true) :
    Calls Tryd.prog 3 args W fun e W' => ∃ v, e = .returned v ∧ Rows.opsPlaysSpec.post enc Tryd.prog Tryd.f3 false true false false W args v W' := by
  obtain ⟨hw, hbl⟩ := laid_facts hL
  have hW' := hW
  obtain ⟨p, q, hA0, hV, rfl, hfz, hnd⟩ := hW
  have hA : DataW.TrodAll enc Tryd.prog W 0 (fun _ => true) true Tryd.f3.params.toList args.toList ds p := hA0
  rw [Tryd.params3] at hA hval hsz
  obtain ⟨v0, vs0, d0, ds0, p0, q0, hargs, rfl, rfl, h0, r0⟩ := trodAll_cons hA
  obtain ⟨rfl, rfl, rfl⟩ := trodAll_nil r0
  obtain rfl : args = #[v0] := by cases args; simp_all
  obtain ⟨L0, o0, z0, k0⟩ := open_calls (hval 0 22 v0 rfl rfl) h0
  have l0 := calls_reach hsz (j := 0) rfl rfl k0
  refine (plays_yes v0 L0 W o0 (fun c hc => (z0 c hc).name) (fun c hc => (z0 c hc).on) (fun c hc => (z0 c hc).n) l0 hw hbl).mono fun e W' ⟨he, hb⟩ => ⟨_, he, ?_⟩
  exact law_post plays_params rfl rfl rfl rfl rfl hW' hb

/-- The world of the witness. -/
noncomputable def playsWorld (os : Os) : World := World.laidAll Tryd.prog os Rows.opsPlaysRow.laid
noncomputable def playsArgs : Array Value := #[.slice none 0 0]
set_option maxRecDepth 100000 in
theorem plays_laid (os : Os) : laidMet Tryd.prog Rows.opsPlaysRow.laid ((playsWorld os).forCall (fun _ _ => 0) ⟨#[], playsArgs, []⟩).memory :=
  laidMet_laidAll _ (by kernel_rfl) (by kernel_rfl)
set_option maxRecDepth 100000 in
theorem plays_reads (os : Os) {H : Type} (enc : TypeId × Value → H) : ∃ places, DataW.whole enc Tryd.prog ((playsWorld os).forCall (fun _ _ => 0) ⟨#[], playsArgs, []⟩).memory Tryd.f3.params.toList Rows.opsPlaysSpec.vars false playsArgs.toList 8 =
    some ([.nil], [], places) :=
  ⟨[], by kernel_rfl⟩

set_option maxRecDepth 100000 in
theorem plays_lifted (os : Os) (started : os.Started) (H : Type) (enc : TypeId × Value → H) (F : Stop.Interp) :
    ReturnsInHanded {} Tryd.checked os 3 .any ((OpenSpec.ofChange Rows.opsPlaysSpec).preRow enc Tryd.prog Tryd.f3 Rows.opsPlaysRow.domain false Rows.opsPlaysRow.laid) (((OpenSpec.ofChange Rows.opsPlaysSpec).at F).post enc Tryd.prog Tryd.f3 false true false false) := by
  obtain ⟨places, hx⟩ := plays_reads os enc
  refine returnsInHanded_of_row (C := Tryd.checked) (s := OpenSpec.ofChange Rows.opsPlaysSpec) own started (by kernel_rfl) Tryd.func3
    (witness_row_atRef (enc := enc) (C := Tryd.checked) false (playsWorld os) playsArgs (World.laidAll_os _ _ _) (by kernel_rfl) (by kernel_rfl) (by kernel_rfl)
      (OpenSpec.preRow_of_cond 8 hx (by kernel_rfl) (fun k hk => by cases hk) (by kernel_rfl) (plays_laid os))) ?_
  intro W base args ds gs before hval hW _ _ hsz hL _ _
  exact plays_contract H enc W base args ds gs before hval hW hL hsz

set_option maxRecDepth 100000 in
theorem plays_said : Rows.OpsPlaysSaid :=
  OpenClaim.holds_of_cond 3 Tryd.f3 rfl rfl rfl rfl rfl rfl rfl ⟨rfl, rfl, rfl, rfl, rfl⟩ rfl rfl rfl rfl rfl (by kernel_rfl) Tryd.func3 (by kernel_rfl)
    (of_decide_eq_true (by kernel_rfl)) (by unfold Func.isWrapper; first | (rw [if_pos (by decide +kernel)]; kernel_rfl) | (rw [if_neg (by decide +kernel)]; exact ⟨rfl, rfl⟩))
    (fun os started H enc _ F => by rw [OpenClaim.pre_eq_preRow]; exact plays_lifted os started H enc F)

set_option maxRecDepth 100000 in
theorem plays_plain (f : FuncId) (fn : Func) (hf : Tryd.pinned.checked.prog.funcNamed "hornbeam/hornbeamlaw04.OpsPlays" = some f) (hfn : Tryd.pinned.checked.prog.funcs[f]? = some fn) :
    true = Tryd.pinned.checked.prog.looks [] ∧ ∀ (j : Nat) t, fn.params[j]? = some t → Tryd.pinned.checked.prog.wantsStandIn t = false := by
  obtain rfl : f = 3 := Option.some.inj ((show Tryd.prog.funcNamed "hornbeam/hornbeamlaw04.OpsPlays" = some 3 by kernel_rfl).symm.trans hf) |>.symm
  obtain rfl : fn = Tryd.f3 := (Option.some.inj (Tryd.func3.symm.trans hfn)).symm
  refine ⟨by kernel_rfl, fun j t ht => ?_⟩
  rw [Tryd.params3] at ht
  obtain rfl : t = 22 := by simpa using Array.mem_of_getElem? ht
  exact (show Tryd.prog.wantsStandIn 22 = false by kernel_rfl)

set_option maxRecDepth 100000 in
theorem plays_card : Rows.OpsPlaysCardSaid :=
  Claim7.holds_tied_plain_at .later [] _ _ _ _ plays_said (fun _ h => by cases h) (by kernel_rfl) (fun _ h => by cases h) opsPlays_row_tie rfl ⟨rfl, rfl⟩ (by kernel_rfl) rfl plays_plain (by kernel_rfl)
end Go.Proofs.YtnbhmgonijlplaaDoor
