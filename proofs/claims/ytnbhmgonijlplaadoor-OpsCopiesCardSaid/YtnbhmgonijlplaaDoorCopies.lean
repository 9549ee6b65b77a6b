/- For every input the law OpsCopies answers true and leaves its arguments alone: no condition on the arguments; the package-level tables that its row lists are tied to the program's text by the given tie. -/
import Derived.Test.YtnbhmgonijlplaaDoorT29
import Derived.Test.YtnbhmgonijlplaaDoorT13
import Derived.Test.YtnbhmgonijlplaaDoorT31
import Derived.Deep.DeepWitnessRowRef
namespace Go.Proofs.YtnbhmgonijlplaaDoor
open Go.ChangeShapes Go.WideShapes Go.ChangeAt Go.RowKit Go.Joins Go.ChangeMaps

theorem copies_params : ∀ t ∈ Tryd.f7.params.toList, Tryd.prog.readableRec t = true ∧ t < Tryd.prog.types.size := by
  intro t ht
  rw [Tryd.params7] at ht
  simp at ht
  subst ht; exact reads45

set_option maxRecDepth 100000 in
theorem copies_contract (H : Type) (enc : TypeId × Value → H) (W : World) (base : Nat) (args : Array Value) (ds gs : List (DataW H)) (before : List MemPlace)
    (hval : ∀ (j : Nat) t v, Tryd.f7.params[j]? = some t → args[j]? = some v → Value.okWide Tryd.prog W .any base t v)
    (hW : DataW.Whole enc Tryd.prog Tryd.f7.params.toList Rows.opsCopiesSpec.vars false W args.toList ds gs before) (hL : laidMet Tryd.prog theLaid W) {vt : List TypeId} (hsz : (DataW.weightsEach Tryd.prog (Tryd.f7.params.toList ++ vt) (ds ++ gs)).all (· ≤ reachBytes) = true) :
    Calls Tryd.prog 7 args W fun e W' => ∃ v, e = .returned v ∧ Rows.opsCopiesSpec.post enc Tryd.prog Tryd.f7 false true false false W args v W' := by
  obtain ⟨hw, hbl⟩ := laid_facts hL
  have hW' := hW
  obtain ⟨p, q, hA0, hV, rfl, hfz, hnd⟩ := hW
  have hA : DataW.TrodAll enc Tryd.prog W 0 (fun _ => true) true Tryd.f7.params.toList args.toList ds p := hA0
  rw [Tryd.params7] at hA hval hsz
  obtain ⟨v0, vs0, d0, ds0, p0, q0, hargs, rfl, rfl, h0, r0⟩ := trodAll_cons hA
  obtain ⟨v1, vs1, d1, ds1, p1, q1, rfl, rfl, rfl, h1, r1⟩ := trodAll_cons r0
  obtain ⟨rfl, rfl, rfl⟩ := trodAll_nil r1
  obtain rfl : args = #[v0, v1] := by cases args; simp_all
  obtain ⟨L0, o0, z0, k0⟩ := open_ops (hval 0 45 v0 rfl rfl) h0
  have l0 := ops_reach hsz (j := 0) rfl rfl k0
  obtain ⟨L1, o1, z1, k1⟩ := open_ops (hval 1 45 v1 rfl rfl) h1
  have l1 := ops_reach hsz (j := 1) rfl rfl k1
  refine (copies_yes v0 v1 L0 L1 W o0 z0 l0 o1 z1 l1 hw hbl).mono fun e W' ⟨he, hb⟩ => ⟨_, he, ?_⟩
  exact law_post copies_params rfl rfl rfl rfl rfl hW' hb

/-- The world of the witness. -/
noncomputable def copiesWorld (os : Os) : World := World.laidAll Tryd.prog os Rows.opsCopiesRow.laid
noncomputable def copiesArgs : Array Value := #[.slice none 0 0, .slice none 0 0]
set_option maxRecDepth 100000 in
theorem copies_laid (os : Os) : laidMet Tryd.prog Rows.opsCopiesRow.laid ((copiesWorld os).forCall (fun _ _ => 0) ⟨#[], copiesArgs, []⟩).memory :=
  laidMet_laidAll _ (by kernel_rfl) (by kernel_rfl)
set_option maxRecDepth 100000 in
theorem copies_reads (os : Os) {H : Type} (enc : TypeId × Value → H) : ∃ places, DataW.whole enc Tryd.prog ((copiesWorld os).forCall (fun _ _ => 0) ⟨#[], copiesArgs, []⟩).memory Tryd.f7.params.toList Rows.opsCopiesSpec.vars false copiesArgs.toList 8 =
    some ([.nil, .nil], [], places) :=
  ⟨[], by kernel_rfl⟩

set_option maxRecDepth 100000 in
theorem copies_lifted (os : Os) (started : os.Started) (H : Type) (enc : TypeId × Value → H) (F : Stop.Interp) :
    ReturnsInHanded {} Tryd.checked os 7 .any ((OpenSpec.ofChange Rows.opsCopiesSpec).preRow enc Tryd.prog Tryd.f7 Rows.opsCopiesRow.domain false Rows.opsCopiesRow.laid) (((OpenSpec.ofChange Rows.opsCopiesSpec).at F).post enc Tryd.prog Tryd.f7 false true false false) := by
  obtain ⟨places, hx⟩ := copies_reads os enc
  refine returnsInHanded_of_row (C := Tryd.checked) (s := OpenSpec.ofChange Rows.opsCopiesSpec) own started (by kernel_rfl) Tryd.func7
    (witness_row_atRef (enc := enc) (C := Tryd.checked) false (copiesWorld os) copiesArgs (World.laidAll_os _ _ _) (by kernel_rfl) (by kernel_rfl) (by kernel_rfl)
      (OpenSpec.preRow_of_cond 8 hx (by kernel_rfl) (fun k hk => by cases hk) (by kernel_rfl) (copies_laid os))) ?_
  intro W base args ds gs before hval hW _ _ hsz hL _ _
  exact copies_contract H enc W base args ds gs before hval hW hL hsz

set_option maxRecDepth 100000 in
theorem copies_said : Rows.OpsCopiesSaid :=
  OpenClaim.holds_of_cond 7 Tryd.f7 rfl rfl rfl rfl rfl rfl rfl ⟨rfl, rfl, rfl, rfl, rfl⟩ rfl rfl rfl rfl rfl (by kernel_rfl) Tryd.func7 (by kernel_rfl)
    (of_decide_eq_true (by kernel_rfl)) (by unfold Func.isWrapper; first | (rw [if_pos (by decide +kernel)]; kernel_rfl) | (rw [if_neg (by decide +kernel)]; exact ⟨rfl, rfl⟩))
    (fun os started H enc _ F => by rw [OpenClaim.pre_eq_preRow]; exact copies_lifted os started H enc F)

set_option maxRecDepth 100000 in
theorem copies_plain (f : FuncId) (fn : Func) (hf : Tryd.pinned.checked.prog.funcNamed "hornbeam/hornbeamlaw04.OpsCopies" = some f) (hfn : Tryd.pinned.checked.prog.funcs[f]? = some fn) :
    true = Tryd.pinned.checked.prog.looks [] ∧ ∀ (j : Nat) t, fn.params[j]? = some t → Tryd.pinned.checked.prog.wantsStandIn t = false := by
  obtain rfl : f = 7 := Option.some.inj ((show Tryd.prog.funcNamed "hornbeam/hornbeamlaw04.OpsCopies" = some 7 by kernel_rfl).symm.trans hf) |>.symm
  obtain rfl : fn = Tryd.f7 := (Option.some.inj (Tryd.func7.symm.trans hfn)).symm
  refine ⟨by kernel_rfl, fun j t ht => ?_⟩
  rw [Tryd.params7] at ht
  obtain rfl : t = 45 := by simpa using Array.mem_of_getElem? ht
  exact (show Tryd.prog.wantsStandIn 45 = false by kernel_rfl)

set_option maxRecDepth 100000 in
theorem copies_card : Rows.OpsCopiesCardSaid :=
  Claim7.holds_tied_plain_at .later [] _ _ _ _ copies_said (fun _ h => by cases h) (by kernel_rfl) (fun _ h => by cases h) opsCopies_row_tie rfl ⟨rfl, rfl⟩ (by kernel_rfl) rfl copies_plain (by kernel_rfl)
end Go.Proofs.YtnbhmgonijlplaaDoor
