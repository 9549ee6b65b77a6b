/- For every input the law BigintShifts answers true and leaves its arguments alone: no condition on the arguments; the package-level tables that its row lists are tied to the program's text by the given tie. -/
import Derived.Test.YtldafoojkimdeaaDoorW61
import Derived.Test.YtldafoojkimdeaaDoorW36
namespace Go.Proofs.YtldafoojkimdeaaDoor
open Go.ChangeShapes Go.WideShapes Go.ChangeAt Go.RowKit Go.Joins Lm

theorem shifts_params : ∀ t ∈ Tryd.f14.params.toList, Tryd.prog.readableRec t = true ∧ t < Tryd.prog.types.size := by
  intro t ht
  rw [Tryd.params14] at ht
  simp at ht
  rcases ht with rfl | rfl
  · exact reads24
  · exact reads3

set_option maxRecDepth 100000 in
theorem shifts_contract (H : Type) (enc : TypeId × Value → H) (W : World) (base : Nat) (args : Array Value) (ds gs : List (DataW H)) (before : List MemPlace)
    (hval : ∀ (j : Nat) t v, Tryd.f14.params[j]? = some t → args[j]? = some v → Value.okWide Tryd.prog W .any base t v)
    (hW : DataW.Whole enc Tryd.prog Tryd.f14.params.toList Rows.bigintShiftsSpec.vars false W args.toList ds gs before)
    (hsz : (DataW.weightsEach Tryd.prog (Tryd.f14.params.toList ++ (OpenSpec.ofChange Rows.bigintShiftsSpec).bare.plain.varTypes Tryd.prog) (ds ++ gs)).all (· ≤ reachBytes) = true) :
    Calls Tryd.prog 14 args W fun e W' => ∃ v, e = .returned v ∧ Rows.bigintShiftsSpec.post enc Tryd.prog Tryd.f14 false true false false W args v W' := by
  have hW' := hW
  obtain ⟨p, q, hA0, hV, rfl, hfz, hnd⟩ := hW
  have hA : DataW.TrodAll enc Tryd.prog W 0 (fun _ => true) true Tryd.f14.params.toList args.toList ds p := hA0
  rw [Tryd.params14] at hA hval hsz
  obtain ⟨v0, vs0, d0, ds0, p0, q0, hargs, rfl, rfl, h0, r0⟩ := trodAll_cons hA
  obtain ⟨v1, vs1, d1, ds1, p1, q1, rfl, rfl, rfl, h1, r1⟩ := trodAll_cons r0
  obtain ⟨v2, vs2, d2, ds2, p2, q2, rfl, rfl, rfl, h2, r2⟩ := trodAll_cons r1
  obtain ⟨rfl, rfl, rfl⟩ := trodAll_nil r2
  obtain rfl : args = #[v0, v1, v2] := by cases args; simp_all
  obtain ⟨n0, a0, l0, c0, A0, rfl, w0⟩ := open_num rfl hsz (j := 0) rfl rfl (hval 0 24 v0 rfl rfl) h0
  obtain ⟨n1, a1, l1, c1, A1, rfl, w1⟩ := open_num rfl hsz (j := 1) rfl rfl (hval 1 24 v1 rfl rfl) h1
  obtain ⟨x2, rfl, rfl, rfl, wf2⟩ := open_int Tryd.underlying3 (hval 2 3 v2 rfl rfl) h2
  have w2 := bounds_i64 wf2
  refine (shifts_yes x2 W w0 w1 w2).mono fun e W' ⟨he, hb⟩ => ⟨_, he, ?_⟩
  exact law_post shifts_params rfl rfl rfl rfl rfl hW' hb

/-- The world of the witness. -/
noncomputable def shiftsWorld (os : Os) : World := World.laidAll Tryd.prog os Rows.bigintShiftsRow.laid
noncomputable def shiftsArgs : Array Value := #[.agg #[.bool false, .slice none 0 0], .agg #[.bool false, .slice none 0 0], .int .i64 0]
set_option maxRecDepth 100000 in
theorem shifts_laid (os : Os) : laidMet Tryd.prog Rows.bigintShiftsRow.laid ((shiftsWorld os).forCall (fun _ _ => 0) ⟨#[], shiftsArgs, []⟩).memory :=
  laidMet_laidAll _ (by kernel_rfl) (by kernel_rfl)
set_option maxRecDepth 100000 in
theorem shifts_reads (os : Os) {H : Type} (enc : TypeId × Value → H) : ∃ places, DataW.whole enc Tryd.prog ((shiftsWorld os).forCall (fun _ _ => 0) ⟨#[], shiftsArgs, []⟩).memory Tryd.f14.params.toList Rows.bigintShiftsSpec.vars false shiftsArgs.toList 8 =
    some ([.agg [.lit (.bool false), .nil], .agg [.lit (.bool false), .nil], .lit (.int .i64 0)], [], places) :=
  ⟨[], by kernel_rfl⟩

set_option maxRecDepth 100000 in
theorem shifts_lifted (os : Os) (started : os.Started) (H : Type) (enc : TypeId × Value → H) (F : Stop.Interp) :
    ReturnsInHanded {} Tryd.checked os 14 .any ((OpenSpec.ofChange Rows.bigintShiftsSpec).preRow enc Tryd.prog Tryd.f14 Rows.bigintShiftsRow.domain false Rows.bigintShiftsRow.laid) (((OpenSpec.ofChange Rows.bigintShiftsSpec).at F).post enc Tryd.prog Tryd.f14 false true false false) := by
  obtain ⟨places, hx⟩ := shifts_reads os enc
  refine returnsInHanded_of_row (C := Tryd.checked) (s := OpenSpec.ofChange Rows.bigintShiftsSpec) own started (by kernel_rfl) Tryd.func14
    (witness_row_at (enc := enc) (C := Tryd.checked) false (shiftsWorld os) shiftsArgs (World.laidAll_os _ _ _) (by kernel_rfl) (by kernel_rfl) (by kernel_rfl)
      (OpenSpec.preRow_of_cond 8 hx (by kernel_rfl) (fun k hk => by cases hk) (by kernel_rfl) (shifts_laid os))) ?_
  intro W base args ds gs before hval hW _ _ hsz hL _ _
  exact shifts_contract H enc W base args ds gs before hval hW hsz

set_option maxRecDepth 100000 in
theorem shifts_said : Rows.BigintShiftsSaid :=
  OpenClaim.holds_of_cond 14 Tryd.f14 rfl rfl rfl rfl rfl rfl rfl ⟨rfl, rfl, rfl, rfl, rfl⟩ rfl rfl rfl rfl rfl (by kernel_rfl) Tryd.func14 (by kernel_rfl)
    (of_decide_eq_true (by kernel_rfl)) (by unfold Func.isWrapper; first | (rw [if_pos (by decide +kernel)]; kernel_rfl) | (rw [if_neg (by decide +kernel)]; exact ⟨rfl, rfl⟩))
    (fun os started H enc _ F => by rw [OpenClaim.pre_eq_preRow]; exact shifts_lifted os started H enc F)

set_option maxRecDepth 100000 in
theorem shifts_plain (f : FuncId) (fn : Func) (hf : Tryd.pinned.checked.prog.funcNamed "hornbeam/hornbeamlaw01.BigintShifts" = some f) (hfn : Tryd.pinned.checked.prog.funcs[f]? = some fn) :
    false = Tryd.pinned.checked.prog.looks [] ∧ ∀ (j : Nat) t, fn.params[j]? = some t → Tryd.pinned.checked.prog.wantsStandIn t = false := by
  obtain rfl : f = 14 := Option.some.inj ((show Tryd.prog.funcNamed "hornbeam/hornbeamlaw01.BigintShifts" = some 14 by kernel_rfl).symm.trans hf) |>.symm
  obtain rfl : fn = Tryd.f14 := (Option.some.inj (Tryd.func14.symm.trans hfn)).symm
  refine ⟨by kernel_rfl, fun j t ht => ?_⟩
  rw [Tryd.params14] at ht
  have hm := Array.mem_of_getElem? ht
  simp at hm
  rcases hm with rfl | rfl
  · exact (show Tryd.prog.wantsStandIn 24 = false by kernel_rfl)
  · exact (show Tryd.prog.wantsStandIn 3 = false by kernel_rfl)

set_option maxRecDepth 100000 in
theorem shifts_card : Rows.BigintShiftsCardSaid :=
  Claim7.holds_tied_plain_at .later [] _ _ _ _ shifts_said (fun _ h => by cases h) (by kernel_rfl) (fun _ h => by cases h) bigintShifts_row_tie rfl ⟨rfl, rfl⟩ (by kernel_rfl) rfl shifts_plain (by kernel_rfl)
end Go.Proofs.YtldafoojkimdeaaDoor
