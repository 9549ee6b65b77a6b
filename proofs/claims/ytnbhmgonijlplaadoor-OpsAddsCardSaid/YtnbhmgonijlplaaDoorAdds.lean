/- For every input the law OpsAdds answers true and leaves its arguments alone: no condition on the arguments; the package-level tables that its row lists are tied to the program's text by the given tie. -/
import Derived.Test.YtnbhmgonijlplaaDoorT25
import Derived.Test.YtnbhmgonijlplaaDoorT13
import Derived.Test.YtnbhmgonijlplaaDoorT31
import Derived.Deep.DeepWitnessRowRef
namespace Go.Proofs.YtnbhmgonijlplaaDoor
open Go.ChangeShapes Go.WideShapes Go.ChangeAt Go.RowKit Go.Joins Go.ChangeMaps

theorem adds_params : ∀ t ∈ Tryd.f5.params.toList, Tryd.prog.readableRec t = true ∧ t < Tryd.prog.types.size := by
  intro t ht
  rw [Tryd.params5] at ht
  simp at ht
  rcases ht with rfl | rfl
  · exact reads45
  · exact reads39

set_option maxRecDepth 100000 in
theorem adds_contract (H : Type) (enc : TypeId × Value → H) (W : World) (base : Nat) (args : Array Value) (ds gs : List (DataW H)) (before : List MemPlace)
    (hval : ∀ (j : Nat) t v, Tryd.f5.params[j]? = some t → args[j]? = some v → Value.okWide Tryd.prog W .any base t v)
    (hW : DataW.Whole enc Tryd.prog Tryd.f5.params.toList Rows.opsAddsSpec.vars false W args.toList ds gs before) (hL : laidMet Tryd.prog theLaid W) {vt : List TypeId} (hsz : (DataW.weightsEach Tryd.prog (Tryd.f5.params.toList ++ vt) (ds ++ gs)).all (· ≤ reachBytes) = true) :
    Calls Tryd.prog 5 args W fun e W' => ∃ v, e = .returned v ∧ Rows.opsAddsSpec.post enc Tryd.prog Tryd.f5 false true false false W args v W' := by
  obtain ⟨hw, hbl⟩ := laid_facts hL
  have hW' := hW
  obtain ⟨p, q, hA0, hV, rfl, hfz, hnd⟩ := hW
  have hA : DataW.TrodAll enc Tryd.prog W 0 (fun _ => true) true Tryd.f5.params.toList args.toList ds p := hA0
  rw [Tryd.params5] at hA hval hsz
  obtain ⟨v0, vs0, d0, ds0, p0, q0, hargs, rfl, rfl, h0, r0⟩ := trodAll_cons hA
  obtain ⟨v1, vs1, d1, ds1, p1, q1, rfl, rfl, rfl, h1, r1⟩ := trodAll_cons r0
  obtain ⟨rfl, rfl, rfl⟩ := trodAll_nil r1
  obtain rfl : args = #[v0, v1] := by cases args; simp_all
  obtain ⟨L0, o0, z0, k0⟩ := open_ops (hval 0 45 v0 rfl rfl) h0
  have l0 := ops_reach hsz (j := 0) rfl rfl k0
  obtain ⟨e10, e11, e12, y10, y11, y12, m1, rfl, rfl, rfl, g10, g11, g12⟩ := open_agg3 Tryd.underlying39 (by kernel_rfl) (by kernel_rfl) (hval 1 39 v1 rfl rfl) h1
  obtain ⟨n1, a1, -, x1⟩ := DataW.trod_string Tryd.underlying9 g10
  obtain ⟨t1, b1, -, -⟩ := DataW.trod_int Tryd.underlying3 g11
  obtain ⟨p1', c1, -, -⟩ := DataW.trod_int Tryd.underlying3 g12
  simp only [List.cons.injEq, and_true] at a1 b1 c1
  subst a1 b1 c1
  refine (adds_yes v0 L0 ⟨n1, t1, p1'⟩ W o0 z0 x1 l0 hw hbl).mono fun e W' ⟨he, hb⟩ => ⟨_, he, ?_⟩
  exact law_post adds_params rfl rfl rfl rfl rfl hW' hb

/-- The world of the witness. -/
noncomputable def addsWorld (os : Os) : World := World.laidAll Tryd.prog os Rows.opsAddsRow.laid
noncomputable def addsArgs : Array Value := #[.slice none 0 0, .agg #[.string ByteArray.empty, .int .i64 0, .int .i64 0]]
set_option maxRecDepth 100000 in
theorem adds_laid (os : Os) : laidMet Tryd.prog Rows.opsAddsRow.laid ((addsWorld os).forCall (fun _ _ => 0) ⟨#[], addsArgs, []⟩).memory :=
  laidMet_laidAll _ (by kernel_rfl) (by kernel_rfl)
set_option maxRecDepth 100000 in
theorem adds_reads (os : Os) {H : Type} (enc : TypeId × Value → H) : ∃ places, DataW.whole enc Tryd.prog ((addsWorld os).forCall (fun _ _ => 0) ⟨#[], addsArgs, []⟩).memory Tryd.f5.params.toList Rows.opsAddsSpec.vars false addsArgs.toList 8 =
    some ([.nil, .agg [.lit (.string []), .lit (.int .i64 0), .lit (.int .i64 0)]], [], places) :=
  ⟨[], by kernel_rfl⟩

set_option maxRecDepth 100000 in
theorem adds_lifted (os : Os) (started : os.Started) (H : Type) (enc : TypeId × Value → H) (F : Stop.Interp) :
    ReturnsInHanded {} Tryd.checked os 5 .any ((OpenSpec.ofChange Rows.opsAddsSpec).preRow enc Tryd.prog Tryd.f5 Rows.opsAddsRow.domain false Rows.opsAddsRow.laid) (((OpenSpec.ofChange Rows.opsAddsSpec).at F).post enc Tryd.prog Tryd.f5 false true false false) := by
  obtain ⟨places, hx⟩ := adds_reads os enc
  refine returnsInHanded_of_row (C := Tryd.checked) (s := OpenSpec.ofChange Rows.opsAddsSpec) own started (by kernel_rfl) Tryd.func5
    (witness_row_atRef (enc := enc) (C := Tryd.checked) false (addsWorld os) addsArgs (World.laidAll_os _ _ _) (by kernel_rfl) (by kernel_rfl) (by kernel_rfl)
      (OpenSpec.preRow_of_cond 8 hx (by kernel_rfl) (fun k hk => by cases hk) (by kernel_rfl) (adds_laid os))) ?_
  intro W base args ds gs before hval hW _ _ hsz hL _ _
  exact adds_contract H enc W base args ds gs before hval hW hL hsz

set_option maxRecDepth 100000 in
theorem adds_said : Rows.OpsAddsSaid :=
  OpenClaim.holds_of_cond 5 Tryd.f5 rfl rfl rfl rfl rfl rfl rfl ⟨rfl, rfl, rfl, rfl, rfl⟩ rfl rfl rfl rfl rfl (by kernel_rfl) Tryd.func5 (by kernel_rfl)
    (of_decide_eq_true (by kernel_rfl)) (by unfold Func.isWrapper; first | (rw [if_pos (by decide +kernel)]; kernel_rfl) | (rw [if_neg (by decide +kernel)]; exact ⟨rfl, rfl⟩))
    (fun os started H enc _ F => by rw [OpenClaim.pre_eq_preRow]; exact adds_lifted os started H enc F)

set_option maxRecDepth 100000 in
theorem adds_plain (f : FuncId) (fn : Func) (hf : Tryd.pinned.checked.prog.funcNamed "hornbeam/hornbeamlaw04.OpsAdds" = some f) (hfn : Tryd.pinned.checked.prog.funcs[f]? = some fn) :
    true = Tryd.pinned.checked.prog.looks [] ∧ ∀ (j : Nat) t, fn.params[j]? = some t → Tryd.pinned.checked.prog.wantsStandIn t = false := by
  obtain rfl : f = 5 := Option.some.inj ((show Tryd.prog.funcNamed "hornbeam/hornbeamlaw04.OpsAdds" = some 5 by kernel_rfl).symm.trans hf) |>.symm
  obtain rfl : fn = Tryd.f5 := (Option.some.inj (Tryd.func5.symm.trans hfn)).symm
  refine ⟨by kernel_rfl, fun j t ht => ?_⟩
  rw [Tryd.params5] at ht
  have hm := Array.mem_of_getElem? ht
  simp at hm
  rcases hm with rfl | rfl
  · exact (show Tryd.prog.wantsStandIn 45 = false by kernel_rfl)
  · exact (show Tryd.prog.wantsStandIn 39 = false by kernel_rfl)

set_option maxRecDepth 100000 in
theorem adds_card : Rows.OpsAddsCardSaid :=
  Claim7.holds_tied_plain_at .later [] _ _ _ _ adds_said (fun _ h => by cases h) (by kernel_rfl) (fun _ h => by cases h) opsAdds_row_tie rfl ⟨rfl, rfl⟩ (by kernel_rfl) rfl adds_plain (by kernel_rfl)
end Go.Proofs.YtnbhmgonijlplaaDoor
