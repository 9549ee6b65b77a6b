/- What every law of this seat wants for its row: a post where nothing old is touched; what the listed variables hold. A tree among a law's arguments, opened: how it lies, each node within bounds. -/
import Derived.Test.YtiaddfedaikaiaaGreatDoorCards
import Derived.Test.YtiaddfedaikaiaaGreatDoorTie
import Derived.WalkKit
import Derived.ProofKit
import Derived.OpenShut
import Derived.Carry
import Derived.SizedLaws
import Derived.LaidMore
import Derived.Lay
import Derived.SevenTiedAt
import Derived.Deep.DeepHandedRow
import Derived.Lib.SmallJoins
import Derived.ChangeMaps5
import Derived.Lib.LaidU8T
import Derived.Test.YtiaddfedaikaiaaGreatDoorT22
import Derived.Deep.Strs
import Derived.Test.YtiaddfedaikaiaaGreatDoorT34
namespace Go.Proofs.YtiaddfedaikaiaaGreatDoor
open Go.ChangeShapes Go.WideShapes Go.ChangeAt Go.RowKit Go.Joins

theorem Tryz.laidOut : laidOutB Tryz.prog = true := by kernel_rfl
theorem own : ownKnob Tryz.prog.godebug = none := by kernel_rfl
section
variable {H : Type} {enc : TypeId × Value → H} {W W' : World}

theorem trodAll_below (hb : Below W.heap.size W W') : ∀ {ts : List TypeId} {vs : List Value} {ds : List (DataW H)} {ps : List MemPlace}, (∀ t ∈ ts, Tryz.prog.readableRec t = true ∧ t < Tryz.prog.types.size) →
    DataW.TrodAll enc Tryz.prog W 0 (fun _ => true) true ts vs ds ps → DataW.TrodAll enc Tryz.prog W' 0 (fun b => decide (b < W.heap.size)) true ts vs ds ps
  | [], vs, ds, ps, _, h => by
    obtain ⟨rfl, rfl, rfl⟩ := trodAll_nil h
    exact trodAll_mk0
  | t :: ts, vs, ds, ps, ht, h => by
    have hlt := h.lt
    obtain ⟨v, vs', d, ds', p, q, rfl, rfl, rfl, h0, hr⟩ := trodAll_cons h
    obtain ⟨h1, h2⟩ := ht t List.mem_cons_self
    exact trodAll_cons_mk (Below.trod Tryz.laidOut h1 h2 h0 hb fun x hx => hlt x (List.mem_append_left _ hx)) (trodAll_below hb (fun t' h' => ht t' (List.mem_cons_of_mem _ h')) hr)

/-- A law's post: it answered true, and nothing that was there has turned. -/
theorem law_post {f : Func} {s : ChangeSpec} {args : Array Value} {ds gs : List (DataW H)} {before : List MemPlace} (hts : ∀ t ∈ f.params.toList, Tryz.prog.readableRec t = true ∧ t < Tryz.prog.types.size) (hres : f.resultTypes = #[4])
    (hv : s.vars = []) (hr : (s.fn H ds).results = [.lit (.bool true)]) (ha : (s.fn H ds).args = ds) (hw : (s.fn H ds).vars = [])
    (hW : DataW.Whole enc Tryz.prog f.params.toList s.vars false W args.toList ds gs before) (hb : Below W.heap.size W W') : s.post enc Tryz.prog f false true false false W args (.bool true) W' := by
  have hW0 := hW
  obtain ⟨p, q, hA, hV, rfl, _, _⟩ := hW
  rw [hv] at hV
  obtain ⟨rfl, rfl⟩ := trodVars_none hV
  refine ⟨ds, [], p ++ [], [], p ++ [], [], hW0, ?_, ?_, ?_, hb.frame _, fun h => by cases h⟩
  · rw [hres, List.append_nil, hr]
    exact trodAll_mk1 (shut_bool Tryz.underlying4 _)
  · rw [List.append_nil, List.append_nil, ha]
    exact trodAll_below hb hts hA
  · rw [hv, List.append_nil, hw]
    exact rfl

end
def theLaid : List (String × DataW Unit) := [("unicode/utf8.acceptRanges", Rows.laid_unicode_utf8_acceptRanges), ("unicode/utf8.first", Rows.laid_unicode_utf8_first)]
theorem laid_facts {W : World} (h : laidMet Tryz.prog theLaid W) : Utf W := by
  have e1 : (Rows.laid_unicode_utf8_acceptRanges : DataW Unit) = Lib.acceptData := by kernel_rfl
  have e2 : (Rows.laid_unicode_utf8_first : DataW Unit) = Lib.firstData := by kernel_rfl
  have h1 := Lib.laidMet.reads h (.tail _ (.head _))
  have h2 := Lib.laidMet.reads h (.head _)
  rw [e2] at h1
  rw [e1] at h2
  exact utf8Tabs_of_readsT (U8Types.of196 Tryz.laysValid) ⟨by kernel_rfl, by kernel_rfl, by kernel_rfl, by kernel_rfl, by kernel_rfl, by kernel_rfl, by kernel_rfl⟩ h1 h2
end Go.Proofs.YtiaddfedaikaiaaGreatDoor

namespace Go.Proofs.YtiaddfedaikaiaaGreatDoor
open Go.ChangeShapes Go.WideShapes Go.ChangeAt Go.RowKit Go.Joins Go.Deep

theorem readsT : Tryz.prog.readableRec 25 = true ∧ 25 < Tryz.prog.types.size := ⟨by kernel_rfl, of_decide_eq_true (by kernel_rfl)⟩
theorem RowT.mk {w : World} : ∀ {l : List Tm} {b o : Nat}, (∀ k (h : k < l.length), ∃ p cap, Six w b (o + k * 6) l[k] p cap ∧ TmAt w l[k] p) → RowT w l b o
  | [], _, _, _ => by unfold RowT; trivial
  | t :: l, b, o, h => by
    unfold RowT
    refine ⟨?_, RowT.mk fun k hk => ?_⟩
    · obtain ⟨p, cap, h1, h2⟩ := h 0 (Nat.succ_pos _)
      rw [Nat.zero_mul, Nat.add_zero] at h1
      exact ⟨p, cap, h1, h2⟩
    · obtain ⟨p, cap, h1, h2⟩ := h (k + 1) (Nat.succ_lt_succ hk)
      rw [show o + (k + 1) * 6 = o + 6 + k * 6 by omega] at h1
      exact ⟨p, cap, h1, h2⟩
theorem AllR.mk {D : Tm → Prop} : ∀ {l : List Tm}, (∀ k (h : k < l.length), AllT D l[k]) → AllR D l
  | [], _ => by unfold AllR; trivial
  | t :: l, h => by
    unfold AllR
    exact ⟨h 0 (Nat.succ_pos _), AllR.mk fun k hk => h (k + 1) (Nat.succ_lt_succ hk)⟩
theorem wf_u64 {n : Int} (h : (Lit.int .u64 n).wf = true) : 0 ≤ n ∧ n < 18446744073709551616 := by
  have h1 : IntKind.u64.min = 0 := by decide +kernel
  have h2 : IntKind.u64.max = 18446744073709551615 := by decide +kernel
  simp [Lit.wf, h1, h2] at h
  omega
instance : Inhabited Tm := ⟨.mk 0 ⟨#[]⟩ ⟨#[]⟩ 0 0 []⟩
section
variable {H : Type} {enc : TypeId × Value → H} {W : World}

theorem trod_struct6 {P : Program} {base : Nat} {spare : Nat → Bool} {held : Bool} {t : TypeId} {f0 f1 f2 f3 f4 f5 : Field} {fuel : Nat} {cs : List Value} {x : DataW H × List MemPlace} (ht : P.underlying t = some (.struct #[f0, f1, f2, f3, f4, f5])) (h : DataW.trod enc P W base spare held fuel t cs = some x) :
    ∃ y0 y1 y2 y3 y4 y5 n, fuel = n + 1 ∧ cs.length = P.cellsOf t ∧ DataW.trod enc P W base spare held n f0.type ((cs.drop f0.offset).take (P.cellsOf f0.type)) = some y0 ∧
      DataW.trod enc P W base spare held n f1.type ((cs.drop f1.offset).take (P.cellsOf f1.type)) = some y1 ∧ DataW.trod enc P W base spare held n f2.type ((cs.drop f2.offset).take (P.cellsOf f2.type)) = some y2 ∧
      DataW.trod enc P W base spare held n f3.type ((cs.drop f3.offset).take (P.cellsOf f3.type)) = some y3 ∧ DataW.trod enc P W base spare held n f4.type ((cs.drop f4.offset).take (P.cellsOf f4.type)) = some y4 ∧
      DataW.trod enc P W base spare held n f5.type ((cs.drop f5.offset).take (P.cellsOf f5.type)) = some y5 := by
  obtain ⟨xs, n, hn, rfl, hl, hlen, hf⟩ := DataW.trod_struct ht h
  match xs, hlen with
  | [y0, y1, y2, y3, y4, y5], _ => exact ⟨y0, y1, y2, y3, y4, y5, n, hn, hl, by simpa using hf 0 f0 rfl, by simpa using hf 1 f1 rfl, by simpa using hf 2 f2 rfl, by simpa using hf 3 f3 rfl, by simpa using hf 4 f4 rfl, by simpa using hf 5 f5 rfl⟩
set_option maxRecDepth 100000 in
theorem open_tree {base : Nat} {sp : Nat → Bool} {held : Bool} : ∀ (fuel : Nat) (cs : List Value) (x : DataW H × List MemPlace), DataW.trod enc Tryz.prog W base sp held fuel 25 cs = some x →
    ∃ (t : Tm) (p : Option Addr) (cap : Nat), cs = [.int .i64 t.kind, .string t.name, .string t.num, .int .u64 t.bits, .int .i64 t.var, .slice p t.args.length cap] ∧ TmAt W t p ∧ AllT DomA t := by
  intro fuel
  induction fuel using Nat.strongRecOn with
  | _ fuel ih =>
    intro cs x h
    obtain ⟨y0, y1, y2, y3, y4, y5, n, hn, hl, u0, u1, u2, u3, u4, u5⟩ := trod_struct6 Tryz.underlying25 h
    rw [show Tryz.prog.cellsOf 25 = 6 by kernel_rfl] at hl
    match cs, hl with
    | [v0, v1, v2, v3, v4, v5], _ =>
      simp only [show Tryz.prog.cellsOf 9 = 1 by kernel_rfl, show Tryz.prog.cellsOf 3 = 1 by kernel_rfl, show Tryz.prog.cellsOf 22 = 1 by kernel_rfl, show Tryz.prog.cellsOf 23 = 1 by kernel_rfl, List.drop, List.take] at u0 u1 u2 u3 u4 u5
      obtain ⟨kd, e0, -, g0⟩ := DataW.trod_int Tryz.underlying3 u0
      obtain ⟨nm, e1, -, z1⟩ := DataW.trod_string Tryz.underlying9 u1
      obtain ⟨nu, e2, -, z2⟩ := DataW.trod_string Tryz.underlying9 u2
      obtain ⟨bi, e3, -, g3⟩ := DataW.trod_int Tryz.underlying22 u3
      obtain ⟨va, e4, -, g4⟩ := DataW.trod_int Tryz.underlying3 u4
      simp only [List.cons.injEq, and_true] at e0 e1 e2 e3 e4
      subst e0; subst e1; subst e2; subst e3; subst e4
      obtain ⟨hb0, hb1⟩ := wf_u64 g3
      have hdom : ∀ l, DomA (.mk kd nm nu bi va l) := fun l => ⟨by unfold maxLen at z1; exact z1, by unfold maxLen at z2; exact z2, hb0, hb1, g4, g0⟩
      rcases DataW.trod_slice Tryz.underlying23 u5 with ⟨hcs, hx⟩ | ⟨a, len, cap, elems, rest, m, hm, hcs, -, -, hlc, hcm, hel, hE, -, -⟩
      · simp only [List.cons.injEq, and_true] at hcs
        subst hcs
        refine ⟨.mk kd nm nu bi va [], none, 0, rfl, ?_, ?_⟩
        · unfold TmAt
          exact ⟨by unfold maxLen; simp, .inl rfl⟩
        · unfold AllT AllR
          exact ⟨hdom _, trivial⟩
      · simp only [List.cons.injEq, and_true] at hcs
        subst hcs
        have each : ∀ i, i < len → ∃ q : Tm × Option Addr × Nat, (∀ j, W.cell? ((a.add (i * 6)).add j) = ([Value.int .i64 q.1.kind, .string q.1.name, .string q.1.num, .int .u64 q.1.bits, .int .i64 q.1.var, .slice q.2.1 q.1.args.length q.2.2] : List Value)[j]? ∨ 6 ≤ j) ∧ TmAt W q.1 q.2.1 ∧ AllT DomA q.1 := by
          intro i hi
          have h1 := hE i hi
          rw [show Tryz.prog.cellsOf 25 = 6 by kernel_rfl] at h1
          rw [List.getElem?_eq_getElem (by omega)] at h1
          obtain ⟨cs', h2, h3⟩ := Option.bind_eq_some_iff.1 h1
          obtain ⟨t, p, c, rfl, h5, h6⟩ := ih m (by omega) cs' _ h3
          obtain ⟨_, hl2, hcell⟩ := World.cells?_some h2
          refine ⟨(t, p, c), fun j => ?_, h5, h6⟩
          by_cases hj : j < 6
          · left
            have := hcell j hj
            simpa using this
          · right; omega
        obtain ⟨q, hq⟩ := choose_lt each
        refine ⟨.mk kd nm nu bi va ((List.range len).map fun i => (q i).1), some a, cap, by simp [Tm.kind, Tm.name, Tm.num, Tm.bits, Tm.var, Tm.args], ?_, ?_⟩
        · unfold TmAt
          refine ⟨by simp; omega, ?_⟩
          by_cases h0 : len = 0
          · left; subst h0; rfl
          · right
            obtain ⟨xb, xo, spot⟩ := a
            have hc0 := (hq 0 (by omega)).1 0
            have hspot : spot = none := by
              rcases hc0 with hc | hc
              · simpa [Addr.add] using World.cell?_spot hc
              · omega
            subst hspot
            refine ⟨xb, xo, rfl, RowT.mk fun k hk => ?_⟩
            have hk' : k < len := by simpa using hk
            obtain ⟨hc, ht, -⟩ := hq k hk'
            refine ⟨(q k).2.1, (q k).2.2, ?_, by simpa using ht⟩
            have c : ∀ j, j < 6 → W.cell? ⟨xb, xo + k * 6 + j, none⟩ = ([Value.int .i64 (q k).1.kind, .string (q k).1.name, .string (q k).1.num, .int .u64 (q k).1.bits, .int .i64 (q k).1.var, .slice (q k).2.1 (q k).1.args.length (q k).2.2] : List Value)[j]? := fun j hj => by
              rcases hc j with h | h
              · rw [← h, Addr.add_lit, Addr.add_lit]
              · omega
            have e : ((List.range len).map fun i => (q i).1)[k] = (q k).1 := by simp
            rw [e]
            exact ⟨(c 0 (by omega)).trans rfl, (c 1 (by omega)).trans rfl, (c 2 (by omega)).trans rfl, (c 3 (by omega)).trans rfl, (c 4 (by omega)).trans rfl, (c 5 (by omega)).trans rfl⟩
        · unfold AllT
          refine ⟨hdom _, AllR.mk fun k hk => ?_⟩
          have hk' : k < len := by simpa using hk
          simpa using (hq k hk').2.2
set_option maxRecDepth 100000 in
theorem open_term {v : Value} {d : DataW H} {p : List MemPlace} {base : Nat} {sp : Nat → Bool} {held : Bool} {r : Reach} {b0 : Nat} (hval : Value.okWide Tryz.prog W r b0 25 v) (h : DataW.Trod enc Tryz.prog W base sp held 25 v d p) :
    ∃ (t : Tm) (q : Option Addr) (cap : Nat), v = t.val q cap ∧ TmAt W t q ∧ AllT DomA t := by
  obtain ⟨cs, rfl, hsz⟩ := okWide_struct Tryz.underlying25 hval
  obtain ⟨fuel, hf⟩ := h
  obtain ⟨t, q, cap, hcs, h1, h2⟩ := open_tree fuel _ _ hf
  refine ⟨t, q, cap, ?_, h1, h2⟩
  have : cs.toList = [.int .i64 t.kind, .string t.name, .string t.num, .int .u64 t.bits, .int .i64 t.var, .slice q t.args.length cap] := by simpa [Value.cells] using hcs
  unfold Tm.val
  rw [← Array.toArray_toList (xs := cs), this]
end
end Go.Proofs.YtiaddfedaikaiaaGreatDoor
