/- Terms with others in the places of variables: plain; the function that Put hands on second. No condition but those that each theorem names. Walk: fill at the function that Put hands on second. No condition but those that the theorem names. Walks: Put of the program. No condition but those that each theorem names. -/
import Derived.Test.YtiaddfedaikaiaaGreatDoorT73m
namespace Go.Proofs.YtiaddfedaikaiaaGreatDoor
open Go.RowKit Go.Maps

/-- What some binds say of a variable. -/
def lookB : List Bnd → Int → Option Tm
  | [], _ => none
  | x :: l, v => if x.1 = v then some x.2 else lookB l v
/-- What stands in a variable's place. -/
def instV (l : List Bnd) (v : Int) : Tm := match lookB l v with | some u => u | none => leaf 1 ⟨#[]⟩ ⟨#[]⟩ v
mutual
def instT (l : List Bnd) : Tm → Tm
  | .mk k n u b v ts => if k = 1 then instV l v else .mk k n u b v (instL l ts)
def instL (l : List Bnd) : List Tm → List Tm
  | [] => []
  | t :: ts => instT l t :: instL l ts
end
theorem instL_map (l : List Bnd) : ∀ ts, instL l ts = ts.map (instT l)
  | [] => rfl
  | t :: ts => by rw [instL, instL_map l ts]; rfl
theorem instT_var {l : List Bnd} {t : Tm} (h : t.kind = 1) : instT l t = instV l t.var := by cases t; rw [instT, if_pos (by exact h)]; rfl
theorem instT_not {l : List Bnd} {t : Tm} (h : t.kind ≠ 1) : instT l t = .mk t.kind t.name t.num t.bits t.var (t.args.map (instT l)) := by cases t; rw [instT, if_neg (by exact h), instL_map]; rfl
/-- A map's function is what some binds say. -/
def FitL (w : World) (l : List Bnd) (F : Fs) : Prop := ∀ v, match lookB l v with
  | none => F v = none
  | some u => checkErr vName numOk bitsOk u = 0 ∧ ∃ p c, F v = some (rawOf u p c) ∧ TmAt w u p
theorem standE_zero : ∀ {l : List Bnd} {S : List Int}, standE l S = 0 → (∀ x ∈ l, x.1 ∉ S ∧ 0 ≤ x.1 ∧ checkErr vName numOk bitsOk x.2 = 0) ∧ (l.map (·.1)).Nodup
  | [], _, _ => ⟨(fun x hx => (List.not_mem_nil hx).elim), List.nodup_nil⟩
  | y :: l, S, h => by
    unfold standE at h
    split at h
    · cases h
    · rename_i hn
      split at h
      · rename_i he
        obtain ⟨h1, h2⟩ := standE_zero h
        refine ⟨fun x hx => ?_, ?_⟩
        · rcases List.mem_cons.1 hx with rfl | hx
          · exact ⟨fun k => hn (.inl k), by omega, he⟩
          · obtain ⟨k1, k2⟩ := h1 x hx
            exact ⟨fun k => k1 (by simp [k]), k2⟩
        · rw [List.map_cons, List.nodup_cons]
          refine ⟨fun hm => ?_, h2⟩
          obtain ⟨x, hx, e⟩ := List.mem_map.1 hm
          exact (h1 x hx).1 (by rw [e]; simp)
      · rename_i he; exact absurd h he
theorem lookB_get : ∀ {l : List Bnd} (_ : (l.map (·.1)).Nodup) (j : Nat) (h : j < l.length), lookB l l[j].1 = some l[j].2
  | [], _, j, h => by simp at h
  | x :: l, hn, 0, _ => by simp [lookB]
  | x :: l, hn, j + 1, h => by
    rw [List.map_cons, List.nodup_cons] at hn
    have hj : j < l.length := by simpa using h
    simp only [List.getElem_cons_succ, lookB]
    rw [if_neg (fun e => hn.1 (by rw [e]; exact List.mem_map.2 ⟨l[j], List.getElem_mem hj, rfl⟩))]
    exact lookB_get hn.2 j hj
theorem lookB_none : ∀ {l : List Bnd} {v : Int}, v ∉ l.map (·.1) → lookB l v = none
  | [], _, _ => rfl
  | x :: l, v, h => by
    simp only [List.map_cons, List.mem_cons, not_or] at h
    unfold lookB
    rw [if_neg (fun e => h.1 e.symm)]
    exact lookB_none h.2
theorem FitF.fitL {w : World} {l : List Bnd} {F : Fs} (h : FitF w l l.length F) (h0 : standE l [] = 0) : FitL w l F := fun v => by
  have hn := (standE_zero h0).2
  have e : varsB l l.length = l.map (·.1) := by unfold varsB; rw [List.take_length]
  by_cases hv : v ∈ varsB l l.length
  · obtain ⟨j, hj, _, rfl, h1, h2⟩ := (h v).1 hv
    rw [lookB_get hn j hj]
    exact ⟨h1, h2⟩
  · rw [lookB_none (by rw [← e]; exact hv)]
    exact (h v).2 hv
/-- What lies behind the function. -/
structure StS (w : World) (bs m n : Nat) (F : Fs) (l : List Bnd) : Prop where
  stands : w.heap[bs]? = some (.cells #[.map (some m)] 148 (0, 0))
  map : Stnd w m n F
  fit : FitL w l F
  cp : ∀ v u, lookB l v = some u → AllT CpOk u
theorem FitL.keep {w w' : World} {l : List Bnd} {F : Fs} (h : FitL w l F) (hb : Below w.heap.size w w') : FitL w' l F := fun v => by
  have h1 := h v
  split at h1
  · exact h1
  · obtain ⟨g1, p, c, g2, g3⟩ := h1
    exact ⟨g1, p, c, g2, g3.keep hb⟩
theorem StS.keep {w w' : World} {bs m n : Nat} {F : Fs} {l : List Bnd} (h : StS w bs m n F l) (hb : Below w.heap.size w w') : StS w' bs m n F l :=
  ⟨(hb.block _ (lt_of_block h.stands)).trans h.stands, h.map.keep hb, h.fit.keep hb, h.cp⟩
set_option maxRecDepth 100000 in
set_option maxHeartbeats 8000000 in
theorem putTwo_any (bs m n : Nat) (F : Fs) (l : List Bnd) (v : Int) (w : World) (hP : StS w bs m n F l) (hv : (Lit.int .i64 v).wf = true) :
    Calls Tryz.prog 125 #[.int .i64 v, .pointer (some ⟨bs, 0, none⟩)] w fun e w' => ∃ q c S, e = .returned ((instV l v).val q c) ∧ MineT w' (instV l v) q c S ∧ (∀ k ∈ S, w.heap.size ≤ k) ∧ Below w.heap.size w w' := by
  have HP := hid hP
  obtain ⟨W0, hW0⟩ : ∃ W0, W0 = w.alloc (.cells #[.int .i64 0, .string ⟨#[]⟩, .string ⟨#[]⟩, .int .u64 0, .int .i64 0, .slice none 0 0] 25) := ⟨_, rfl⟩
  have B0 := hid (show Below w.heap.size w W0 by rw [hW0]; exact (Below.refl _ _).alloc (Nat.le_refl _) _)
  have R0 := hid (show W0.heap[w.heap.size]? = some (.cells #[.int .i64 0, .string ⟨#[]⟩, .string ⟨#[]⟩, .int .u64 0, .int .i64 0, .slice none 0 0] 25 (0, 0)) by rw [hW0]; exact heap_alloc_new w _)
  have P0 := hid (hP.keep B0.out)
  have hs0 : W0.heap.size = w.heap.size + 1 := by rw [hW0]; simp
  have c0 := (cells_of P0.out.stands 0).trans rfl
  have c0' := (cells_of hP.stands 0).trans rfl
  have hft := P0.out.fit v
  have hst : (F v).isSome = (lookB l v).isSome := by
    cases h : lookB l v with
    | none => rw [h] at hft; rw [show F v = none from hft]; rfl
    | some u => rw [h] at hft; obtain ⟨_, p, c, h2, _⟩ := hft; rw [h2]; rfl
  have HST := hid hst
  clear hst hP
  cases hlk : lookB l v with
  | none =>
    rw [hlk] at hft HST
    have hF : stood F v = Raw.no := by unfold stood; rw [show F v = none from hft]; rfl
    have HF := hid hF
    have hI : instV l v = leaf 1 ⟨#[]⟩ ⟨#[]⟩ v := by unfold instV; rw [hlk]
    rw [hI]
    obtain ⟨W1, hW1⟩ : ∃ W1, W1 = W0.alloc (.cells #[.int .i64 0, .string ⟨#[]⟩, .string ⟨#[]⟩, .int .u64 0, .int .i64 0, .slice none 0 0, .int .i64 0] 152) := ⟨_, rfl⟩
    have B1 := hid (show Below W0.heap.size W0 W1 by rw [hW1]; exact (Below.refl _ _).alloc (Nat.le_refl _) _)
    have R1 := hid ((B1.out.block _ (lt_of_block R0.out)).trans R0.out)
    have CV := hid (variable_any v W1)
    rw [show (leaf 1 ⟨#[]⟩ ⟨#[]⟩ v).val none 0 = .agg #[.int .i64 1, .string ⟨#[]⟩, .string ⟨#[]⟩, .int .u64 0, .int .i64 v, .slice none 0 0] from rfl] at CV
    clear hft hF hI
    go_enter Tryz.func125, Tryz.ntmps125
    go_upto_region 1 with fail
    rw [← hW0]
    clear hW0
    go_upto_region 2 with (at_lookup; refine wpList_stood _ rfl _ _ rfl ?_; refine ⟨m, n, F, v, rfl, P0.out.map, hv, rfl, ?_⟩; rw [HF.out, HST.out]; unfold Raw.val; simp only [Raw.no, Option.isSome])
    rw [← hW1]
    clear hW1
    go_wp2_with (go_at_call 127; (with_reducible refine CV.out.mono ?_); rintro e w2 ⟨rfl, hb2⟩; have R2 := hid ((hb2.block _ (lt_of_block R1.out)).trans R1.out); have B2 := hid (B0.out.trans ((B1.out.trans (hb2.mono B1.out.size)).mono B0.out.size)); clear hb2; obtain ⟨⟨z0, z1, z2, z3, z4, z5⟩, ⟨f0, f1, f2, f3, f4, f5⟩⟩ := six_free R2.out)
    exact bodyPost_ret (results_tm rfl _ _ w.heap.size (leaf 1 ⟨#[]⟩ ⟨#[]⟩ v) none 0 (by rfl) (set6 R2.out _ _ _ _ _ _)) rfl ⟨none, 0, [], rfl, leaf_mine _ _ _ _ _, by simp, set6_below B2.out (Nat.le_refl _) _ _ _ _ _ _⟩
  | some u =>
    rw [hlk] at hft HST
    obtain ⟨_, p, c, hFv, hTu⟩ := hft
    have hF : stood F v = rawOf u p c := by unfold stood; rw [hFv]; rfl
    have HF := hid hF
    have hI : instV l v = u := by unfold instV; rw [hlk]
    rw [hI]
    obtain ⟨W1, hW1⟩ : ∃ W1, W1 = W0.alloc (.cells #[.int .i64 u.kind, .string u.name, .string u.num, .int .u64 u.bits, .int .i64 u.var, .slice p u.args.length c, .int .i64 (nodes u : Int)] 152) := ⟨_, rfl⟩
    have B1 := hid (show Below W0.heap.size W0 W1 by rw [hW1]; exact (Below.refl _ _).alloc (Nat.le_refl _) _)
    have R1 := hid ((B1.out.block _ (lt_of_block R0.out)).trans R0.out)
    have hN := (show W1.heap[w.heap.size + 1]? = some (.cells #[.int .i64 u.kind, .string u.name, .string u.num, .int .u64 u.bits, .int .i64 u.var, .slice p u.args.length c, .int .i64 (nodes u : Int)] 152 (0, 0)) by rw [hW1, ← hs0]; exact World.alloc_heap_new W0 _)
    have CV := hid (copyOf_any u p c W1 (hTu.keep B1.out) (HP.out.cp v u hlk))
    have HV := hid (show ∀ q c, u.val q c = .agg #[.int .i64 u.kind, .string u.name, .string u.num, .int .u64 u.bits, .int .i64 u.var, .slice q u.args.length c] from fun _ _ => rfl)
    have d := fun k => cells_of hN k
    have d0 := (d 0).trans rfl
    have d1 := (d 1).trans rfl
    have d2 := (d 2).trans rfl
    have d3 := (d 3).trans rfl
    have d4 := (d 4).trans rfl
    have d5 := (d 5).trans rfl
    unfold Tm.val at CV ⊢
    clear hF hI hN d hTu hFv
    go_enter Tryz.func125, Tryz.ntmps125
    go_upto_region 1 with fail
    rw [← hW0]
    clear hW0
    go_upto_region 2 with (at_lookup; refine wpList_stood _ rfl _ _ rfl ?_; refine ⟨m, n, F, v, rfl, P0.out.map, hv, rfl, ?_⟩; rw [HF.out, HST.out]; unfold Raw.val rawOf; simp only [Option.isSome])
    rw [← hW1]
    clear hW1
    go_wp2_with (go_at_call 126; (with_reducible refine CV.out.mono ?_); rintro e w2 ⟨q2, c2, S2, rfl, hm, hS, hb2⟩; have HM := hid hm; have HS := hid hS; have R2 := hid ((hb2.block _ (lt_of_block R1.out)).trans R1.out); have B2 := hid (B0.out.trans ((B1.out.trans (hb2.mono B1.out.size)).mono B0.out.size)); have HZ := hid (show w.heap.size + 1 ≤ W1.heap.size by have := B1.out.size; omega); clear hb2 hm hS; obtain ⟨⟨z0, z1, z2, z3, z4, z5⟩, ⟨f0, f1, f2, f3, f4, f5⟩⟩ := six_free R2.out)
    have hg := set6_grown w2 w.heap.size (.int .i64 u.kind) (.string u.name) (.string u.num) (.int .u64 u.bits) (.int .i64 u.var) (.slice q2 u.args.length c2)
    refine bodyPost_ret (results_tm rfl _ _ w.heap.size u q2 c2 (by rfl) (set6 R2.out _ _ _ _ _ _)) rfl ⟨q2, c2, S2, rfl, HM.out.same fun x hx => hg.block x (HM.out.lt x hx) (fun e => ?_), fun x hx => ?_, set6_below B2.out (Nat.le_refl _) _ _ _ _ _ _⟩
    · have := HS.out x hx
      have := HZ.out
      have := Option.some.inj e
      omega
    · have := HS.out x hx
      have := HZ.out
      omega
end Go.Proofs.YtiaddfedaikaiaaGreatDoor

namespace Go.Proofs.YtiaddfedaikaiaaGreatDoor
open Go.RowKit Go.Maps

set_option maxRecDepth 100000 in
set_option maxHeartbeats 16000000 in
theorem fillP_any (bs m n : Nat) (F : Fs) (l : List Bnd) (d : Nat) : ∀ (t : Tm) (p : Option Addr) (cap : Nat) (w : World), nodes t ≤ d → TmAt w t p → AllT CpOk t → AllT DomA t → StS w bs m n F l →
    Calls Tryz.prog 124 #[t.val p cap, .func (.func 125) #[] #[.pointer (some ⟨bs, 0, none⟩)]] w fun e w' => ∃ q c S, e = .returned ((instT l t).val q c) ∧ MineT w' (instT l t) q c S ∧ (∀ k ∈ S, w.heap.size ≤ k) ∧ Below w.heap.size w w' := by
  induction d with
  | zero => intro t p cap w h; have := nodes_pos t; omega
  | succ d ih =>
    intro t p cap w hd hT hC hA hP
    have HA := hid hA
    have HP := hid hP
    have hva : (Lit.int .i64 t.var).wf = true := hA.head.var
    have HVA := hid hva
    clear hA hP hva
    have IH := hid ih
    have HT := hid hT
    have HC := hid hC
    have hlt := hT.len
    unfold maxLen at hlt
    by_cases h1 : t.kind = 1
    · obtain ⟨a1, a2, a3, a4⟩ := hC.head.1 h1
      have ht : t = leaf 1 ⟨#[]⟩ ⟨#[]⟩ t.var := by
        cases t; simp only [Tm.kind, Tm.name, Tm.num, Tm.bits, Tm.args, Tm.var] at *; subst h1 a1 a2 a3 a4; rfl
      have hI : instT l t = instV l t.var := instT_var h1
      have HF := hid (fun (W : World) (h : Below w.heap.size w W) => putTwo_any bs m n F l t.var W (HP.out.keep h) HVA.out)
      rw [hI]
      generalize t.var = v at *
      generalize instV l v = u at *
      subst ht
      unfold Tm.val at HF ⊢
      clear ih IH HT HC hT hC a1 a2 a3 a4 h1 hlt HA hI
      show Calls Tryz.prog 124 #[.agg #[.int .i64 1, .string ⟨#[]⟩, .string ⟨#[]⟩, .int .u64 0, .int .i64 v, .slice p 0 cap], .func (.func 125) #[] #[.pointer (some ⟨bs, 0, none⟩)]] w _
      go_enter Tryz.func124, Tryz.ntmps124
      go_wp2_with (go_at_call 125; (with_reducible refine (HF.out _ (((Below.refl _ _).alloc (Nat.le_refl _) _).alloc (by simp) _)).mono ?_); rintro e w2 ⟨q2, c2, S2, rfl, hm, hS, hb2⟩; have HM := hid hm; have HS := hid hS; have hg := heap_alloc_new (w.alloc (tobj (leaf 1 ⟨#[]⟩ ⟨#[]⟩ v) p cap)) (tobj (leaf 0 ⟨#[]⟩ ⟨#[]⟩ 0) none 0); rw [World.size_alloc] at hg; have HG := hid (show w2.heap[w.heap.size + 1]? = some (.cells #[.int .i64 0, .string ⟨#[]⟩, .string ⟨#[]⟩, .int .u64 0, .int .i64 0, .slice none 0 0] 25 (0, 0)) from (hb2.block _ (by simp)).trans hg); have B2 := hid ((((Below.refl w.heap.size w).alloc (Nat.le_refl _) _).alloc (by simp) _).trans (hb2.mono (by simp; omega))); obtain ⟨⟨z0, z1, z2, z3, z4, z5⟩, ⟨f0, f1, f2, f3, f4, f5⟩⟩ := six_free HG.out; clear hb2 hg hm hS)
      have hgr := set6_grown w2 (w.heap.size + 1) (.int .i64 u.kind) (.string u.name) (.string u.num) (.int .u64 u.bits) (.int .i64 u.var) (.slice q2 u.args.length c2)
      have HS' : ∀ x ∈ S2, w.heap.size + 2 ≤ x := fun x hx => by have := HS.out x hx; simp at this; omega
      exact bodyPost_ret (results_tm rfl _ _ (w.heap.size + 1) u q2 c2 (by rfl) (set6 HG.out _ _ _ _ _ _)) rfl ⟨q2, c2, S2, rfl, HM.out.same fun x hx => hgr.block x (HM.out.lt x hx) (fun e => by have := HS' x hx; have := Option.some.inj e; omega), fun x hx => by have := HS' x hx; omega, set6_below B2.out (by omega) _ _ _ _ _ _⟩
    · have hq1 : (t.kind == 1) = false := beq_eq_false_iff_ne.2 h1
      have hI : instT l t = .mk t.kind t.name t.num t.bits t.var (t.args.map (instT l)) := instT_not h1
      rw [hI]
      clear hI
      have HUV := hid (show ∀ q c, (Tm.mk t.kind t.name t.num t.bits t.var (t.args.map (instT l))).val q c = t.val q c from fun q c => by
        show Value.agg #[.int .i64 t.kind, .string t.name, .string t.num, .int .u64 t.bits, .int .i64 t.var, .slice q (t.args.map (instT l)).length c] = _
        rw [List.length_map]; rfl)
      simp only [HUV.out]
      by_cases hn : t.args.length = 0
      · have ha : t.args = [] := List.length_eq_zero_iff.1 hn
        have hm : ∀ W, MineT W (Tm.mk t.kind t.name t.num t.bits t.var (t.args.map (instT l))) none 0 [] := fun W => by
          unfold MineT; simp only [ha, List.map_nil]; exact ⟨by simp, .inl (by simp)⟩
        have HM := hid hm
        have HN := hid hn
        have HV := hid (show t.val none 0 = .agg #[.int .i64 t.kind, .string t.name, .string t.num, .int .u64 t.bits, .int .i64 t.var, .slice none 0 0] by unfold Tm.val; rw [hn])
        unfold Tm.val
        rw [hn]
        clear IH ih HT HC hT hC hlt h1 hm ha hn HA HP HVA
        go_enter Tryz.func124, Tryz.ntmps124
        go_wp2_with fail
        refine wp_loop_rounds 1 ?_
        rw [rounds_succ]
        go_wp2
        have hg := heap_alloc_new (w.alloc (.cells #[.int .i64 t.kind, .string t.name, .string t.num, .int .u64 t.bits, .int .i64 t.var, .slice none 0 0] 25)) (.cells #[.int .i64 t.kind, .string t.name, .string t.num, .int .u64 t.bits, .int .i64 t.var, .slice none 0 0] 25)
        rw [World.size_alloc] at hg
        have hg2 : ((w.alloc (.cells #[.int .i64 t.kind, .string t.name, .string t.num, .int .u64 t.bits, .int .i64 t.var, .slice none 0 0] 25)).alloc (.cells #[.int .i64 t.kind, .string t.name, .string t.num, .int .u64 t.bits, .int .i64 t.var, .slice none 0 0] 25)).heap[w.heap.size + 1]? = some (tobj t none 0) := by
          unfold tobj; rw [HN.out]; exact hg
        refine bodyPost_ret ((results_tm rfl _ _ (w.heap.size + 1) t none 0 (by rfl) hg2).trans (by rw [HV.out])) rfl ⟨none, 0, [], rfl, HM.out _, by simp, ((Below.refl _ _).alloc (Nat.le_refl _) _).alloc (by simp) _⟩
      · have hn0 : (0 : Int) < (t.args.length : Int) := by omega
        have hz := hC.head.2
        obtain ⟨i0, hi, hz0, hz1, hz2⟩ := info_parts infoTerm
        obtain ⟨W0, hW0⟩ : ∃ W0, W0 = (w.alloc (.cells #[.int .i64 t.kind, .string t.name, .string t.num, .int .u64 t.bits, .int .i64 t.var, .slice none 0 0] 25)).alloc (tobj (leaf 0 ⟨#[]⟩ ⟨#[]⟩ 0) none 0) := ⟨_, rfl⟩
        have hs0 : W0.heap.size = w.heap.size + 2 := by rw [hW0]; simp
        have hB := hid (show Below w.heap.size w W0 by rw [hW0]; exact ((Below.refl w.heap.size w).alloc (Nat.le_refl _) _).alloc (by simp) _)
        obtain ⟨w1, hrun, hown, hgrow⟩ := run_make_full (P := Tryz.prog) W0 W0.heap.size 23 25 i0 (.agg #[.int .i64 0, .string ⟨#[]⟩, .string ⟨#[]⟩, .int .u64 0, .int .i64 0, .slice none 0 0]) 6 Tryz.underlying23 hi hz0 hz1 .i64 .i64 t.args.length (by rw [hz2]; omega) (by unfold maxLen; omega) (Nat.le_refl _)
        rw [hW0] at hrun
        rw [show tobj (leaf 0 ⟨#[]⟩ ⟨#[]⟩ 0) none 0 = .cells #[.int .i64 0, .string ⟨#[]⟩, .string ⟨#[]⟩, .int .u64 0, .int .i64 0, .slice none 0 0] 25 from rfl] at hrun
        have hne : ∀ k, k ≠ W0.heap.size → w1.heap[k]? = W0.heap[k]? ∨ W0.heap.size ≤ k := fun k _ => by
          by_cases h : k < W0.heap.size
          · exact .inl (hgrow.block k h (by simp))
          · exact .inr (by omega)
        have hg0 : w1.heap[w.heap.size]? = some (.cells #[.int .i64 t.kind, .string t.name, .string t.num, .int .u64 t.bits, .int .i64 t.var, .slice none 0 0] 25 (0, 0)) := by
          refine (hgrow.block _ (by omega) (by simp)).trans ?_
          rw [hW0]
          exact (heap_alloc_old (w.alloc _) _ (by simp)).trans (heap_alloc_new w _)
        have hg1 : w1.heap[w.heap.size + 1]? = some (.cells #[.int .i64 0, .string ⟨#[]⟩, .string ⟨#[]⟩, .int .u64 0, .int .i64 0, .slice none 0 0] 25 (0, 0)) := by
          refine (hgrow.block _ (by omega) (by simp)).trans ?_
          rw [hW0]
          have h := heap_alloc_new (w.alloc (.cells #[.int .i64 t.kind, .string t.name, .string t.num, .int .u64 t.bits, .int .i64 t.var, .slice none 0 0] 25)) (tobj (leaf 0 ⟨#[]⟩ ⟨#[]⟩ 0) none 0)
          rw [World.size_alloc] at h
          exact h
        obtain ⟨cur, hgb, hcs⟩ : ∃ cur, w1.heap[w.heap.size + 1 + 1]? = some (.cells cur 25 (0, 0)) ∧ cur.size = t.args.length * 6 := by
          rcases hown.2 with ⟨h', _⟩ | ⟨g', cap', cur, h', _, hg, _, _, hs, _⟩
          · simp at h'
          · simp only [Value.slice.injEq, Option.some.injEq, Addr.mk.injEq, and_true, true_and] at h'
            obtain ⟨rfl, rfl⟩ := h'
            rw [hs0] at hg
            exact ⟨cur, hg, hs⟩
        have hB1 := hid (show Below w.heap.size w w1 from hB.out.trans (((Below.refl _ _).grown hgrow (Nat.le_refl _) (by intro k hk; simp at hk)).mono hB.out.size))
        have hsz1 : w.heap.size + 1 + 1 < w1.heap.size := lt_of_block hgb
        obtain ⟨⟨z0, z1, z2, z3, z4, z5⟩, ⟨f0, f1, f2, f3, f4, f5⟩⟩ := six_free hg0
        have HG0 := hid hg0
        have HG1 := hid hg1
        have HGB := hid hgb
        unfold Tm.val
        clear ih hne hg0 hg1 hgb hown hgrow hi hz0 hz1 hz2 hW0 hT hC hB
        go_enter Tryz.func124, Tryz.ntmps124
        go_wp2_with fail
        obtain ⟨W2, hW2⟩ : ∃ W2, W2 = w1.setCell ⟨w.heap.size, 5, none⟩ (.slice (some ⟨w.heap.size + 1 + 1, 0, none⟩) t.args.length t.args.length) := ⟨_, rfl⟩
        rw [← hW2]
        have hg0 := heap_setCell_same w1 w.heap.size 5 _ _ (.slice (some ⟨w.heap.size + 1 + 1, 0, none⟩) t.args.length t.args.length) HG0.out
        have hoth : ∀ k, k ≠ w.heap.size → W2.heap[k]? = w1.heap[k]? := fun k hk => by rw [hW2]; exact heap_setCell_other w1 ⟨w.heap.size, 5, none⟩ k _ (fun e => hk e)
        rw [← hW2] at hg0
        have P0 := hid (show W2.heap[w.heap.size]? = some (tobj t (some ⟨w.heap.size + 1 + 1, 0, none⟩) t.args.length) from hg0)
        have P1 := hid ((hoth (w.heap.size + 1) (by omega)).trans HG1.out)
        have PB := hid ((hoth (w.heap.size + 1 + 1) (by omega)).trans HGB.out)
        have B2 := hid (show Below w.heap.size w W2 by rw [hW2]; exact hB1.out.setCell (Nat.le_refl _) _)
        have hcs' := hid hcs
        have hdec : decide (0 < t.args.length) = true := decide_eq_true (by omega)
        (try simp only [hdec])
        clear hdec
        clear hg0 hoth HG0 HG1 HGB z0 z1 z2 z3 z4 z5 f0 f1 f2 f3 f4 f5 hrun hW2 hB1 hsz1 hcs
        go_loopw [27] (fun i wr => ∃ (k : Nat) (S : List Nat) (arr : Array Value), k ≤ t.args.length ∧ i = .int .i64 (k : Int) ∧ Hid (wr.heap[w.heap.size]? = some (tobj t (some ⟨w.heap.size + 1 + 1, 0, none⟩) t.args.length)) ∧ Hid (wr.heap[w.heap.size + 1]? = some (.cells #[.int .i64 0, .string ⟨#[]⟩, .string ⟨#[]⟩, .int .u64 0, .int .i64 0, .slice none 0 0] 25 (0, 0))) ∧ Hid (wr.heap[w.heap.size + 1 + 1]? = some (.cells arr 25 (0, 0))) ∧ Hid (arr.size = t.args.length * 6) ∧ Hid (MineR wr ((t.args.take k).map (instT l)) (w.heap.size + 1 + 1) 0 S) ∧ Hid (∀ x ∈ S, w.heap.size + 1 + 1 < x) ∧ Hid (Below w.heap.size w wr)) (fun i _ => t.args.length - (intOf i).toNat)
        case atStart => exact ⟨0, [], cur, by omega, rfl, P0, P1, PB, hcs', hid (by rw [List.take_zero, List.map_nil]; unfold MineR; rfl), hid (by simp), B2⟩
        case round =>
          clear P0 P1 PB B2 hcs'
          obtain ⟨k, S, arr, hk, rfl, P0, P1, PB, hcs, HM, HS, hBr⟩ := hrel
          by_cases hlt : k < t.args.length
          · have hk0 : (0 : Int) ≤ (k : Int) := by omega
            have hk1 : (k : Int) < (t.args.length : Int) := by omega
            obtain ⟨b, o, rfl, e1, c1, hs1, ht1⟩ := (HT.out.keep hBr.out).get k hlt
            have HCALL := hid (fun (W : World) (h : Below wr.heap.size wr W) => IH.out t.args[k] e1 c1 W (by have := nodes_lt hlt; omega) (ht1.keep h) (HC.out.arg k hlt) (HA.out.arg k hlt) (HP.out.keep (hBr.out.trans (h.mono hBr.out.size))))
            have HTK := hid (show (t.args.take (k + 1)).map (instT l) = (t.args.take k).map (instT l) ++ [instT l t.args[k]] by rw [← List.take_append_getElem hlt, List.map_append]; rfl)
            clear ht1
            generalize t.args[k] = t1 at *
            generalize instT l t1 = u1 at *
            unfold Tm.val at HCALL
            obtain ⟨x0, x1, x2, x3, x4, x5⟩ := hs1
            go_wp2_with fail
            obtain ⟨Wp, hWp⟩ : ∃ Wp, Wp = wr.alloc (tobj t1 e1 c1) := ⟨_, rfl⟩
            have hWp' := hWp
            unfold tobj at hWp'
            rw [← hWp']
            have BP := hid (show Below wr.heap.size wr Wp by rw [hWp]; exact (Below.refl _ _).alloc (Nat.le_refl _) _)
            have hsp : Wp.heap.size = wr.heap.size + 1 := by rw [hWp]; simp
            have hp6 := six_of (show Wp.heap[wr.heap.size]? = some (tobj t1 e1 c1) by rw [hWp]; exact heap_alloc_new wr _)
            have hlw : w.heap.size + 1 + 1 < wr.heap.size := lt_of_block PB.out
            have SX := hid (show ∀ W : World, Held (w.heap.size + 1 + 1) Wp W → W.cell? ⟨w.heap.size, 5, none⟩ = some (.slice (some ⟨w.heap.size + 1 + 1, 0, none⟩) t.args.length t.args.length) ∧ W.cell? ⟨wr.heap.size, 0, none⟩ = some (.int .i64 t1.kind) ∧ W.cell? ⟨wr.heap.size, 1, none⟩ = some (.string t1.name) ∧ W.cell? ⟨wr.heap.size, 2, none⟩ = some (.string t1.num) ∧ W.cell? ⟨wr.heap.size, 3, none⟩ = some (.int .u64 t1.bits) ∧ W.cell? ⟨wr.heap.size, 4, none⟩ = some (.int .i64 t1.var) ∧ W.cell? ⟨wr.heap.size, 5, none⟩ = some (.slice e1 t1.args.length c1) from fun W h =>
              have q := fun j (v : Value) (hh : Wp.cell? ⟨wr.heap.size, j, none⟩ = some v) => ((World.cell?_of_block (a := ⟨wr.heap.size, j, none⟩) (h.same wr.heap.size (by omega) (by omega))).trans hh : W.cell? ⟨wr.heap.size, j, none⟩ = some v)
              ⟨(six_of (h.block ((BP.out.block _ (by omega)).trans P0.out) (by omega))).c5, q _ _ hp6.c0, q _ _ hp6.c1, q _ _ hp6.c2, q _ _ hp6.c3, q _ _ hp6.c4, q _ _ hp6.c5⟩)
            clear x0 x1 x2 x3 x4 x5 hp6 hWp hWp'
            have sd := SX.out Wp.drew (Held.of_below (Below.refl _ _).drew)
            refine wp_region_held_drew (S := fun W => W.cell? ⟨w.heap.size, 5, none⟩ = some (.slice (some ⟨w.heap.size + 1 + 1, 0, none⟩) t.args.length t.args.length) ∧ W.cell? ⟨wr.heap.size, 0, none⟩ = some (.int .i64 t1.kind) ∧ W.cell? ⟨wr.heap.size, 1, none⟩ = some (.string t1.name) ∧ W.cell? ⟨wr.heap.size, 2, none⟩ = some (.string t1.num) ∧ W.cell? ⟨wr.heap.size, 3, none⟩ = some (.int .u64 t1.bits) ∧ W.cell? ⟨wr.heap.size, 4, none⟩ = some (.int .i64 t1.var) ∧ W.cell? ⟨wr.heap.size, 5, none⟩ = some (.slice e1 t1.args.length c1)) (by kernel_rfl) sd (fun hHeld => ?_)
            refine' wpAnyH_take (i := 0) (v := (.pointer (some ⟨w.heap.size, 5, none⟩))) rfl (by decide +kernel) (by decide +kernel) (by decide +kernel) (fun _ _ _ h => h) (Or.inl ⟨by rfl, ?hyA0⟩) (by assumption) ?restA0
            case hyA0 => (intro w5 hSw; (try dsimp only at hSw); go_simp; try with_reducible rfl)
            case' restA0 => (try simp only [Act.put, List.setIfInBounds_toArray])
            refine' wpAnyH_take (i := 1) (v := (.slice (some ⟨w.heap.size + 1 + 1, 0, none⟩) t.args.length t.args.length)) rfl (by decide +kernel) (by decide +kernel) (by decide +kernel) (fun _ _ _ h => h) (Or.inl ⟨by rfl, ?hyA1⟩) (by assumption) ?restA1
            case hyA1 => (intro w5 hSw; (try dsimp only at hSw); go_simp; try with_reducible rfl)
            case' restA1 => (try simp only [Act.put])
            refine' wpAnyH_take (i := 2) (v := (.int .i64 (k : Int))) rfl (by decide +kernel) (by decide +kernel) (by decide +kernel) (fun _ _ _ h => h) (Or.inl ⟨by rfl, ?hyA2⟩) (by assumption) ?restA2
            case hyA2 => (intro w5 hSw; (try dsimp only at hSw); go_simp; try with_reducible rfl)
            case' restA2 => (try simp only [Act.put])
            refine' wpAnyH_take (i := 3) (v := (.agg #[.int .i64 t1.kind, .string t1.name, .string t1.num, .int .u64 t1.bits, .int .i64 t1.var, .slice e1 t1.args.length c1])) rfl (by decide +kernel) (by decide +kernel) (by decide +kernel) (fun _ _ _ h => h) (Or.inl ⟨by rfl, ?hyA3⟩) (by assumption) ?restA3
            case hyA3 => (intro w5 hSw; (try dsimp only at hSw); go_simp; try with_reducible rfl)
            case' restA3 => (try simp only [Act.put])
            refine' wpAnyH_take (i := 4) (v := (.func (.func 125) #[] #[.pointer (some ⟨bs, 0, none⟩)])) rfl (by decide +kernel) (by decide +kernel) (by decide +kernel) (fun _ _ _ h => h) (Or.inl ⟨by rfl, ?hyA4⟩) (by assumption) ?restA4
            case hyA4 => (intro w5 hSw; (try dsimp only at hSw); go_simp; try with_reducible rfl)
            case' restA4 => (try simp only [Act.put])

            refine wpAnyH_ready (rs := [5]) (by decide +kernel) (by simp) ?_
            refine AllReadyH.cons rfl (fun K hK => ?_) AllReadyH.nil
            go_simp
            (with_reducible refine (HCALL.out _ BP.out.drew).mono ?_)
            rintro e w2 ⟨q2, c2, S1, rfl, hm, hS1, hb2⟩
            have hsd : Wp.drew.heap.size = Wp.heap.size := rfl
            have HH2 := hid (show Held (w.heap.size + 1 + 1) Wp w2 from (Held.of_below (Below.refl _ _).drew).trans (Held.of_below hb2))
            have BR2 := hid (show Below wr.heap.size wr w2 from BP.out.drew.trans (hb2.mono (by omega)))
            have PB2 := hid ((BR2.out.block _ hlw).trans PB.out)
            have hz2 := hb2.size
            have ha6 : k * 6 + 6 ≤ arr.size := by have := hcs.out; omega
            have f2 : ∀ j, w2.frozen? ⟨w.heap.size + 1 + 1, j, none⟩ = false := fun j => by simp [World.frozen?, PB2.out]
            have g2 : ∀ j, j < 6 → ∃ v, w2.cell? ⟨w.heap.size + 1 + 1, k * 6 + j, none⟩ = some v := fun j hj => ⟨arr[k * 6 + j], by rw [cells_of PB2.out]; exact Array.getElem?_eq_getElem (by omega)⟩
            obtain ⟨v0, y0'⟩ := g2 0 (by omega)
            have y0 : w2.cell? ⟨w.heap.size + 1 + 1, k * 6, none⟩ = some v0 := y0'
            obtain ⟨v1, y1⟩ := g2 1 (by omega)
            obtain ⟨v2, y2⟩ := g2 2 (by omega)
            obtain ⟨v3, y3⟩ := g2 3 (by omega)
            obtain ⟨v4, y4⟩ := g2 4 (by omega)
            obtain ⟨v5, y5⟩ := g2 5 (by omega)
            have r0 := f2 (k * 6)
            have r1 := f2 (k * 6 + 1)
            have r2 := f2 (k * 6 + 2)
            have r3 := f2 (k * 6 + 3)
            have r4 := f2 (k * 6 + 4)
            have r5 := f2 (k * 6 + 5)
            have HMM := hid hm
            have HS1 := hid hS1
            clear f2 g2 hb2 hm hS1 y0'
            have s2 := SX.out w2 HH2.out
            refine hK.out _ _ s2 (fun hHeld => ?_)
            clear hK K
            (try simp only [Act.put, List.setIfInBounds_toArray, List.set_cons_zero, List.set_cons_succ])
            refine wpAnyH_ready (rs := [6]) (by decide +kernel) (by simp) ?_
            refine AllReadyH.cons rfl (fun K hK => ?_) AllReadyH.nil
            go_simp
            refine hK.out _ _ s2 (fun hHeld => ?_)
            clear hK K
            (try simp only [Act.put, List.setIfInBounds_toArray, List.set_cons_zero, List.set_cons_succ])
            refine wpAnyH_ready (rs := [7]) (by decide +kernel) (by simp) ?_
            refine AllReadyH.cons rfl (fun K hK => ?_) AllReadyH.nil
            go_simp
            obtain ⟨W9, h9⟩ : ∃ W9, W9 = (((((w2.setCell ⟨w.heap.size + 1 + 1, k * 6, none⟩ (.int .i64 u1.kind)).setCell ⟨w.heap.size + 1 + 1, k * 6 + 1, none⟩ (.string u1.name)).setCell ⟨w.heap.size + 1 + 1, k * 6 + 2, none⟩ (.string u1.num)).setCell ⟨w.heap.size + 1 + 1, k * 6 + 3, none⟩ (.int .u64 u1.bits)).setCell ⟨w.heap.size + 1 + 1, k * 6 + 4, none⟩ (.int .i64 u1.var)).setCell ⟨w.heap.size + 1 + 1, k * 6 + 5, none⟩ (.slice q2 u1.args.length c2) := ⟨_, rfl⟩
            rw [← h9]
            obtain ⟨gr9, arr', e9, es, eo, d0, d1, d2, d3, d4, d5⟩ := put6 PB2.out ha6 _ _ _ _ _ _ W9 h9
            have H9 := hid (HH2.out.trans (Held.of_grown gr9))
            have G9 := hid gr9
            have E9 := hid e9
            refine hK.out _ _ (SX.out W9 H9.out) (fun hHeld => ?_)
            clear hK K
            (try simp only [Act.put, List.setIfInBounds_toArray, List.set_cons_zero, List.set_cons_succ])
            refine wpAnyH_done (by kernel_rfl) ?_ _
            have c9 := fun j => cells_of E9.out j
            have N0 := hid (c9 (k * 6) |>.trans d0)
            have N1 := hid (c9 (k * 6 + 1) |>.trans d1)
            have N2 := hid (c9 (k * 6 + 2) |>.trans d2)
            have N3 := hid (c9 (k * 6 + 3) |>.trans d3)
            have N4 := hid (c9 (k * 6 + 4) |>.trans d4)
            have N5 := hid (c9 (k * 6 + 5) |>.trans d5)
            have ES := hid (es.trans hcs.out)
            have EO := hid eo
            have HA2 := hid (cells_of PB2.out)
            have HA9 := hid c9
            clear h9 gr9 e9 es eo d0 d1 d2 d3 d4 d5 c9 y0 y1 y2 y3 y4 y5 r0 r1 r2 r3 r4 r5 hHeld s2 sd
            go_wp2
            go_roundw
            case rel =>
              have hold : ∀ x, x ≠ w.heap.size + 1 + 1 → x < wr.heap.size → W9.heap[x]? = wr.heap[x]? := fun x hx hl => (G9.out.block x (by have := BR2.out.size; omega) (fun e => hx (Option.some.inj e))).trans (BR2.out.block x hl)
              have hnew : ∀ x ∈ S1, W9.heap[x]? = w2.heap[x]? := fun x hx => G9.out.block x (HMM.out.lt x hx) (fun e => by have := HS1.out x hx; have := Option.some.inj e; omega)
              have hlo : ∀ x ∈ S, x ≠ w.heap.size + 1 + 1 ∧ x < wr.heap.size := fun x hx => ⟨by have := HS.out x hx; omega, HM.out.lt x hx⟩
              refine ⟨k + 1, S ++ S1, arr', by omega, by go_num, hid ((hold _ (by omega) (by omega)).trans P0.out), hid ((hold _ (by omega) (by omega)).trans P1.out), E9, ES, hid ?_, hid ?_, hid ?_⟩
              · rw [HTK.out]
                refine MineR.snoc (HM.out.cells (fun j hj => ?_) fun x hx => hold x (hlo x hx).1 (hlo x hx).2) ?_ (HMM.out.same hnew) fun x hx h1 => ?_
                · have hj' : j < k * 6 := by simp at hj; omega
                  rw [HA9.out, EO.out _ (by omega), ← HA2.out]
                  exact World.cell?_of_block (a := ⟨w.heap.size + 1 + 1, 0 + j, none⟩) (BR2.out.block _ hlw)
                · have hl : 0 + ((t.args.take k).map (instT l)).length * 6 = k * 6 := by simp; omega
                  rw [hl]
                  exact ⟨N0.out, N1.out, N2.out, N3.out, N4.out, N5.out⟩
                · have := (hlo x hx).2
                  have := HS1.out x h1
                  omega
              · intro x hx
                rcases List.mem_append.1 hx with h | h
                · exact HS.out x h
                · have := HS1.out x h; omega
              · exact (hBr.out.trans (BR2.out.mono hBr.out.size)).grown G9.out (by have := BR2.out.size; have := hBr.out.size; omega) (fun x e => by cases e; omega)
            case measure => simp [intOf]; omega
          · obtain rfl : k = t.args.length := by omega
            obtain ⟨⟨z0, z1, z2, z3, z4, z5⟩, ⟨f0, f1, f2, f3, f4, f5⟩⟩ := six_free P1.out
            obtain ⟨x0, x1, x2, x3, x4, x5⟩ := six_of P0.out
            have hMT : MineR wr (t.args.map (instT l)) (w.heap.size + 1 + 1) 0 S := by have h := HM.out; rwa [List.take_length] at h
            have HMT := hid hMT
            clear hMT HM
            go_wp2
            have h1 := set6 P1.out (.int .i64 t.kind) (.string t.name) (.string t.num) (.int .u64 t.bits) (.int .i64 t.var) (.slice (some ⟨w.heap.size + 1 + 1, 0, none⟩) t.args.length t.args.length)
            have hgr := set6_grown wr (w.heap.size + 1) (.int .i64 t.kind) (.string t.name) (.string t.num) (.int .u64 t.bits) (.int .i64 t.var) (.slice (some ⟨w.heap.size + 1 + 1, 0, none⟩) t.args.length t.args.length)
            refine bodyPost_ret (results_tm rfl _ _ (w.heap.size + 1) t (some ⟨w.heap.size + 1 + 1, 0, none⟩) t.args.length (by rfl) h1) rfl ⟨some ⟨w.heap.size + 1 + 1, 0, none⟩, t.args.length, (w.heap.size + 1 + 1) :: S, rfl, ?_, ?_, set6_below hBr.out (by omega) _ _ _ _ _ _⟩
            · have hoth : ∀ x, x < wr.heap.size → x ≠ w.heap.size + 1 → _ := fun x hx hne => hgr.block x hx (fun e => hne (Option.some.inj e))
              have hb := (hoth (w.heap.size + 1 + 1) (lt_of_block PB.out) (by omega)).trans PB.out
              have hr := HMT.out.same (hoth (w.heap.size + 1 + 1) (lt_of_block PB.out) (by omega)) (fun x hx => hoth x (HMT.out.lt x hx) (by have := HS.out x hx; omega))
              have hl4 : t.args.length ≤ 64 := hz
              unfold MineT
              refine ⟨by rw [List.length_map]; omega, .inr ⟨_, arr, S, rfl, rfl, hb, hcs.out, ⟨by rw [List.length_map]; exact Nat.le_refl _, by unfold maxLen; omega⟩, fun h => by have := HS.out _ h; omega, hr⟩⟩
            · intro x hx
              rcases List.mem_cons.1 hx with rfl | hx
              · omega
              · have := HS.out x hx; omega
end Go.Proofs.YtiaddfedaikaiaaGreatDoor

namespace Go.Proofs.YtiaddfedaikaiaaGreatDoor
open Go.RowKit Go.Maps

theorem gain_fit {w : World} {l : List Bnd} {F : Fs} (h : FitL w l F) (v : Int) : gain F v = match lookB l v with | none => 0 | some u => (nodes u : Int) - 1 := by
  have h1 := h v
  unfold gain
  cases e : lookB l v with
  | none => rw [e] at h1; rw [show F v = none from h1]
  | some u => rw [e] at h1; obtain ⟨_, p, c, h2, _⟩ := h1; rw [h2]; rfl
theorem gain_bound {w : World} {l : List Bnd} {F : Fs} (h : FitL w l F) (v : Int) : 0 ≤ gain F v ∧ gain F v ≤ 4000 := by
  have h1 := h v
  rw [gain_fit h v]
  cases e : lookB l v with
  | none => simp
  | some u =>
    rw [e] at h1
    have h2 := h1.1
    have h3 := nodes_pos u
    have h4 : nodes u ≤ 4000 := by
      unfold checkErr at h2
      split at h2
      · cases h2
      · omega
    simp only
    omega
theorem lookB_some : ∀ {l : List Bnd} {v : Int} {u : Tm}, lookB l v = some u → ∃ (j : Nat) (h : j < l.length), l[j].1 = v ∧ l[j].2 = u
  | [], v, u, h => by cases h
  | x :: l, v, u, h => by
    unfold lookB at h
    by_cases e : x.1 = v
    · rw [if_pos e] at h
      exact ⟨0, by simp, e, Option.some.inj h⟩
    · rw [if_neg e] at h
      obtain ⟨j, hj, h1, h2⟩ := lookB_some h
      exact ⟨j + 1, by simpa using hj, by simpa using h1, by simpa using h2⟩
mutual
theorem inst_nodes {l : List Bnd} {F : Fs} (h : ∀ v, gain F v = match lookB l v with | none => 0 | some u => (nodes u : Int) - 1) : ∀ (t : Tm), AllT CpOk t → (nodes (instT l t) : Int) = nodes t + gainT F t
  | .mk k n u b v ts, hc => by
    unfold AllT at hc
    rw [gainT, instT]
    by_cases hk : k = 1
    · obtain ⟨a1, a2, a3, a4⟩ := hc.1.1 hk
      simp only [Tm.name, Tm.num, Tm.bits, Tm.args] at a1 a2 a3 a4
      subst a4
      rw [if_pos hk, if_pos hk, h v]
      unfold instV
      cases lookB l v with
      | none => simp [leaf, nodes, nodesL, gainL]
      | some x => simp [nodes, nodesL, gainL]; omega
    · have := inst_nodesL h ts hc.2
      rw [if_neg hk, if_neg hk]
      unfold nodes
      omega
theorem inst_nodesL {l : List Bnd} {F : Fs} (h : ∀ v, gain F v = match lookB l v with | none => 0 | some u => (nodes u : Int) - 1) : ∀ (ts : List Tm), AllR CpOk ts → (nodesL (instL l ts) : Int) = nodesL ts + gainL F ts
  | [], _ => by simp [instL, nodesL, gainL]
  | t :: ts, hc => by
    unfold AllR at hc
    have h1 := inst_nodes h t hc.1
    have h2 := inst_nodesL h ts hc.2
    unfold instL nodesL gainL
    omega
end
set_option maxRecDepth 100000 in
set_option maxHeartbeats 16000000 in
theorem put_bad1 (t : Tm) (p : Option Addr) (cp : Nat) (l : List Bnd) (q : Option Addr) (cl : Nat) (w : World) (ht : TmAt w t p) (hl : BindAt w l q) (hX : Utf w) (hDt : AllT DomA t) (hD : ∀ k (h : k < l.length), AllT DomA l[k].2) (hwf : ∀ k (h : k < l.length), (Lit.int .i64 l[k].1).wf = true) (hlm : l.length ≤ 4398046511104) (hv : checkErr vName numOk bitsOk t ≠ 0) :
    Calls Tryz.prog 75 #[t.val p cp, .slice q l.length cl] w fun x w' => x = .returned (.tuple #[(leaf 0 ⟨#[]⟩ ⟨#[]⟩ 0).val none 0, .int .i64 (checkErr vName numOk bitsOk t)]) ∧ Below w.heap.size w w' := by
  have HT := hid ht
  have hlm' : (l.length : Int) ≤ 4398046511104 := by omega
  obtain ⟨W0, hW0⟩ : ∃ W0, W0 = (w.alloc (.cells #[.int .i64 t.kind, .string t.name, .string t.num, .int .u64 t.bits, .int .i64 t.var, .slice p t.args.length cp] 25)).alloc (.cells #[.int .i64 0, .string ⟨#[]⟩, .string ⟨#[]⟩, .int .u64 0, .int .i64 0, .slice none 0 0] 25) := ⟨_, rfl⟩
  have B0 := hid (show Below w.heap.size w W0 by rw [hW0]; exact ((Below.refl w.heap.size w).alloc (Nat.le_refl _) _).alloc (by simp) _)
  have E0 := hid (show W0.heap[w.heap.size]? = some (.cells #[.int .i64 t.kind, .string t.name, .string t.num, .int .u64 t.bits, .int .i64 t.var, .slice p t.args.length cp] 25 (0, 0)) by rw [hW0]; exact (heap_alloc_old (w.alloc _) _ (by simp)).trans (heap_alloc_new w _))
  have Z0 := hid (show W0.heap[w.heap.size + 1]? = some (.cells #[.int .i64 0, .string ⟨#[]⟩, .string ⟨#[]⟩, .int .u64 0, .int .i64 0, .slice none 0 0] 25 (0, 0)) by
    rw [hW0]
    have h := heap_alloc_new (w.alloc (.cells #[.int .i64 t.kind, .string t.name, .string t.num, .int .u64 t.bits, .int .i64 t.var, .slice p t.args.length cp] 25)) (.cells #[.int .i64 0, .string ⟨#[]⟩, .string ⟨#[]⟩, .int .u64 0, .int .i64 0, .slice none 0 0] 25)
    rwa [World.size_alloc] at h)
  have CC := hid (fun (W : World) (h : Below w.heap.size w W) => check_any vName numOk bitsOk DomA t p cp W (ht.keep h) (oracleA _ (hX.keep h)) hDt)
  have CN := hid (fun (W : World) (h : Below w.heap.size w W) => nodes_any t p cp W (ht.keep h))
  have CS := hid (fun (W : World) (h : Below w.heap.size w W) => standIns_any l q cl W (hl.keep h) (hX.keep h) hD hwf hlm)
  have HDT := hid hDt
  unfold Tm.val at CC CN
  clear hl hX hD hDt hwf hlm ht
  generalize checkErr vName numOk bitsOk t = v at *
  have hq : (v == 0) = false := beq_eq_false_iff_ne.2 hv
  have hq2 : (v != 0) = true := by simp [hv]
  clear hv
  unfold Tm.val
  go_enter Tryz.func75, Tryz.ntmps75
  go_wp2_with (first
    | (go_at_call 66; rw [← hW0]; (with_reducible refine (CC.out _ B0.out).mono ?_); rintro x w1 ⟨rfl, hb⟩; have B1 := hid (B0.out.trans (hb.mono B0.out.size)); have E1 := hid (obj_keep E0.out hb); have Z1 := hid ((hb.block _ (lt_of_block Z0.out)).trans Z0.out); clear hb E0 Z0; obtain ⟨⟨x0, x1, x2, x3, x4, x5⟩, _⟩ := six_free E1.out; clear hW0; obtain ⟨⟨z0, z1, z2, z3, z4, z5⟩, ⟨f0, f1, f2, f3, f4, f5⟩⟩ := six_free Z1.out)
    | fail)
  have h6 := set6 Z1.out (.int .i64 0) (.string ⟨#[]⟩) (.string ⟨#[]⟩) (.int .u64 0) (.int .i64 0) (.slice none 0 0)
  exact bodyPost_ret (results_pair (b := w.heap.size + 1) (t := leaf 0 ⟨#[]⟩ ⟨#[]⟩ 0) (q := none) (cap := 0) rfl _ _ (.int .i64 v) ⟨by rfl, by rfl⟩ h6) rfl ⟨rfl, set6_below B1.out (by omega) _ _ _ _ _ _⟩
set_option maxRecDepth 100000 in
set_option maxHeartbeats 16000000 in
theorem put_bad2 (t : Tm) (p : Option Addr) (cp : Nat) (l : List Bnd) (q : Option Addr) (cl : Nat) (w : World) (ht : TmAt w t p) (hl : BindAt w l q) (hX : Utf w) (hDt : AllT DomA t) (hD : ∀ k (h : k < l.length), AllT DomA l[k].2) (hwf : ∀ k (h : k < l.length), (Lit.int .i64 l[k].1).wf = true) (hlm : l.length ≤ 4398046511104) (h1 : checkErr vName numOk bitsOk t = 0) (hv : standE l [] ≠ 0) :
    Calls Tryz.prog 75 #[t.val p cp, .slice q l.length cl] w fun x w' => x = .returned (.tuple #[(leaf 0 ⟨#[]⟩ ⟨#[]⟩ 0).val none 0, .int .i64 (standE l [])]) ∧ Below w.heap.size w w' := by
  have HT := hid ht
  have hlm' : (l.length : Int) ≤ 4398046511104 := by omega
  obtain ⟨W0, hW0⟩ : ∃ W0, W0 = (w.alloc (.cells #[.int .i64 t.kind, .string t.name, .string t.num, .int .u64 t.bits, .int .i64 t.var, .slice p t.args.length cp] 25)).alloc (.cells #[.int .i64 0, .string ⟨#[]⟩, .string ⟨#[]⟩, .int .u64 0, .int .i64 0, .slice none 0 0] 25) := ⟨_, rfl⟩
  have B0 := hid (show Below w.heap.size w W0 by rw [hW0]; exact ((Below.refl w.heap.size w).alloc (Nat.le_refl _) _).alloc (by simp) _)
  have E0 := hid (show W0.heap[w.heap.size]? = some (.cells #[.int .i64 t.kind, .string t.name, .string t.num, .int .u64 t.bits, .int .i64 t.var, .slice p t.args.length cp] 25 (0, 0)) by rw [hW0]; exact (heap_alloc_old (w.alloc _) _ (by simp)).trans (heap_alloc_new w _))
  have Z0 := hid (show W0.heap[w.heap.size + 1]? = some (.cells #[.int .i64 0, .string ⟨#[]⟩, .string ⟨#[]⟩, .int .u64 0, .int .i64 0, .slice none 0 0] 25 (0, 0)) by
    rw [hW0]
    have h := heap_alloc_new (w.alloc (.cells #[.int .i64 t.kind, .string t.name, .string t.num, .int .u64 t.bits, .int .i64 t.var, .slice p t.args.length cp] 25)) (.cells #[.int .i64 0, .string ⟨#[]⟩, .string ⟨#[]⟩, .int .u64 0, .int .i64 0, .slice none 0 0] 25)
    rwa [World.size_alloc] at h)
  have CC := hid (fun (W : World) (h : Below w.heap.size w W) => check_any vName numOk bitsOk DomA t p cp W (ht.keep h) (oracleA _ (hX.keep h)) hDt)
  have CN := hid (fun (W : World) (h : Below w.heap.size w W) => nodes_any t p cp W (ht.keep h))
  have CS := hid (fun (W : World) (h : Below w.heap.size w W) => standIns_any l q cl W (hl.keep h) (hX.keep h) hD hwf hlm)
  have HDT := hid hDt
  unfold Tm.val at CC CN
  clear hl hX hD hDt hwf hlm ht
  rw [h1] at CC
  generalize standE l [] = v at *
  have hq : (v == 0) = false := beq_eq_false_iff_ne.2 hv
  have hq2 : (v != 0) = true := by simp [hv]
  clear hv h1
  unfold Tm.val
  go_enter Tryz.func75, Tryz.ntmps75
  go_upto_region 5 with (first
    | (go_at_call 66; rw [← hW0]; (with_reducible refine (CC.out _ B0.out).mono ?_); rintro x w1 ⟨rfl, hb⟩; have B1 := hid (B0.out.trans (hb.mono B0.out.size)); have E1 := hid (obj_keep E0.out hb); have Z1 := hid ((hb.block _ (lt_of_block Z0.out)).trans Z0.out); clear hb E0 Z0; obtain ⟨⟨x0, x1, x2, x3, x4, x5⟩, _⟩ := six_free E1.out; clear hW0; obtain ⟨⟨z0, z1, z2, z3, z4, z5⟩, ⟨f0, f1, f2, f3, f4, f5⟩⟩ := six_free Z1.out)
    | (go_at_call 122; (with_reducible refine (CS.out _ B1.out).mono ?_); rintro x w2 ⟨mo, rfl, _, hb⟩; clear x0 x1 x2 x3 x4 x5 z0 z1 z2 z3 z4 z5 f0 f1 f2 f3 f4 f5; have B2 := hid (B1.out.trans (hb.mono B1.out.size)); have Z2 := hid ((hb.block _ (lt_of_block Z1.out)).trans Z1.out); clear hb E1 Z1)
    | fail)
  obtain ⟨W3, hW3⟩ : ∃ W3, W3 = w2.alloc (.cells #[.map mo] 148) := ⟨_, rfl⟩
  rw [← hW3]
  have A3 := hid (show Below w2.heap.size w2 W3 by rw [hW3]; exact (Below.refl _ _).alloc (Nat.le_refl _) _)
  have B3 := hid (B2.out.trans (A3.out.mono B2.out.size))
  have Z3 := hid ((A3.out.block _ (lt_of_block Z2.out)).trans Z2.out)
  clear hW3
  obtain ⟨⟨z0, z1, z2, z3, z4, z5⟩, ⟨f0, f1, f2, f3, f4, f5⟩⟩ := six_free Z3.out
  go_wp2_with fail
  have h6 := set6 Z3.out (.int .i64 0) (.string ⟨#[]⟩) (.string ⟨#[]⟩) (.int .u64 0) (.int .i64 0) (.slice none 0 0)
  exact bodyPost_ret (results_pair (b := w.heap.size + 1) (t := leaf 0 ⟨#[]⟩ ⟨#[]⟩ 0) (q := none) (cap := 0) rfl _ _ (.int .i64 v) ⟨by rfl, by rfl⟩ h6) rfl ⟨rfl, set6_below B3.out (by omega) _ _ _ _ _ _⟩
set_option maxRecDepth 100000 in
set_option maxHeartbeats 16000000 in
theorem put_bad3 (t : Tm) (p : Option Addr) (cp : Nat) (l : List Bnd) (q : Option Addr) (cl : Nat) (w : World) (ht : TmAt w t p) (hl : BindAt w l q) (hX : Utf w) (hDt : AllT DomA t) (hD : ∀ k (h : k < l.length), AllT DomA l[k].2) (hwf : ∀ k (h : k < l.length), (Lit.int .i64 l[k].1).wf = true) (hlm : l.length ≤ 4398046511104) (h1 : checkErr vName numOk bitsOk t = 0) (h2 : standE l [] = 0) (hct : AllT CpOk t) (hcl : ∀ k (h : k < l.length), AllT CpOk l[k].2) (hs : 4000 < nodes (instT l t)) :
    Calls Tryz.prog 75 #[t.val p cp, .slice q l.length cl] w fun x w' => x = .returned (.tuple #[(leaf 0 ⟨#[]⟩ ⟨#[]⟩ 0).val none 0, .int .i64 24]) ∧ Below w.heap.size w w' := by
  have HT := hid ht
  have hlm' : (l.length : Int) ≤ 4398046511104 := by omega
  obtain ⟨W0, hW0⟩ : ∃ W0, W0 = (w.alloc (.cells #[.int .i64 t.kind, .string t.name, .string t.num, .int .u64 t.bits, .int .i64 t.var, .slice p t.args.length cp] 25)).alloc (.cells #[.int .i64 0, .string ⟨#[]⟩, .string ⟨#[]⟩, .int .u64 0, .int .i64 0, .slice none 0 0] 25) := ⟨_, rfl⟩
  have B0 := hid (show Below w.heap.size w W0 by rw [hW0]; exact ((Below.refl w.heap.size w).alloc (Nat.le_refl _) _).alloc (by simp) _)
  have E0 := hid (show W0.heap[w.heap.size]? = some (.cells #[.int .i64 t.kind, .string t.name, .string t.num, .int .u64 t.bits, .int .i64 t.var, .slice p t.args.length cp] 25 (0, 0)) by rw [hW0]; exact (heap_alloc_old (w.alloc _) _ (by simp)).trans (heap_alloc_new w _))
  have Z0 := hid (show W0.heap[w.heap.size + 1]? = some (.cells #[.int .i64 0, .string ⟨#[]⟩, .string ⟨#[]⟩, .int .u64 0, .int .i64 0, .slice none 0 0] 25 (0, 0)) by
    rw [hW0]
    have h := heap_alloc_new (w.alloc (.cells #[.int .i64 t.kind, .string t.name, .string t.num, .int .u64 t.bits, .int .i64 t.var, .slice p t.args.length cp] 25)) (.cells #[.int .i64 0, .string ⟨#[]⟩, .string ⟨#[]⟩, .int .u64 0, .int .i64 0, .slice none 0 0] 25)
    rwa [World.size_alloc] at h)
  have CC := hid (fun (W : World) (h : Below w.heap.size w W) => check_any vName numOk bitsOk DomA t p cp W (ht.keep h) (oracleA _ (hX.keep h)) hDt)
  have CN := hid (fun (W : World) (h : Below w.heap.size w W) => nodes_any t p cp W (ht.keep h))
  have CS := hid (fun (W : World) (h : Below w.heap.size w W) => standIns_any l q cl W (hl.keep h) (hX.keep h) hD hwf hlm)
  have HDT := hid hDt
  unfold Tm.val at CC CN
  clear hl hX hD hDt hwf hlm ht
  have HCT := hid hct
  have HCL := hid (show ∀ v u, lookB l v = some u → AllT CpOk u from fun v u h => by
    obtain ⟨j, hj, _, e⟩ := lookB_some h
    rw [← e]; exact hcl j hj)
  have hn4 : nodes t ≤ 4000 := by
    unfold checkErr at h1
    split at h1
    · cases h1
    · omega
  have hcap : capped (nodes t) 4001 = (nodes t : Int) := by unfold capped; rw [if_pos (by omega)]
  rw [hcap] at CN
  have H2 := hid h2
  rw [h1] at CC
  rw [h2] at CS
  clear h1 h2 hct hcl hcap
  generalize hu : instT l t = u at *
  unfold Tm.val
  go_enter Tryz.func75, Tryz.ntmps75
  go_upto_region 5 with (first
    | (go_at_call 66; rw [← hW0]; (with_reducible refine (CC.out _ B0.out).mono ?_); rintro x w1 ⟨rfl, hb⟩; have B1 := hid (B0.out.trans (hb.mono B0.out.size)); have E1 := hid (obj_keep E0.out hb); have Z1 := hid ((hb.block _ (lt_of_block Z0.out)).trans Z0.out); clear hb E0 Z0; obtain ⟨⟨x0, x1, x2, x3, x4, x5⟩, _⟩ := six_free E1.out; clear hW0; obtain ⟨⟨z0, z1, z2, z3, z4, z5⟩, ⟨f0, f1, f2, f3, f4, f5⟩⟩ := six_free Z1.out)
    | (go_at_call 122; (with_reducible refine (CS.out _ B1.out).mono ?_); rintro x w2 ⟨mo, rfl, hmo, hb⟩; obtain ⟨m, G, rfl, hst, hfit, hlm2⟩ := hmo (by trivial); clear x0 x1 x2 x3 x4 x5 z0 z1 z2 z3 z4 z5 f0 f1 f2 f3 f4 f5; have MST := hid hst; have MFT := hid (hfit.fitL H2.out); have B2 := hid (B1.out.trans (hb.mono B1.out.size)); have D2 := hid hb; have E2 := hid (obj_keep E1.out hb); have Z2 := hid ((hb.block _ (lt_of_block Z1.out)).trans Z1.out); clear hb E1 Z1 hmo hst hfit hlm2)
    | fail)
  obtain ⟨W3, hW3⟩ : ∃ W3, W3 = w2.alloc (.cells #[.map (some m)] 148) := ⟨_, rfl⟩
  rw [← hW3]
  have A3 := hid (show Below w2.heap.size w2 W3 by rw [hW3]; exact (Below.refl _ _).alloc (Nat.le_refl _) _)
  have N3 := hid (show W3.heap[w2.heap.size]? = some (.cells #[.map (some m)] 148 (0, 0)) by rw [hW3]; exact World.alloc_heap_new w2 _)
  clear hW3
  have D3 := hid (D2.out.trans (A3.out.mono D2.out.size))
  have B3 := hid (B1.out.trans (D3.out.mono B1.out.size))
  have E3 := hid (obj_keep E2.out A3.out)
  have Z3 := hid ((A3.out.block _ (lt_of_block Z2.out)).trans Z2.out)
  have M3 := hid (MST.out.keep A3.out)
  obtain ⟨⟨x0, x1, x2, x3, x4, x5⟩, _⟩ := six_free E3.out
  go_upto_region 8 with (first
    | (go_at_call 118; (with_reducible refine (CN.out _ B3.out).mono ?_); rintro x w4 ⟨rfl, hb⟩; clear x0 x1 x2 x3 x4 x5; have D4 := hid (D3.out.trans (hb.mono D3.out.size)); have N4 := hid ((hb.block _ (lt_of_block N3.out)).trans N3.out); have M4 := hid (M3.out.keep hb); have E4 := hid (obj_keep E3.out hb); have Z4 := hid ((hb.block _ (lt_of_block Z3.out)).trans Z3.out); clear hb E3 Z3 M3)
    | fail)
  obtain ⟨W5, hW5⟩ : ∃ W5, W5 = w4.alloc (.cells #[.int .i64 (nodes t : Int)] 3) := ⟨_, rfl⟩
  rw [← hW5]
  have A5 := hid (show Below w4.heap.size w4 W5 by rw [hW5]; exact (Below.refl _ _).alloc (Nat.le_refl _) _)
  have N5 := hid (show W5.heap[w4.heap.size]? = some (.cells #[.int .i64 (nodes t : Int)] 3 (0, 0)) by rw [hW5]; exact World.alloc_heap_new w4 _)
  clear hW5
  have D5 := hid (D4.out.trans (A5.out.mono D4.out.size))
  have E5 := hid (obj_keep E4.out A5.out)
  have Z5 := hid ((A5.out.block _ (lt_of_block Z4.out)).trans Z4.out)
  have P5 := hid (show PutSt W5 w2.heap.size w4.heap.size m l.length G (nodes t : Int) from ⟨(A5.out.block _ (lt_of_block N4.out)).trans N4.out, M4.out.keep A5.out, N5.out⟩)
  have HGB := hid (fun v => gain_bound MFT.out v)
  have HIN := hid (inst_nodes (l := l) (F := G) (fun v => gain_fit MFT.out v) t HCT.out)
  rw [hu] at HIN
  have CE := hid (eachP_any w1 w2.heap.size w4.heap.size m l.length G (by have := D4.out.size; omega) HGB.out (nodes t) t p cp (nodes t : Int) W5 (Nat.le_refl _) (HT.out.keep B1.out) HDT.out D5.out P5.out (by omega) (by omega))
  unfold Tm.val at CE
  obtain ⟨⟨x0, x1, x2, x3, x4, x5⟩, _⟩ := six_free E5.out
  go_upto_region 9 with (first
    | (go_at_call 100; (with_reducible refine CE.out.mono ?_); rintro x w6 ⟨rfl, hp, hc, hb⟩; clear x0 x1 x2 x3 x4 x5; have P6 := hid hp; have D6 := hid hb; have B6 := hid (B1.out.trans (hb.mono B1.out.size)); have HFL := hid (MFT.out.keep hb); have E6 := hid ((hc.same _ (lt_of_block E5.out) (by have := lt_of_block E4.out; simp; omega)).trans E5.out); have Z6 := hid ((hc.same _ (lt_of_block Z5.out) (by have := lt_of_block Z4.out; simp; omega)).trans Z5.out); clear hp hc hb E5 Z5 P5 CE)
    | fail)
  have hz : (4000 : Int) < (nodes t : Int) + gainT G t := by have := HIN.out; omega
  generalize (nodes t : Int) + gainT G t = z at *
  obtain ⟨⟨z0, z1, z2, z3, z4, z5⟩, ⟨f0, f1, f2, f3, f4, f5⟩⟩ := six_free Z6.out
  have s0 := (cells_of P6.out.size 0).trans rfl
  go_wp2_with fail
  have h6 := set6 Z6.out (.int .i64 0) (.string ⟨#[]⟩) (.string ⟨#[]⟩) (.int .u64 0) (.int .i64 0) (.slice none 0 0)
  exact bodyPost_ret (results_pair (b := w.heap.size + 1) (t := leaf 0 ⟨#[]⟩ ⟨#[]⟩ 0) (q := none) (cap := 0) rfl _ _ (.int .i64 24) ⟨by rfl, by rfl⟩ h6) rfl ⟨rfl, set6_below B6.out (by omega) _ _ _ _ _ _⟩
set_option maxRecDepth 100000 in
set_option maxHeartbeats 16000000 in
theorem put_good (t : Tm) (p : Option Addr) (cp : Nat) (l : List Bnd) (q : Option Addr) (cl : Nat) (w : World) (ht : TmAt w t p) (hl : BindAt w l q) (hX : Utf w) (hDt : AllT DomA t) (hD : ∀ k (h : k < l.length), AllT DomA l[k].2) (hwf : ∀ k (h : k < l.length), (Lit.int .i64 l[k].1).wf = true) (hlm : l.length ≤ 4398046511104) (h1 : checkErr vName numOk bitsOk t = 0) (h2 : standE l [] = 0) (hct : AllT CpOk t) (hcl : ∀ k (h : k < l.length), AllT CpOk l[k].2) (hs : nodes (instT l t) ≤ 4000) :
    Calls Tryz.prog 75 #[t.val p cp, .slice q l.length cl] w fun x w' => ∃ q c S, x = .returned (.tuple #[(instT l t).val q c, .int .i64 0]) ∧ MineT w' (instT l t) q c S ∧ (∀ k ∈ S, w.heap.size ≤ k) ∧ Below w.heap.size w w' := by
  have HT := hid ht
  have hlm' : (l.length : Int) ≤ 4398046511104 := by omega
  obtain ⟨W0, hW0⟩ : ∃ W0, W0 = (w.alloc (.cells #[.int .i64 t.kind, .string t.name, .string t.num, .int .u64 t.bits, .int .i64 t.var, .slice p t.args.length cp] 25)).alloc (.cells #[.int .i64 0, .string ⟨#[]⟩, .string ⟨#[]⟩, .int .u64 0, .int .i64 0, .slice none 0 0] 25) := ⟨_, rfl⟩
  have B0 := hid (show Below w.heap.size w W0 by rw [hW0]; exact ((Below.refl w.heap.size w).alloc (Nat.le_refl _) _).alloc (by simp) _)
  have E0 := hid (show W0.heap[w.heap.size]? = some (.cells #[.int .i64 t.kind, .string t.name, .string t.num, .int .u64 t.bits, .int .i64 t.var, .slice p t.args.length cp] 25 (0, 0)) by rw [hW0]; exact (heap_alloc_old (w.alloc _) _ (by simp)).trans (heap_alloc_new w _))
  have Z0 := hid (show W0.heap[w.heap.size + 1]? = some (.cells #[.int .i64 0, .string ⟨#[]⟩, .string ⟨#[]⟩, .int .u64 0, .int .i64 0, .slice none 0 0] 25 (0, 0)) by
    rw [hW0]
    have h := heap_alloc_new (w.alloc (.cells #[.int .i64 t.kind, .string t.name, .string t.num, .int .u64 t.bits, .int .i64 t.var, .slice p t.args.length cp] 25)) (.cells #[.int .i64 0, .string ⟨#[]⟩, .string ⟨#[]⟩, .int .u64 0, .int .i64 0, .slice none 0 0] 25)
    rwa [World.size_alloc] at h)
  have CC := hid (fun (W : World) (h : Below w.heap.size w W) => check_any vName numOk bitsOk DomA t p cp W (ht.keep h) (oracleA _ (hX.keep h)) hDt)
  have CN := hid (fun (W : World) (h : Below w.heap.size w W) => nodes_any t p cp W (ht.keep h))
  have CS := hid (fun (W : World) (h : Below w.heap.size w W) => standIns_any l q cl W (hl.keep h) (hX.keep h) hD hwf hlm)
  have HDT := hid hDt
  unfold Tm.val at CC CN
  clear hl hX hD hDt hwf hlm ht
  have HCT := hid hct
  have HCL := hid (show ∀ v u, lookB l v = some u → AllT CpOk u from fun v u h => by
    obtain ⟨j, hj, _, e⟩ := lookB_some h
    rw [← e]; exact hcl j hj)
  have hn4 : nodes t ≤ 4000 := by
    unfold checkErr at h1
    split at h1
    · cases h1
    · omega
  have hcap : capped (nodes t) 4001 = (nodes t : Int) := by unfold capped; rw [if_pos (by omega)]
  rw [hcap] at CN
  have H2 := hid h2
  rw [h1] at CC
  rw [h2] at CS
  clear h1 h2 hct hcl hcap
  generalize hu : instT l t = u at *
  unfold Tm.val
  go_enter Tryz.func75, Tryz.ntmps75
  go_upto_region 5 with (first
    | (go_at_call 66; rw [← hW0]; (with_reducible refine (CC.out _ B0.out).mono ?_); rintro x w1 ⟨rfl, hb⟩; have B1 := hid (B0.out.trans (hb.mono B0.out.size)); have E1 := hid (obj_keep E0.out hb); have Z1 := hid ((hb.block _ (lt_of_block Z0.out)).trans Z0.out); clear hb E0 Z0; obtain ⟨⟨x0, x1, x2, x3, x4, x5⟩, _⟩ := six_free E1.out; clear hW0; obtain ⟨⟨z0, z1, z2, z3, z4, z5⟩, ⟨f0, f1, f2, f3, f4, f5⟩⟩ := six_free Z1.out)
    | (go_at_call 122; (with_reducible refine (CS.out _ B1.out).mono ?_); rintro x w2 ⟨mo, rfl, hmo, hb⟩; obtain ⟨m, G, rfl, hst, hfit, hlm2⟩ := hmo (by trivial); clear x0 x1 x2 x3 x4 x5 z0 z1 z2 z3 z4 z5 f0 f1 f2 f3 f4 f5; have MST := hid hst; have MFT := hid (hfit.fitL H2.out); have B2 := hid (B1.out.trans (hb.mono B1.out.size)); have D2 := hid hb; have E2 := hid (obj_keep E1.out hb); have Z2 := hid ((hb.block _ (lt_of_block Z1.out)).trans Z1.out); clear hb E1 Z1 hmo hst hfit hlm2)
    | fail)
  obtain ⟨W3, hW3⟩ : ∃ W3, W3 = w2.alloc (.cells #[.map (some m)] 148) := ⟨_, rfl⟩
  rw [← hW3]
  have A3 := hid (show Below w2.heap.size w2 W3 by rw [hW3]; exact (Below.refl _ _).alloc (Nat.le_refl _) _)
  have N3 := hid (show W3.heap[w2.heap.size]? = some (.cells #[.map (some m)] 148 (0, 0)) by rw [hW3]; exact World.alloc_heap_new w2 _)
  clear hW3
  have D3 := hid (D2.out.trans (A3.out.mono D2.out.size))
  have B3 := hid (B1.out.trans (D3.out.mono B1.out.size))
  have E3 := hid (obj_keep E2.out A3.out)
  have Z3 := hid ((A3.out.block _ (lt_of_block Z2.out)).trans Z2.out)
  have M3 := hid (MST.out.keep A3.out)
  obtain ⟨⟨x0, x1, x2, x3, x4, x5⟩, _⟩ := six_free E3.out
  go_upto_region 8 with (first
    | (go_at_call 118; (with_reducible refine (CN.out _ B3.out).mono ?_); rintro x w4 ⟨rfl, hb⟩; clear x0 x1 x2 x3 x4 x5; have D4 := hid (D3.out.trans (hb.mono D3.out.size)); have N4 := hid ((hb.block _ (lt_of_block N3.out)).trans N3.out); have M4 := hid (M3.out.keep hb); have E4 := hid (obj_keep E3.out hb); have Z4 := hid ((hb.block _ (lt_of_block Z3.out)).trans Z3.out); clear hb E3 Z3 M3)
    | fail)
  obtain ⟨W5, hW5⟩ : ∃ W5, W5 = w4.alloc (.cells #[.int .i64 (nodes t : Int)] 3) := ⟨_, rfl⟩
  rw [← hW5]
  have A5 := hid (show Below w4.heap.size w4 W5 by rw [hW5]; exact (Below.refl _ _).alloc (Nat.le_refl _) _)
  have N5 := hid (show W5.heap[w4.heap.size]? = some (.cells #[.int .i64 (nodes t : Int)] 3 (0, 0)) by rw [hW5]; exact World.alloc_heap_new w4 _)
  clear hW5
  have D5 := hid (D4.out.trans (A5.out.mono D4.out.size))
  have E5 := hid (obj_keep E4.out A5.out)
  have Z5 := hid ((A5.out.block _ (lt_of_block Z4.out)).trans Z4.out)
  have P5 := hid (show PutSt W5 w2.heap.size w4.heap.size m l.length G (nodes t : Int) from ⟨(A5.out.block _ (lt_of_block N4.out)).trans N4.out, M4.out.keep A5.out, N5.out⟩)
  have HGB := hid (fun v => gain_bound MFT.out v)
  have HIN := hid (inst_nodes (l := l) (F := G) (fun v => gain_fit MFT.out v) t HCT.out)
  rw [hu] at HIN
  have CE := hid (eachP_any w1 w2.heap.size w4.heap.size m l.length G (by have := D4.out.size; omega) HGB.out (nodes t) t p cp (nodes t : Int) W5 (Nat.le_refl _) (HT.out.keep B1.out) HDT.out D5.out P5.out (by omega) (by omega))
  unfold Tm.val at CE
  obtain ⟨⟨x0, x1, x2, x3, x4, x5⟩, _⟩ := six_free E5.out
  go_upto_region 9 with (first
    | (go_at_call 100; (with_reducible refine CE.out.mono ?_); rintro x w6 ⟨rfl, hp, hc, hb⟩; clear x0 x1 x2 x3 x4 x5; have P6 := hid hp; have D6 := hid hb; have B6 := hid (B1.out.trans (hb.mono B1.out.size)); have HFL := hid (MFT.out.keep hb); have E6 := hid ((hc.same _ (lt_of_block E5.out) (by have := lt_of_block E4.out; simp; omega)).trans E5.out); have Z6 := hid ((hc.same _ (lt_of_block Z5.out) (by have := lt_of_block Z4.out; simp; omega)).trans Z5.out); clear hp hc hb E5 Z5 P5 CE)
    | fail)
  have hz : ¬ ((4000 : Int) < (nodes t : Int) + gainT G t) := by have := HIN.out; omega
  generalize (nodes t : Int) + gainT G t = z at *
  obtain ⟨⟨x0, x1, x2, x3, x4, x5⟩, _⟩ := six_free E6.out
  have s0 := (cells_of P6.out.size 0).trans rfl
  have CF := (fillP_any w2.heap.size m l.length G l (nodes t) t p cp w6 (Nat.le_refl _) (HT.out.keep B6.out) HCT.out HDT.out ⟨P6.out.stands, P6.out.map, HFL.out, HCL.out⟩)
  rw [hu] at CF
  unfold Tm.val at CF
  have CF := hid CF
  go_wp2_with (first
    | (go_at_call 124; (with_reducible refine CF.out.mono ?_); rintro x w7 ⟨q7, c7, S7, rfl, hm, hS, hb⟩; clear x0 x1 x2 x3 x4 x5; have HM := hid hm; have HS := hid hS; have B7 := hid (B6.out.trans (hb.mono B6.out.size)); have Z7 := hid ((hb.block _ (lt_of_block Z6.out)).trans Z6.out); have HLT := hid (show w.heap.size + 1 < w6.heap.size from lt_of_block Z6.out); clear hb hm hS; obtain ⟨⟨z0, z1, z2, z3, z4, z5⟩, ⟨f0, f1, f2, f3, f4, f5⟩⟩ := six_free Z7.out)
    | fail)
  have h6 := set6 Z7.out (.int .i64 u.kind) (.string u.name) (.string u.num) (.int .u64 u.bits) (.int .i64 u.var) (.slice q7 u.args.length c7)
  have hgr := set6_grown w7 (w.heap.size + 1) (.int .i64 u.kind) (.string u.name) (.string u.num) (.int .u64 u.bits) (.int .i64 u.var) (.slice q7 u.args.length c7)
  have hlo : ∀ x ∈ S7, w.heap.size + 1 < x := fun x hx => by have := HS.out x hx; have := HLT.out; omega
  exact bodyPost_ret (results_pair (b := w.heap.size + 1) (t := u) (q := q7) (cap := c7) rfl _ _ (.int .i64 0) ⟨by rfl, by rfl⟩ h6) rfl ⟨q7, c7, S7, rfl, HM.out.same fun x hx => hgr.block x (HM.out.lt x hx) (fun e => by have := hlo x hx; have := Option.some.inj e; omega), fun x hx => by have := hlo x hx; omega, set6_below B7.out (by omega) _ _ _ _ _ _⟩
end Go.Proofs.YtiaddfedaikaiaaGreatDoor
