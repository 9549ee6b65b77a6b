/- Walks: a list with something at its end. No condition but those that each theorem names. Terms in memory where a block that held no term yet is written over: plain. No condition but those that each theorem names. Walks: a list with something at its end, and where its pairs and its elements lie. No condition but those that each theorem names. -/
import Derived.Test.YtiaddfedaikaiaaGreatDoorD7m
import Derived.Test.YtiaddfedaikaiaaGreatDoorT56m
namespace Go.Proofs.YtiaddfedaikaiaaGreatDoor
open Go.RowKit

/-- A list's pairs in memory: none of them in a block that is named. -/
def Chn (w W : World) (Kb : Nat) (e : Tm) (pe : Option Addr) : List Tm → Option Addr → Prop
  | [], p => p = pe
  | a :: r, p => ∃ g pa ca pr cr, p = some ⟨g, 0, none⟩ ∧ (g ≠ Kb ∧ g ≠ Kb + 1) ∧ TmAt w a pa ∧ W.heap[g]? = some (.cells #[.int .i64 a.kind, .string a.name, .string a.num, .int .u64 a.bits, .int .i64 a.var, .slice pa a.args.length ca, .int .i64 (listT r e).kind, .string (listT r e).name, .string (listT r e).num, .int .u64 (listT r e).bits, .int .i64 (listT r e).var, .slice pr (listT r e).args.length cr] 25 (0, 0)) ∧ Chn w W Kb e pe r pr
theorem Chn.keep {w W W' : World} {Kb : Nat} {e : Tm} {pe : Option Addr} (hk : ∀ (k : Nat) (o : Obj), W.heap[k]? = some o → k ≠ Kb ∧ k ≠ Kb + 1 → W'.heap[k]? = some o) : ∀ {l : List Tm} {p : Option Addr}, Chn w W Kb e pe l p → Chn w W' Kb e pe l p
  | [], _, h => h
  | _a :: _r, _, ⟨g, pa, ca, pr, cr, h1, h2, h3, h4, h5⟩ => ⟨g, pa, ca, pr, cr, h1, h2, h3, hk _ _ h4 h2, h5.keep hk⟩
theorem Chn.tm {w W : World} {Kb : Nat} {e : Tm} {pe : Option Addr} (hb : Below w.heap.size w W) (he : TmAt w e pe) : ∀ {l : List Tm} {p : Option Addr}, Chn w W Kb e pe l p → TmAt W (listT l e) p
  | [], _, h => by
    obtain rfl := h
    exact he.keep hb
  | a :: r, _, ⟨g, pa, ca, pr, cr, h1, h2, h3, h4, h5⟩ => by
    have t := h5.tm hb he
    subst h1
    exact built ⟨#[46]⟩ [(a, pa, ca), (listT r e, pr, cr)] h4 rfl (by simp) (fun x hx => by
      simp at hx
      rcases hx with rfl | rfl
      · exact h3.keep hb
      · exact t)
set_option maxRecDepth 100000 in
set_option maxHeartbeats 8000000 in
theorem treeList_any (l : List Tm) (e : Tm) (pl pe : Option Addr) (cl ce : Nat) (w : World) (hl : ListAt w l pl) (he : TmAt w e pe) (hn : l.length ≤ 4000) :
    Calls Tryz.prog 146 #[.slice pl l.length cl, e.val pe ce] w fun x w' => ∃ q c, x = .returned ((listT l e).val q c) ∧ TmAt w' (listT l e) q ∧ Below w.heap.size w w' := by
  have HL := hid hl
  have HE := hid he
  obtain ⟨W0, hW0⟩ : ∃ W0, W0 = (w.alloc (tobj e pe ce)).alloc (tobj (leaf 0 ⟨#[]⟩ ⟨#[]⟩ 0) none 0) := ⟨_, rfl⟩
  have hB := hid (show Below w.heap.size w W0 by rw [hW0]; exact ((Below.refl w.heap.size w).alloc (Nat.le_refl _) _).alloc (by simp) _)
  have Q1 := hid (show W0.heap[w.heap.size + 1]? = some (.cells #[.int .i64 0, .string ⟨#[]⟩, .string ⟨#[]⟩, .int .u64 0, .int .i64 0, .slice none 0 0] 25 (0, 0)) by
    rw [hW0]
    have h := heap_alloc_new (w.alloc (tobj e pe ce)) (tobj (leaf 0 ⟨#[]⟩ ⟨#[]⟩ 0) none 0)
    rwa [World.size_alloc] at h)
  have Q2 := hid (show W0.heap[w.heap.size]? = some (tobj e pe ce) by rw [hW0]; exact (heap_alloc_old (w.alloc _) _ (by simp)).trans (heap_alloc_new w _))
  have CO := hid (show ∀ (W : World) (q : Option Addr), Calls Tryz.prog 109 #[.string ⟨#[46]⟩, .slice q 2 2] W fun e w' => e = .returned (.agg #[.int .i64 5, .string ⟨#[46]⟩, .string ⟨#[]⟩, .int .u64 0, .int .i64 0, .slice q 2 2]) ∧ Below W.heap.size W w' from fun W q => of_any ⟨#[46]⟩ [e, e] q 2 W)
  have hW0' : W0 = (w.alloc (.cells #[.int .i64 e.kind, .string e.name, .string e.num, .int .u64 e.bits, .int .i64 e.var, .slice pe e.args.length ce] 25)).alloc (.cells #[.int .i64 0, .string ⟨#[]⟩, .string ⟨#[]⟩, .int .u64 0, .int .i64 0, .slice none 0 0] 25) := hW0
  have hlen : (l.length : Int) ≤ 4000 := by omega
  unfold Tm.val
  clear hl he hW0
  go_enter Tryz.func146, Tryz.ntmps146
  go_upto_region 1 with fail
  rw [← hW0']
  clear hW0'
  go_wp2_with fail
  have QL := hid (show e = listT (l.drop l.length) e by rw [List.drop_length]; rfl)
  have QC := hid (show Chn w W0 w.heap.size e pe (l.drop l.length) pe by rw [List.drop_length]; rfl)
  go_loopw [5] (fun i wr => ∃ (k : Nat) (z : Int) (acc : Tm) (pa : Option Addr) (cpa : Nat), k ≤ l.length ∧ z = (k : Int) - 1 ∧ i = .int .i64 z ∧ Hid (wr.heap[w.heap.size + 1]? = some (.cells #[.int .i64 0, .string ⟨#[]⟩, .string ⟨#[]⟩, .int .u64 0, .int .i64 0, .slice none 0 0] 25 (0, 0))) ∧ Hid (wr.heap[w.heap.size]? = some (tobj acc pa cpa)) ∧ Hid (Chn w wr w.heap.size e pe (l.drop k) pa) ∧ Hid (acc = listT (l.drop k) e) ∧ Hid (Below w.heap.size w wr)) (fun i _ => (intOf i + 1).toNat)
  case atStart => exact ⟨l.length, _, e, pe, ce, Nat.le_refl _, rfl, rfl, Q1, Q2, QC, QL, hB⟩
  case round =>
    clear Q1 Q2 QC QL hB
    obtain ⟨k1, z, acc, pa, cpa, hk, hz, rfl, P1, P2, HCH, HLT, hBr⟩ := hrel
    cases k1 with
    | succ k =>
      obtain rfl : z = (k : Int) := by omega
      clear hz
      have hlk : k < l.length := hk
      have hk0 : (0 : Int) ≤ (k : Int) := by omega
      have hk1 : (k : Int) < (l.length : Int) := by omega
      obtain ⟨b, o, rfl, e1, c1, hs1, ht1⟩ := HL.out.get k hlk
      have HTK := hid (show l.drop k = l[k] :: l.drop (k + 1) from List.drop_eq_getElem_cons hlk)
      have HT1 := hid ht1
      clear ht1
      generalize l[k] = t1 at *
      have SY := hid (show ∀ W : World, Below w.heap.size w W → W.cell? ⟨b, o + k * 6, none⟩ = some (.int .i64 t1.kind) ∧ W.cell? ⟨b, o + k * 6 + 1, none⟩ = some (.string t1.name) ∧ W.cell? ⟨b, o + k * 6 + 2, none⟩ = some (.string t1.num) ∧ W.cell? ⟨b, o + k * 6 + 3, none⟩ = some (.int .u64 t1.bits) ∧ W.cell? ⟨b, o + k * 6 + 4, none⟩ = some (.int .i64 t1.var) ∧ W.cell? ⟨b, o + k * 6 + 5, none⟩ = some (.slice e1 t1.args.length c1) from fun W h =>
        have m := hs1.keep h
        ⟨m.c0, m.c1, m.c2, m.c3, m.c4, m.c5⟩)
      have SX := hid (fun (W : World) (h : Below wr.heap.size wr W) => SY.out W (hBr.out.trans (h.mono hBr.out.size)))
      have BRD := hid (show Below wr.heap.size wr wr.drew from (Below.refl _ _).drew)
      clear hs1
      go_wp2_with fail
      have sd := SX.out wr.drew BRD.out
      refine wp_region_held_drew (S := fun W => W.cell? ⟨b, o + k * 6, none⟩ = some (.int .i64 t1.kind) ∧ W.cell? ⟨b, o + k * 6 + 1, none⟩ = some (.string t1.name) ∧ W.cell? ⟨b, o + k * 6 + 2, none⟩ = some (.string t1.num) ∧ W.cell? ⟨b, o + k * 6 + 3, none⟩ = some (.int .u64 t1.bits) ∧ W.cell? ⟨b, o + k * 6 + 4, none⟩ = some (.int .i64 t1.var) ∧ W.cell? ⟨b, o + k * 6 + 5, none⟩ = some (.slice e1 t1.args.length c1)) (by kernel_rfl) sd (fun hHeld => ?_)
      refine' wpAnyH_take (i := 0) (v := (.slice (some ⟨b, o, none⟩) l.length cl)) rfl (by decide +kernel) (by decide +kernel) (by decide +kernel) (fun _ _ _ h => h) (Or.inl ⟨by rfl, ?hyL1⟩) (by assumption) ?restL1
      case hyL1 => (intro w5 hSw; (try dsimp only at hSw); go_simp; try with_reducible rfl)
      case' restL1 => (try simp only [Act.put, List.setIfInBounds_toArray])
      refine' wpAnyH_take (i := 1) (v := (.int .i64 (k : Int))) rfl (by decide +kernel) (by decide +kernel) (by decide +kernel) (fun _ _ _ h => h) (Or.inl ⟨by rfl, ?hyL2⟩) (by assumption) ?restL2
      case hyL2 => (intro w5 hSw; (try dsimp only at hSw); go_simp; try with_reducible rfl)
      case' restL2 => (try simp only [Act.put])
      refine' wpAnyH_take (i := 2) (v := (.pointer (some ⟨b, o + k * 6, none⟩))) rfl (by decide +kernel) (by decide +kernel) (by decide +kernel) (fun _ _ _ h => h) (Or.inl ⟨by rfl, ?hyL3⟩) (by assumption) ?restL3
      case hyL3 => (intro w5 hSw; (try dsimp only at hSw); go_simp; try with_reducible rfl)
      case' restL3 => (try simp only [Act.put])
      refine' wpAnyH_take (i := 3) (v := (.agg #[.int .i64 t1.kind, .string t1.name, .string t1.num, .int .u64 t1.bits, .int .i64 t1.var, .slice e1 t1.args.length c1])) rfl (by decide +kernel) (by decide +kernel) (by decide +kernel) (fun _ _ _ h => h) (Or.inl ⟨by rfl, ?hyL4⟩) (by assumption) ?restL4
      case hyL4 => (intro w5 hSw; (try dsimp only at hSw); go_simp; try with_reducible rfl)
      case' restL4 => (try simp only [Act.put])
      refine wpAnyH_ready (rs := [4]) (by decide +kernel) (by simp) ?_
      refine AllReadyH.cons rfl (fun K hK => ?_) AllReadyH.nil
      have q := six_of ((show wr.drew.heap[w.heap.size]? = _ from P2.out))
      obtain ⟨q0, q1, q2, q3, q4, q5⟩ := q
      go_simp
      refine hK.out _ _ (sd) (fun hHeld => ?_)
      clear hK K q0 q1 q2 q3 q4 q5
      (try simp only [Act.put, List.setIfInBounds_toArray, List.set_cons_zero, List.set_cons_succ])
      refine wpAnyH_ready (rs := [5]) (by decide +kernel) (by simp) ?_
      refine AllReadyH.cons rfl (fun K hK => ?_) AllReadyH.nil
      go_simp
      obtain ⟨W1, hW1⟩ : ∃ W1, W1 = (wr.alloc (.cells #[.int .i64 t1.kind, .string t1.name, .string t1.num, .int .u64 t1.bits, .int .i64 t1.var, .slice e1 t1.args.length c1, .int .i64 acc.kind, .string acc.name, .string acc.num, .int .u64 acc.bits, .int .i64 acc.var, .slice pa acc.args.length cpa] 25)).drew := ⟨_, rfl⟩
      have B1 := hid (show Below wr.heap.size wr W1 by rw [hW1]; exact ((Below.refl _ _).alloc (Nat.le_refl _) _).drew)
      have E1 := hid (show W1.heap[wr.heap.size]? = some (.cells #[.int .i64 t1.kind, .string t1.name, .string t1.num, .int .u64 t1.bits, .int .i64 t1.var, .slice e1 t1.args.length c1, .int .i64 acc.kind, .string acc.name, .string acc.num, .int .u64 acc.bits, .int .i64 acc.var, .slice pa acc.args.length cpa] 25 (0, 0)) by rw [hW1]; exact heap_alloc_new wr _)
      rw [← hW1]
      clear hW1
      refine hK.out _ _ (SX.out W1 B1.out) (fun hHeld => ?_)
      clear hK K
      (try simp only [Act.put, List.setIfInBounds_toArray, List.set_cons_zero, List.set_cons_succ])
      refine wpAnyH_ready (rs := [6]) (by decide +kernel) (by simp) ?_
      refine AllReadyH.cons rfl (fun K hK => ?_) AllReadyH.nil
      go_simp
      (with_reducible refine (CO.out _ _).mono ?_)
      rintro e w3 ⟨rfl, hb3⟩
      have BR3 := hid (show Below wr.heap.size wr w3 from B1.out.trans (hb3.mono B1.out.size))
      have E3 := hid (obj_keep E1.out hb3)
      clear hb3
      have P2c := hid ((BR3.out.block _ (lt_of_block P2.out)).trans P2.out)
      refine hK.out _ _ (SX.out w3 BR3.out) (fun hHeld => ?_)
      clear hK K
      (try simp only [Act.put, List.setIfInBounds_toArray, List.set_cons_zero, List.set_cons_succ])
      refine wpAnyH_ready (rs := [7]) (by decide +kernel) (by simp) ?_
      refine AllReadyH.cons rfl (fun K hK => ?_) AllReadyH.nil
      obtain ⟨⟨z0, z1, z2, z3, z4, z5⟩, ⟨f0, f1, f2, f3, f4, f5⟩⟩ := six_free (show w3.heap[w.heap.size]? = some (.cells #[.int .i64 acc.kind, .string acc.name, .string acc.num, .int .u64 acc.bits, .int .i64 acc.var, .slice pa acc.args.length cpa] 25 (0, 0)) from P2c.out)
      go_simp
      obtain ⟨qb, hqb⟩ : ∃ qb : Option Addr, qb = some ⟨wr.heap.size, 0, none⟩ := ⟨_, rfl⟩
      have hg := set6_grown w3 (w.heap.size) (.int .i64 5) (.string ⟨#[46]⟩) (.string ⟨#[]⟩) (.int .u64 0) (.int .i64 0) (.slice (some ⟨wr.heap.size, 0, none⟩) 2 2)
      have h6 := set6 P2c.out (.int .i64 5) (.string ⟨#[46]⟩) (.string ⟨#[]⟩) (.int .u64 0) (.int .i64 0) (.slice (some ⟨wr.heap.size, 0, none⟩) 2 2)
      obtain ⟨W9, h9⟩ : ∃ W9, W9 = ((((((w3.setCell ⟨w.heap.size, 0, none⟩ (.int .i64 5)).setCell ⟨w.heap.size, 1, none⟩ (.string ⟨#[46]⟩)).setCell ⟨w.heap.size, 2, none⟩ (.string ⟨#[]⟩)).setCell ⟨w.heap.size, 3, none⟩ (.int .u64 0)).setCell ⟨w.heap.size, 4, none⟩ (.int .i64 0)).setCell ⟨w.heap.size, 5, none⟩ (.slice (some ⟨wr.heap.size, 0, none⟩) 2 2)) := ⟨_, rfl⟩
      rw [← h9] at hg h6
      rw [← h9]
      have G9 := hid hg
      have H6 := hid h6
      have B9 := hid (show Below w.heap.size w W9 by rw [h9]; exact set6_below (hBr.out.trans (BR3.out.mono hBr.out.size)) (Nat.le_refl _) _ _ _ _ _ _)
      clear hg h6 h9 z0 z1 z2 z3 z4 z5 f0 f1 f2 f3 f4 f5
      refine hK.out _ _ (SY.out W9 B9.out) (fun hHeld => ?_)
      clear hK K hHeld
      (try simp only [Act.put, List.setIfInBounds_toArray, List.set_cons_zero, List.set_cons_succ])
      refine wpAnyH_done (by kernel_rfl) ?_ _
      clear sd
      go_wp2
      go_roundw
      case rel =>
        have hold : ∀ (x : Nat) (o : Obj), w3.heap[x]? = some o → x ≠ w.heap.size → W9.heap[x]? = some o := fun x o hx hne => (G9.out.block x (lt_of_block hx) (fun e => hne (Option.some.inj e))).trans hx
        have hold0 : ∀ (x : Nat) (o : Obj), wr.heap[x]? = some o → x ≠ w.heap.size → W9.heap[x]? = some o := fun x o hx hne => hold x o ((BR3.out.block _ (lt_of_block hx)).trans hx) hne
        refine ⟨k, (k : Int) - 1, .mk 5 ⟨#[46]⟩ ⟨#[]⟩ 0 0 [t1, acc], some ⟨wr.heap.size, 0, none⟩, 2, by omega, rfl, rfl, hid (hold0 _ _ P1.out (by omega)), H6, hid ?_, hid ?_, B9⟩
        · rw [HTK.out]
          refine ⟨wr.heap.size, e1, c1, pa, cpa, rfl, by have := lt_of_block P1.out; omega, HT1.out, ?_, HCH.out.keep fun x o hx hne => hold0 x o hx hne.1⟩
          rw [← HLT.out]
          exact hold _ _ E3.out (by have := lt_of_block P2.out; omega)
        · rw [HTK.out]; show Tm.mk _ _ _ _ _ [t1, acc] = .mk _ _ _ _ _ [t1, listT (l.drop (k + 1)) e]; rw [← HLT.out]
      case measure => simp [intOf]
    | zero =>
      obtain rfl : z = -1 := by omega
      obtain ⟨⟨z0, z1, z2, z3, z4, z5⟩, ⟨f0, f1, f2, f3, f4, f5⟩⟩ := six_free P1.out
      obtain ⟨y0, y1, y2, y3, y4, y5⟩ := six_of P2.out
      clear hz
      go_wp2
      have hg := set6_grown wr (w.heap.size + 1) (.int .i64 acc.kind) (.string acc.name) (.string acc.num) (.int .u64 acc.bits) (.int .i64 acc.var) (.slice pa acc.args.length cpa)
      have hbw := set6_below hBr.out (show w.heap.size ≤ w.heap.size + 1 by omega) (.int .i64 acc.kind) (.string acc.name) (.string acc.num) (.int .u64 acc.bits) (.int .i64 acc.var) (.slice pa acc.args.length cpa)
      have hacc : acc = listT l e := by have h := HLT.out; rwa [List.drop_zero] at h
      have hc := HCH.out
      rw [List.drop_zero] at hc
      refine bodyPost_ret (results_tm rfl _ _ (w.heap.size + 1) acc pa cpa (by rfl) (set6 P1.out _ _ _ _ _ _)) rfl ⟨pa, cpa, by rw [← hacc]; rfl, ?_, hbw⟩
      exact (hc.keep fun x o hx hne => (hg.block x (lt_of_block hx) (fun e' => hne.2 (Option.some.inj e'))).trans hx).tm hbw HE.out
end Go.Proofs.YtiaddfedaikaiaaGreatDoor

namespace Go.Proofs.YtiaddfedaikaiaaGreatDoor

/-- A block of one term that is none yet. -/
def Blank (W : World) (b : Nat) : Prop := W.heap[b]? = some (.cells #[.int .i64 0, .string ⟨#[]⟩, .string ⟨#[]⟩, .int .u64 0, .int .i64 0, .slice none 0 0] 25 (0, 0))
/-- All but one block is as it was. -/
def Past (W W' : World) (b : Nat) : Prop := ∀ (k : Nat), k < W.heap.size → k ≠ b → W'.heap[k]? = W.heap[k]?
theorem Blank.apart {W : World} {b k o : Nat} {t : Tm} {p : Option Addr} {c : Nat} (hb : Blank W b) (hg : Good t) (hs : Six W k o t p c) : k ≠ b := by
  rintro rfl
  have h5 := hs.c5
  have h0 := hs.c0
  rw [cells_of hb] at h5 h0
  have h1 := (Array.getElem?_eq_some_iff.1 h5).1
  have h2 : o = 0 := by simp at h1; omega
  subst h2
  have h3 : (0 : Int) = t.kind := by simpa using h0
  have := hg.ok.kind
  omega
mutual
theorem TmAt.past {W W' : World} {b : Nat} (hb : Blank W b) (hk : Past W W' b) : ∀ {t : Tm} {p : Option Addr}, Good t → TmAt W t p → TmAt W' t p
  | .mk kk nn uu bb vv l, p, g, k => by
    have ga : ∀ u ∈ l, Good u := fun u hu => (g.arg u hu).1
    unfold TmAt at k ⊢
    refine ⟨k.1, ?_⟩
    rcases k.2 with k | ⟨b', o, e, k⟩
    · exact .inl k
    · exact .inr ⟨b', o, e, RowT.past hb hk ga k⟩
theorem RowT.past {W W' : World} {b : Nat} (hb : Blank W b) (hk : Past W W' b) : ∀ {l : List Tm} {k o : Nat}, (∀ u ∈ l, Good u) → RowT W l k o → RowT W' l k o
  | [], _, _, _, _ => by unfold RowT; trivial
  | t :: l, k, o, g, q => by
    unfold RowT at q ⊢
    obtain ⟨⟨p, cap, h1, h2⟩, h3⟩ := q
    have hlt : k < W.heap.size := by
      have := World.block_lt_of_cell? W _ h1.c0
      simpa using this
    exact ⟨⟨p, cap, h1.same (hk k hlt (hb.apart (g t (by simp)) h1)), TmAt.past hb hk (g t (by simp)) h2⟩, RowT.past hb hk (fun u hu => g u (by simp [hu])) h3⟩
end
theorem Past.grown {W W' : World} {b : Nat} (h : W.grownBy W' (some b)) : Past W W' b := fun k hk hne => h.block k hk (fun e => hne (Option.some.inj e))
end Go.Proofs.YtiaddfedaikaiaaGreatDoor

namespace Go.Proofs.YtiaddfedaikaiaaGreatDoor
open Go.RowKit

/-- A list's pairs in memory: all of them behind a block that is named; of its elements something is known. -/
def ChnU (P : Tm → Option Addr → Prop) (W : World) (Kb : Nat) (e : Tm) (pe : Option Addr) : List Tm → Option Addr → Prop
  | [], p => p = pe
  | a :: r, p => ∃ g pa ca pr cr, p = some ⟨g, 0, none⟩ ∧ Kb + 1 < g ∧ P a pa ∧ W.heap[g]? = some (.cells #[.int .i64 a.kind, .string a.name, .string a.num, .int .u64 a.bits, .int .i64 a.var, .slice pa a.args.length ca, .int .i64 (listT r e).kind, .string (listT r e).name, .string (listT r e).num, .int .u64 (listT r e).bits, .int .i64 (listT r e).var, .slice pr (listT r e).args.length cr] 25 (0, 0)) ∧ ChnU P W Kb e pe r pr
theorem ChnU.keep {P : Tm → Option Addr → Prop} {W W' : World} {Kb : Nat} {e : Tm} {pe : Option Addr} (hk : ∀ (k : Nat) (o : Obj), W.heap[k]? = some o → k ≠ Kb ∧ k ≠ Kb + 1 → W'.heap[k]? = some o) : ∀ {l : List Tm} {p : Option Addr}, ChnU P W Kb e pe l p → ChnU P W' Kb e pe l p
  | [], _, h => h
  | a :: r, _, ⟨g, pa, ca, pr, cr, h1, h2, h3, h4, h5⟩ => ⟨g, pa, ca, pr, cr, h1, h2, h3, hk _ _ h4 ⟨by omega, by omega⟩, h5.keep hk⟩
theorem ChnU.tm {P : Tm → Option Addr → Prop} {V W : World} {Kb : Nat} {e : Tm} {pe : Option Addr} (hv : ∀ g, Kb + 1 < g → V.heap[g]? = W.heap[g]?) (hP : ∀ a p, P a p → TmAt V a p) (he : TmAt V e pe) : ∀ {l : List Tm} {p : Option Addr}, ChnU P W Kb e pe l p → TmAt V (listT l e) p
  | [], _, h => by
    obtain rfl := h
    exact he
  | a :: r, _, ⟨g, pa, ca, pr, cr, h1, h2, h3, h4, h5⟩ => by
    have t := h5.tm hv hP he
    subst h1
    exact built ⟨#[46]⟩ [(a, pa, ca), (listT r e, pr, cr)] ((hv g h2).trans h4) rfl (by simp) (fun x hx => by
      simp at hx
      rcases hx with rfl | rfl
      · exact hP _ _ h3
      · exact t)
/-- A row of terms of which something is known. -/
def LsP (P : Tm → Option Addr → Prop) (w : World) (l : List Tm) (p : Option Addr) : Prop := ∀ (k : Nat) (hk : k < l.length), ∃ b o, p = some ⟨b, o, none⟩ ∧ ∃ q cap, Six w b (o + k * 6) l[k] q cap ∧ P l[k] q
theorem LsP.get {P : Tm → Option Addr → Prop} {w : World} {l : List Tm} {p : Option Addr} (h : LsP P w l p) (k : Nat) (hk : k < l.length) : ∃ b o, p = some ⟨b, o, none⟩ ∧ ∃ q cap, Six w b (o + k * 6) l[k] q cap ∧ P l[k] q := h k hk
theorem LsP.keep {P P' : Tm → Option Addr → Prop} {w w' : World} {l : List Tm} {p : Option Addr} (h : LsP P w l p) (hb : Below w.heap.size w w') (hp : ∀ a q, P a q → P' a q) : LsP P' w' l p := fun k hk => by
  obtain ⟨b, o, e, q, c, h1, h2⟩ := h k hk
  exact ⟨b, o, e, q, c, h1.keep hb, hp _ _ h2⟩
set_option maxRecDepth 100000 in
set_option maxHeartbeats 8000000 in
theorem treeList_up (P : Tm → Option Addr → Prop) (l : List Tm) (e : Tm) (pl pe : Option Addr) (cl ce : Nat) (w : World) (hl : LsP P w l pl) (hn : l.length ≤ 4000) :
    Calls Tryz.prog 146 #[.slice pl l.length cl, e.val pe ce] w fun x w' => ∃ q c, x = .returned ((listT l e).val q c) ∧ ChnU P w' w.heap.size e pe l q ∧ Below w.heap.size w w' := by
  have HL := hid hl
  obtain ⟨W0, hW0⟩ : ∃ W0, W0 = (w.alloc (tobj e pe ce)).alloc (tobj (leaf 0 ⟨#[]⟩ ⟨#[]⟩ 0) none 0) := ⟨_, rfl⟩
  have hB := hid (show Below w.heap.size w W0 by rw [hW0]; exact ((Below.refl w.heap.size w).alloc (Nat.le_refl _) _).alloc (by simp) _)
  have Q1 := hid (show W0.heap[w.heap.size + 1]? = some (.cells #[.int .i64 0, .string ⟨#[]⟩, .string ⟨#[]⟩, .int .u64 0, .int .i64 0, .slice none 0 0] 25 (0, 0)) by
    rw [hW0]
    have h := heap_alloc_new (w.alloc (tobj e pe ce)) (tobj (leaf 0 ⟨#[]⟩ ⟨#[]⟩ 0) none 0)
    rwa [World.size_alloc] at h)
  have Q2 := hid (show W0.heap[w.heap.size]? = some (tobj e pe ce) by rw [hW0]; exact (heap_alloc_old (w.alloc _) _ (by simp)).trans (heap_alloc_new w _))
  have CO := hid (show ∀ (W : World) (q : Option Addr), Calls Tryz.prog 109 #[.string ⟨#[46]⟩, .slice q 2 2] W fun e w' => e = .returned (.agg #[.int .i64 5, .string ⟨#[46]⟩, .string ⟨#[]⟩, .int .u64 0, .int .i64 0, .slice q 2 2]) ∧ Below W.heap.size W w' from fun W q => of_any ⟨#[46]⟩ [e, e] q 2 W)
  have hW0' : W0 = (w.alloc (.cells #[.int .i64 e.kind, .string e.name, .string e.num, .int .u64 e.bits, .int .i64 e.var, .slice pe e.args.length ce] 25)).alloc (.cells #[.int .i64 0, .string ⟨#[]⟩, .string ⟨#[]⟩, .int .u64 0, .int .i64 0, .slice none 0 0] 25) := hW0
  have hlen : (l.length : Int) ≤ 4000 := by omega
  unfold Tm.val
  clear hl hW0
  go_enter Tryz.func146, Tryz.ntmps146
  go_upto_region 1 with fail
  rw [← hW0']
  clear hW0'
  go_wp2_with fail
  have QL := hid (show e = listT (l.drop l.length) e by rw [List.drop_length]; rfl)
  have QC := hid (show ChnU P W0 w.heap.size e pe (l.drop l.length) pe by rw [List.drop_length]; rfl)
  go_loopw [5] (fun i wr => ∃ (k : Nat) (z : Int) (acc : Tm) (pa : Option Addr) (cpa : Nat), k ≤ l.length ∧ z = (k : Int) - 1 ∧ i = .int .i64 z ∧ Hid (wr.heap[w.heap.size + 1]? = some (.cells #[.int .i64 0, .string ⟨#[]⟩, .string ⟨#[]⟩, .int .u64 0, .int .i64 0, .slice none 0 0] 25 (0, 0))) ∧ Hid (wr.heap[w.heap.size]? = some (tobj acc pa cpa)) ∧ Hid (ChnU P wr w.heap.size e pe (l.drop k) pa) ∧ Hid (acc = listT (l.drop k) e) ∧ Hid (Below w.heap.size w wr)) (fun i _ => (intOf i + 1).toNat)
  case atStart => exact ⟨l.length, _, e, pe, ce, Nat.le_refl _, rfl, rfl, Q1, Q2, QC, QL, hB⟩
  case round =>
    clear Q1 Q2 QC QL hB
    obtain ⟨k1, z, acc, pa, cpa, hk, hz, rfl, P1, P2, HCH, HLT, hBr⟩ := hrel
    cases k1 with
    | succ k =>
      obtain rfl : z = (k : Int) := by omega
      clear hz
      have hlk : k < l.length := hk
      have hk0 : (0 : Int) ≤ (k : Int) := by omega
      have hk1 : (k : Int) < (l.length : Int) := by omega
      obtain ⟨b, o, rfl, e1, c1, hs1, ht1⟩ := HL.out.get k hlk
      have HTK := hid (show l.drop k = l[k] :: l.drop (k + 1) from List.drop_eq_getElem_cons hlk)
      have HT1 := hid ht1
      clear ht1
      generalize l[k] = t1 at *
      have SY := hid (show ∀ W : World, Below w.heap.size w W → W.cell? ⟨b, o + k * 6, none⟩ = some (.int .i64 t1.kind) ∧ W.cell? ⟨b, o + k * 6 + 1, none⟩ = some (.string t1.name) ∧ W.cell? ⟨b, o + k * 6 + 2, none⟩ = some (.string t1.num) ∧ W.cell? ⟨b, o + k * 6 + 3, none⟩ = some (.int .u64 t1.bits) ∧ W.cell? ⟨b, o + k * 6 + 4, none⟩ = some (.int .i64 t1.var) ∧ W.cell? ⟨b, o + k * 6 + 5, none⟩ = some (.slice e1 t1.args.length c1) from fun W h =>
        have m := hs1.keep h
        ⟨m.c0, m.c1, m.c2, m.c3, m.c4, m.c5⟩)
      have SX := hid (fun (W : World) (h : Below wr.heap.size wr W) => SY.out W (hBr.out.trans (h.mono hBr.out.size)))
      have BRD := hid (show Below wr.heap.size wr wr.drew from (Below.refl _ _).drew)
      clear hs1
      go_wp2_with fail
      have sd := SX.out wr.drew BRD.out
      refine wp_region_held_drew (S := fun W => W.cell? ⟨b, o + k * 6, none⟩ = some (.int .i64 t1.kind) ∧ W.cell? ⟨b, o + k * 6 + 1, none⟩ = some (.string t1.name) ∧ W.cell? ⟨b, o + k * 6 + 2, none⟩ = some (.string t1.num) ∧ W.cell? ⟨b, o + k * 6 + 3, none⟩ = some (.int .u64 t1.bits) ∧ W.cell? ⟨b, o + k * 6 + 4, none⟩ = some (.int .i64 t1.var) ∧ W.cell? ⟨b, o + k * 6 + 5, none⟩ = some (.slice e1 t1.args.length c1)) (by kernel_rfl) sd (fun hHeld => ?_)
      refine' wpAnyH_take (i := 0) (v := (.slice (some ⟨b, o, none⟩) l.length cl)) rfl (by decide +kernel) (by decide +kernel) (by decide +kernel) (fun _ _ _ h => h) (Or.inl ⟨by rfl, ?hyL1⟩) (by assumption) ?restL1
      case hyL1 => (intro w5 hSw; (try dsimp only at hSw); go_simp; try with_reducible rfl)
      case' restL1 => (try simp only [Act.put, List.setIfInBounds_toArray])
      refine' wpAnyH_take (i := 1) (v := (.int .i64 (k : Int))) rfl (by decide +kernel) (by decide +kernel) (by decide +kernel) (fun _ _ _ h => h) (Or.inl ⟨by rfl, ?hyL2⟩) (by assumption) ?restL2
      case hyL2 => (intro w5 hSw; (try dsimp only at hSw); go_simp; try with_reducible rfl)
      case' restL2 => (try simp only [Act.put])
      refine' wpAnyH_take (i := 2) (v := (.pointer (some ⟨b, o + k * 6, none⟩))) rfl (by decide +kernel) (by decide +kernel) (by decide +kernel) (fun _ _ _ h => h) (Or.inl ⟨by rfl, ?hyL3⟩) (by assumption) ?restL3
      case hyL3 => (intro w5 hSw; (try dsimp only at hSw); go_simp; try with_reducible rfl)
      case' restL3 => (try simp only [Act.put])
      refine' wpAnyH_take (i := 3) (v := (.agg #[.int .i64 t1.kind, .string t1.name, .string t1.num, .int .u64 t1.bits, .int .i64 t1.var, .slice e1 t1.args.length c1])) rfl (by decide +kernel) (by decide +kernel) (by decide +kernel) (fun _ _ _ h => h) (Or.inl ⟨by rfl, ?hyL4⟩) (by assumption) ?restL4
      case hyL4 => (intro w5 hSw; (try dsimp only at hSw); go_simp; try with_reducible rfl)
      case' restL4 => (try simp only [Act.put])
      refine wpAnyH_ready (rs := [4]) (by decide +kernel) (by simp) ?_
      refine AllReadyH.cons rfl (fun K hK => ?_) AllReadyH.nil
      have q := six_of ((show wr.drew.heap[w.heap.size]? = _ from P2.out))
      obtain ⟨q0, q1, q2, q3, q4, q5⟩ := q
      go_simp
      refine hK.out _ _ (sd) (fun hHeld => ?_)
      clear hK K q0 q1 q2 q3 q4 q5
      (try simp only [Act.put, List.setIfInBounds_toArray, List.set_cons_zero, List.set_cons_succ])
      refine wpAnyH_ready (rs := [5]) (by decide +kernel) (by simp) ?_
      refine AllReadyH.cons rfl (fun K hK => ?_) AllReadyH.nil
      go_simp
      obtain ⟨W1, hW1⟩ : ∃ W1, W1 = (wr.alloc (.cells #[.int .i64 t1.kind, .string t1.name, .string t1.num, .int .u64 t1.bits, .int .i64 t1.var, .slice e1 t1.args.length c1, .int .i64 acc.kind, .string acc.name, .string acc.num, .int .u64 acc.bits, .int .i64 acc.var, .slice pa acc.args.length cpa] 25)).drew := ⟨_, rfl⟩
      have B1 := hid (show Below wr.heap.size wr W1 by rw [hW1]; exact ((Below.refl _ _).alloc (Nat.le_refl _) _).drew)
      have E1 := hid (show W1.heap[wr.heap.size]? = some (.cells #[.int .i64 t1.kind, .string t1.name, .string t1.num, .int .u64 t1.bits, .int .i64 t1.var, .slice e1 t1.args.length c1, .int .i64 acc.kind, .string acc.name, .string acc.num, .int .u64 acc.bits, .int .i64 acc.var, .slice pa acc.args.length cpa] 25 (0, 0)) by rw [hW1]; exact heap_alloc_new wr _)
      rw [← hW1]
      clear hW1
      refine hK.out _ _ (SX.out W1 B1.out) (fun hHeld => ?_)
      clear hK K
      (try simp only [Act.put, List.setIfInBounds_toArray, List.set_cons_zero, List.set_cons_succ])
      refine wpAnyH_ready (rs := [6]) (by decide +kernel) (by simp) ?_
      refine AllReadyH.cons rfl (fun K hK => ?_) AllReadyH.nil
      go_simp
      (with_reducible refine (CO.out _ _).mono ?_)
      rintro e w3 ⟨rfl, hb3⟩
      have BR3 := hid (show Below wr.heap.size wr w3 from B1.out.trans (hb3.mono B1.out.size))
      have E3 := hid (obj_keep E1.out hb3)
      clear hb3
      have P2c := hid ((BR3.out.block _ (lt_of_block P2.out)).trans P2.out)
      refine hK.out _ _ (SX.out w3 BR3.out) (fun hHeld => ?_)
      clear hK K
      (try simp only [Act.put, List.setIfInBounds_toArray, List.set_cons_zero, List.set_cons_succ])
      refine wpAnyH_ready (rs := [7]) (by decide +kernel) (by simp) ?_
      refine AllReadyH.cons rfl (fun K hK => ?_) AllReadyH.nil
      obtain ⟨⟨z0, z1, z2, z3, z4, z5⟩, ⟨f0, f1, f2, f3, f4, f5⟩⟩ := six_free (show w3.heap[w.heap.size]? = some (.cells #[.int .i64 acc.kind, .string acc.name, .string acc.num, .int .u64 acc.bits, .int .i64 acc.var, .slice pa acc.args.length cpa] 25 (0, 0)) from P2c.out)
      go_simp
      obtain ⟨qb, hqb⟩ : ∃ qb : Option Addr, qb = some ⟨wr.heap.size, 0, none⟩ := ⟨_, rfl⟩
      have hg := set6_grown w3 (w.heap.size) (.int .i64 5) (.string ⟨#[46]⟩) (.string ⟨#[]⟩) (.int .u64 0) (.int .i64 0) (.slice (some ⟨wr.heap.size, 0, none⟩) 2 2)
      have h6 := set6 P2c.out (.int .i64 5) (.string ⟨#[46]⟩) (.string ⟨#[]⟩) (.int .u64 0) (.int .i64 0) (.slice (some ⟨wr.heap.size, 0, none⟩) 2 2)
      obtain ⟨W9, h9⟩ : ∃ W9, W9 = ((((((w3.setCell ⟨w.heap.size, 0, none⟩ (.int .i64 5)).setCell ⟨w.heap.size, 1, none⟩ (.string ⟨#[46]⟩)).setCell ⟨w.heap.size, 2, none⟩ (.string ⟨#[]⟩)).setCell ⟨w.heap.size, 3, none⟩ (.int .u64 0)).setCell ⟨w.heap.size, 4, none⟩ (.int .i64 0)).setCell ⟨w.heap.size, 5, none⟩ (.slice (some ⟨wr.heap.size, 0, none⟩) 2 2)) := ⟨_, rfl⟩
      rw [← h9] at hg h6
      rw [← h9]
      have G9 := hid hg
      have H6 := hid h6
      have B9 := hid (show Below w.heap.size w W9 by rw [h9]; exact set6_below (hBr.out.trans (BR3.out.mono hBr.out.size)) (Nat.le_refl _) _ _ _ _ _ _)
      clear hg h6 h9 z0 z1 z2 z3 z4 z5 f0 f1 f2 f3 f4 f5
      refine hK.out _ _ (SY.out W9 B9.out) (fun hHeld => ?_)
      clear hK K hHeld
      (try simp only [Act.put, List.setIfInBounds_toArray, List.set_cons_zero, List.set_cons_succ])
      refine wpAnyH_done (by kernel_rfl) ?_ _
      clear sd
      go_wp2
      go_roundw
      case rel =>
        have hold : ∀ (x : Nat) (o : Obj), w3.heap[x]? = some o → x ≠ w.heap.size → W9.heap[x]? = some o := fun x o hx hne => (G9.out.block x (lt_of_block hx) (fun e => hne (Option.some.inj e))).trans hx
        have hold0 : ∀ (x : Nat) (o : Obj), wr.heap[x]? = some o → x ≠ w.heap.size → W9.heap[x]? = some o := fun x o hx hne => hold x o ((BR3.out.block _ (lt_of_block hx)).trans hx) hne
        refine ⟨k, (k : Int) - 1, .mk 5 ⟨#[46]⟩ ⟨#[]⟩ 0 0 [t1, acc], some ⟨wr.heap.size, 0, none⟩, 2, by omega, rfl, rfl, hid (hold0 _ _ P1.out (by omega)), H6, hid ?_, hid ?_, B9⟩
        · rw [HTK.out]
          refine ⟨wr.heap.size, e1, c1, pa, cpa, rfl, by have := lt_of_block P1.out; omega, HT1.out, ?_, HCH.out.keep fun x o hx hne => hold0 x o hx hne.1⟩
          rw [← HLT.out]
          exact hold _ _ E3.out (by have := lt_of_block P2.out; omega)
        · rw [HTK.out]; show Tm.mk _ _ _ _ _ [t1, acc] = .mk _ _ _ _ _ [t1, listT (l.drop (k + 1)) e]; rw [← HLT.out]
      case measure => simp [intOf]
    | zero =>
      obtain rfl : z = -1 := by omega
      obtain ⟨⟨z0, z1, z2, z3, z4, z5⟩, ⟨f0, f1, f2, f3, f4, f5⟩⟩ := six_free P1.out
      obtain ⟨y0, y1, y2, y3, y4, y5⟩ := six_of P2.out
      clear hz
      go_wp2
      have hg := set6_grown wr (w.heap.size + 1) (.int .i64 acc.kind) (.string acc.name) (.string acc.num) (.int .u64 acc.bits) (.int .i64 acc.var) (.slice pa acc.args.length cpa)
      have hbw := set6_below hBr.out (show w.heap.size ≤ w.heap.size + 1 by omega) (.int .i64 acc.kind) (.string acc.name) (.string acc.num) (.int .u64 acc.bits) (.int .i64 acc.var) (.slice pa acc.args.length cpa)
      have hacc : acc = listT l e := by have h := HLT.out; rwa [List.drop_zero] at h
      have hc := HCH.out
      rw [List.drop_zero] at hc
      refine bodyPost_ret (results_tm rfl _ _ (w.heap.size + 1) acc pa cpa (by rfl) (set6 P1.out _ _ _ _ _ _)) rfl ⟨pa, cpa, by rw [← hacc]; rfl, ?_, hbw⟩
      exact hc.keep fun x o hx hne => (hg.block x (lt_of_block hx) (fun e' => hne.2 (Option.some.inj e'))).trans hx
end Go.Proofs.YtiaddfedaikaiaaGreatDoor
