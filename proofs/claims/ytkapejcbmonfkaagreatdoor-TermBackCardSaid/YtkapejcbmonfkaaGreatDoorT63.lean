/- Walk: List of the program, where nothing is wrong. No condition but those that each theorem names. -/
import Derived.Test.YtkapejcbmonfkaaGreatDoorT61
import Derived.Test.YtkapejcbmonfkaaGreatDoorT62
namespace Go.Proofs.YtkapejcbmonfkaaGreatDoor
open Go.RowKit Go.Shelf

mutual
theorem MineT.isCells {w : World} : ∀ {t : Tm} {p : Option Addr} {cap : Nat} {S : List Nat}, MineT w t p cap S → ∀ k ∈ S, ∃ arr, w.heap[k]? = some (.cells arr 25 (0, 0))
  | .mk _ _ _ _ _ l, p, cap, S, h => by
    unfold MineT at h
    rcases h.2 with ⟨_, _, _, rfl⟩ | ⟨b, arr, S', rfl, rfl, h1, h2, h3, h4, h5⟩
    · intro k hk; cases hk
    · intro k hk
      rcases List.mem_cons.1 hk with rfl | hk
      · exact ⟨arr, h1⟩
      · exact MineR.isCells h5 k hk
theorem MineR.isCells {w : World} : ∀ {l : List Tm} {b o : Nat} {S : List Nat}, MineR w l b o S → ∀ k ∈ S, ∃ arr, w.heap[k]? = some (.cells arr 25 (0, 0))
  | [], _, _, _, h => by unfold MineR at h; subst h; intro k hk; cases hk
  | t :: l, b, o, S, h => by
    unfold MineR at h
    obtain ⟨p, cap, S1, S2, rfl, hd, h1, h2, h3⟩ := h
    intro k hk
    rcases List.mem_append.1 hk with hk | hk
    · exact MineT.isCells h2 k hk
    · exact MineR.isCells h3 k hk
end
/-- The list behind some rounds. -/
def accN {N : Nat} (xs : Fin N → El) (e : Tm) (pre : List (Fin N)) : Tm := pre.foldl (fun a i => consT (xs i).1 a) e
theorem accN_snoc {N : Nat} (xs : Fin N → El) (e : Tm) (pre : List (Fin N)) (i : Fin N) : accN xs e (pre ++ [i]) = consT (xs i).1 (accN xs e pre) := by unfold accN; rw [List.foldl_append]; rfl
theorem accN_all {l : List Tm} (xs : Fin l.length → El) (e : Tm) (hx : ∀ i : Fin l.length, (xs i).1 = l[i.val]) : ∀ (d k : Nat), k + d = l.length → accN xs e (preN l.length k) = listT (l.drop k) e
  | 0, k, h => by
    obtain rfl : k = l.length := by omega
    rw [preN_all, List.drop_length]; rfl
  | d + 1, k, h => by
    have hk : k < l.length := by omega
    rw [preN_step hk, accN_snoc, accN_all xs e hx d (k + 1) (by omega), List.drop_eq_getElem_cons hk, hx]
    rfl
/-- A term lies in a box, and its arguments in memory of their own. -/
def BoxM (W : World) (K B : Nat) (t : Tm) : Prop := ∃ p cap S, W.heap[K]? = some (tobj t p cap) ∧ MineT W t p cap S ∧ ∀ x ∈ S, B ≤ x ∧ x ≠ K
theorem boxM_own {β : Type} {K B B' : Nat} (f : β → Tm) : OwnFrom B (fun s W => BoxM W K B' (f s)) := fun s X Y row ⟨p, cap, S, h1, h2, h3⟩ hg hr =>
  ⟨p, cap, S, (hg.block K (lt_of_block h1) (fun e => by obtain ⟨o, ho, hc⟩ := (hr K e.symm).2; rw [h1] at ho; cases ho; cases hc)).trans h1, h2.same fun x hx => hg.block x (h2.lt x hx) (fun e => by obtain ⟨o, ho, hc⟩ := (hr x e.symm).2; obtain ⟨arr, ha⟩ := h2.isCells x hx; rw [ha] at ho; cases ho; cases hc), h3⟩
theorem mine_two {W : World} {b : Nat} {x y : Tm} {px py : Option Addr} {cx cy : Nat} {Sx Sy : List Nat} (hb : W.heap[b]? = some (pobj x y px py cx cy)) (hx : MineT W x px cx Sx) (hy : MineT W y py cy Sy) (hd : ∀ k ∈ Sx, k ∉ Sy) (h1 : b ∉ Sx) (h2 : b ∉ Sy) : MineT W (consT x y) (some ⟨b, 0, none⟩) 2 (b :: (Sx ++ Sy)) := by
  have c := fun k => cells_of (show W.heap[b]? = some (.cells _ _ (0, 0)) from hb) k
  unfold consT MineT
  refine ⟨by simp, .inr ⟨b, _, Sx ++ Sy, rfl, rfl, hb, rfl, ⟨by simp, by unfold maxLen; omega⟩, by simp [h1, h2], ?_⟩⟩
  unfold MineR MineR MineR
  exact ⟨px, cx, Sx, Sy, rfl, hd, ⟨(c 0).trans rfl, (c 1).trans rfl, (c 2).trans rfl, (c 3).trans rfl, (c 4).trans rfl, (c 5).trans rfl⟩, hx, py, cy, Sy, [], by simp, by simp, ⟨(c 6).trans rfl, (c 7).trans rfl, (c 8).trans rfl, (c 9).trans rfl, (c 10).trans rfl, (c 11).trans rfl⟩, hy, rfl⟩
theorem body_endM {K B : Nat} {acc sx : Tm} {p q : Option Addr} {cp c : Nat} {S S1 : List Nat} {w7 W w8 : World} (hKw : K < w7.heap.size) (hBw : B ≤ w7.heap.size) (HPK : W.heap[K]? = some (tobj acc p cp)) (HM : MineT W acc p cp S) (hS : ∀ x ∈ S, B ≤ x ∧ x ≠ K) (HH : Held K w7 W) (hb8 : Below W.heap.size W w8) (HM1 : MineT w8 sx q c S1) (hS1 : ∀ x ∈ S1, W.heap.size ≤ x)
    (W9 : World) (hW9 : W9 = ((((((w8.alloc (pobj sx acc q p c cp)).setCell ⟨K, 0, none⟩ (.int .i64 5)).setCell ⟨K, 1, none⟩ (.string ⟨#[46]⟩)).setCell ⟨K, 2, none⟩ (.string ⟨#[]⟩)).setCell ⟨K, 3, none⟩ (.int .u64 0)).setCell ⟨K, 4, none⟩ (.int .i64 0)).setCell ⟨K, 5, none⟩ (.slice (some ⟨w8.heap.size, 0, none⟩) 2 2)) :
    KeepsFrom w7.heap.size W W9 ∧ Lv K W W9 ∧ Held K w7 W9 ∧ BoxM W9 K B (consT sx acc) := by
  have hKl := lt_of_block HPK
  have hsz8 : W.heap.size ≤ w8.heap.size := hb8.size
  obtain ⟨Wa, hWa⟩ : ∃ Wa, Wa = w8.alloc (pobj sx acc q p c cp) := ⟨_, rfl⟩
  have hal8 : Below w8.heap.size w8 Wa := by rw [hWa]; exact (Below.refl w8.heap.size w8).alloc (Nat.le_refl _) _
  have hpo : Wa.heap[w8.heap.size]? = some (pobj sx acc q p c cp) := by rw [hWa]; exact World.alloc_heap_new w8 _
  rw [← hWa] at hW9
  have hgr : Wa.grownBy W9 (some K) := by rw [hW9]; exact set6_grown Wa K _ _ _ _ _ _
  have h9 : W9.heap[K]? = some (.cells #[.int .i64 5, .string ⟨#[46]⟩, .string ⟨#[]⟩, .int .u64 0, .int .i64 0, .slice (some ⟨w8.heap.size, 0, none⟩) 2 2] 25 (0, 0)) := by
    rw [hW9]
    exact set6 (obj_keep (obj_keep HPK hb8) hal8) _ _ _ _ _ _
  have hh : Held K W W9 := ((Held.of_below hb8)).trans ((Held.of_below hal8).trans (Held.of_grown hgr))
  have hv : Lv K W W9 := lv_t (Lv.of_below hb8) (lv_t (Lv.of_below hal8) (Lv.of_grown hgr))
  have hs7 := HH.size
  refine ⟨⟨hh.size, fun k o hk ho _ => hh.block ho (by omega)⟩, hv, HH.trans hh, some ⟨w8.heap.size, 0, none⟩, 2, w8.heap.size :: (S1 ++ S), h9, mine_two (px := q) (py := p) (cx := c) (cy := cp) ?_ ?_ ?_ ?_ ?_ ?_, ?_⟩
  · exact (hgr.block w8.heap.size (lt_of_block hpo) (fun e => by have := Option.some.inj e; omega)).trans hpo
  · exact HM1.same fun x hx => (hgr.block x (by have := HM1.lt x hx; have := hal8.size; omega) (fun e => by have := Option.some.inj e; have := hS1 x hx; omega)).trans (hal8.block x (HM1.lt x hx))
  · exact HM.same fun x hx => hh.same x (HM.lt x hx) (hS x hx).2
  · intro x hx h2
    have := hS1 x hx
    have := HM.lt x h2
    omega
  · intro h
    have := HM1.lt _ h
    omega
  · intro h
    have := HM.lt _ h
    omega
  · intro x hx
    rcases List.mem_cons.1 hx with rfl | hx
    · omega
    · rcases List.mem_append.1 hx with h | h
      · have := hS1 x h; omega
      · exact hS x h
theorem list_endM {K Dd : Nat} {tt : Tm} {p : Option Addr} {cp : Nat} {S : List Nat} {w w7 W : World} (hw7 : w.heap.size + 2 ≤ w7.heap.size) (hwK : w.heap.size + 2 ≤ K) (HT : MineT W tt p cp S) (hS : ∀ x ∈ S, w.heap.size + 2 ≤ x ∧ x ≠ K) (HH : Held K w7 W) (B7 : Below w.heap.size w w7)
    (HZ : W.heap[w.heap.size + 1]? = some (.cells #[.int .i64 0, .string ⟨#[]⟩, .string ⟨#[]⟩, .int .u64 0, .int .i64 0, .slice none 0 0] 25 (0, 0))) (hDd : w7.heap.size ≤ Dd) (HD : W.heap[Dd]? = some (.deferred (some [])))
    (X0 : World) (hX : X0 = (((((W.setCell ⟨w.heap.size + 1, 0, none⟩ (.int .i64 tt.kind)).setCell ⟨w.heap.size + 1, 1, none⟩ (.string tt.name)).setCell ⟨w.heap.size + 1, 2, none⟩ (.string tt.num)).setCell ⟨w.heap.size + 1, 3, none⟩ (.int .u64 tt.bits)).setCell ⟨w.heap.size + 1, 4, none⟩ (.int .i64 tt.var)).setCell ⟨w.heap.size + 1, 5, none⟩ (.slice p tt.args.length cp)) :
    X0.heap[Dd]? = some (.deferred (some [])) ∧ (X0.putObj Dd (.deferred none)).heap[w.heap.size + 1]? = some (tobj tt p cp) ∧ MineT (X0.putObj Dd (.deferred none)) tt p cp S ∧ Below w.heap.size w (X0.putObj Dd (.deferred none)) := by
  have hgr : W.grownBy X0 (some (w.heap.size + 1)) := by rw [hX]; exact set6_grown W _ _ _ _ _ _ _
  have h9 : X0.heap[w.heap.size + 1]? = some (tobj tt p cp) := by rw [hX]; exact set6 HZ _ _ _ _ _ _
  have hne : Dd ≠ w.heap.size + 1 := by omega
  have hD : X0.heap[Dd]? = some (.deferred (some [])) := (hgr.block Dd (lt_of_block HD) (by simpa using hne)).trans HD
  have h2 : Below w.heap.size w W := B7.trans ⟨HH.os, HH.tape, HH.output, HH.size, fun k hk => HH.same k (by omega) (by omega)⟩
  have h3 : Below w.heap.size w X0 := h2.grown hgr h2.size (fun k e => by cases e; omega)
  refine ⟨hD, (World.putObj_heap_other (Ne.symm hne)).trans h9, HT.same fun x hx => ?_, ⟨h3.os, h3.tape, h3.output, by have := h3.size; simpa [World.putObj] using this, fun k hk => (World.putObj_heap_other (by omega)).trans (h3.block k hk)⟩⟩
  have hxD : x ≠ Dd := by
    rintro rfl
    obtain ⟨arr, ha⟩ := HT.isCells x hx
    rw [ha] at HD
    cases HD
  exact (World.putObj_heap_other hxD).trans (hgr.block x (HT.lt x hx) (fun e => by have := Option.some.inj e; have := hS x hx; omega))
set_option maxRecDepth 100000 in
set_option maxHeartbeats 16000000 in
theorem list_good (l : List Tm) (e : Tm) (pl pe : Option Addr) (cl ce : Nat) (w : World) (hl : ListAt w l pl) (he : TmAt w e pe) (hX : Utf w) (hD : AllR DomA l) (hDe : AllT DomA e) (hlm : l.length ≤ maxLen) (h1 : checksErr vName numOk bitsOk l = 0) (h2 : checkErr vName numOk bitsOk e = 0) (h3 : tot l e l.length ≤ 4000) (hcl : ∀ k (h : k < l.length), AllT CpOk l[k]) (hce : AllT CpOk e) :
    Calls Tryz.prog 28 #[.slice pl l.length cl, e.val pe ce] w fun x w' => ∃ q c S, x = .returned (.tuple #[(listT l e).val q c, .int .i64 0]) ∧ MineT w' (listT l e) q c S ∧ (∀ k ∈ S, w.heap.size ≤ k) ∧ Below w.heap.size w w' := by
  refine (callsIn_wide (n := 6)).1 ?_
  have HL := hid hl
  have HE := hid he
  have HCL := hid hcl
  obtain ⟨W0, hW0⟩ : ∃ W0, W0 = (w.alloc (.cells #[.int .i64 e.kind, .string e.name, .string e.num, .int .u64 e.bits, .int .i64 e.var, .slice pe e.args.length ce] 25)).alloc (.cells #[.int .i64 0, .string ⟨#[]⟩, .string ⟨#[]⟩, .int .u64 0, .int .i64 0, .slice none 0 0] 25) := ⟨_, rfl⟩
  have B0 := hid (show Below w.heap.size w W0 by rw [hW0]; exact ((Below.refl w.heap.size w).alloc (Nat.le_refl _) _).alloc (by simp) _)
  have E0 := hid (show W0.heap[w.heap.size]? = some (.cells #[.int .i64 e.kind, .string e.name, .string e.num, .int .u64 e.bits, .int .i64 e.var, .slice pe e.args.length ce] 25 (0, 0)) by rw [hW0]; exact (heap_alloc_old (w.alloc _) _ (by simp)).trans (heap_alloc_new w _))
  have Z0 := hid (show W0.heap[w.heap.size + 1]? = some (.cells #[.int .i64 0, .string ⟨#[]⟩, .string ⟨#[]⟩, .int .u64 0, .int .i64 0, .slice none 0 0] 25 (0, 0)) by
    rw [hW0]
    have h := heap_alloc_new (w.alloc (.cells #[.int .i64 e.kind, .string e.name, .string e.num, .int .u64 e.bits, .int .i64 e.var, .slice pe e.args.length ce] 25)) (.cells #[.int .i64 0, .string ⟨#[]⟩, .string ⟨#[]⟩, .int .u64 0, .int .i64 0, .slice none 0 0] 25)
    rwa [World.size_alloc] at h)
  have hW0' : W0 = (w.alloc (.cells #[.int .i64 e.kind, .string e.name, .string e.num, .int .u64 e.bits, .int .i64 e.var, .slice pe e.args.length ce] 25)).alloc (.cells #[.int .i64 0, .string ⟨#[]⟩, .string ⟨#[]⟩, .int .u64 0, .int .i64 0, .slice none 0 0] 25) := hW0
  clear hW0
  have CK := hid (fun (W : World) (h : Below w.heap.size w W) => checks_any vName numOk bitsOk DomA l pl cl W hlm (hl.keep h) (oracleA _ (hX.keep h)) hD)
  have CC := hid (fun (W : World) (h : Below w.heap.size w W) => check_any vName numOk bitsOk DomA e pe ce W (he.keep h) (oracleA _ (hX.keep h)) hDe)
  have CN := hid (fun (W : World) (h : Below w.heap.size w W) => nodes_any e pe ce W (he.keep h))
  have CE := hid (fun (W : World) (h : Below w.heap.size w W) => copyOf_any e pe ce W (he.keep h) hce)
  rw [h1] at CK
  rw [h2] at CC
  have HTT := hid h3
  have HTZ := hid (show capped (nodes e) 4001 = (tot l e 0 : Int) by
    rw [tot_zero]
    have h := tot_mono l e (Nat.zero_le l.length)
    rw [tot_zero] at h
    unfold capped
    rw [if_pos (by omega)])
  rw [HTZ.out] at CN
  have hlen : (l.length : Int) ≤ 4000 := by unfold tot at h3; omega
  unfold Tm.val at CC CN CE
  unfold Tm.val
  clear hl he hD hDe h1 h2 h3 hX hcl hce
  refine callsIn_of_wp_marks Tryz.func28 rfl trivial ?_ rfl
  simp only [Tryz.ntmps28, List.size_toArray, List.length_cons, List.length_nil, Nat.reduceAdd, Nat.reduceSub, Array.replicate_succ, Array.replicate_zero, List.push_toArray, List.append_toArray, List.nil_append, List.cons_append]
  rw [wpIn_wide]
  go_wp2_with (first
    | (go_at_call 46; rw [← hW0']; (with_reducible refine (CK.out _ B0.out).mono ?_); rintro x w1 ⟨rfl, hb⟩; have B1 := hid (B0.out.trans (hb.mono B0.out.size)); have E1 := hid (obj_keep E0.out hb); have Z1 := hid ((hb.block _ (lt_of_block Z0.out)).trans Z0.out); clear hb E0 Z0; obtain ⟨⟨x0, x1, x2, x3, x4, x5⟩, _⟩ := six_free E1.out; clear hW0')
    | (go_at_call 45; (with_reducible refine (CC.out _ B1.out).mono ?_); rintro x w2 ⟨rfl, hb⟩; clear x0 x1 x2 x3 x4 x5; have B2 := hid (B1.out.trans (hb.mono B1.out.size)); have E2 := hid (obj_keep E1.out hb); have Z2 := hid ((hb.block _ (lt_of_block Z1.out)).trans Z1.out); clear hb E1 Z1; obtain ⟨⟨x0, x1, x2, x3, x4, x5⟩, _⟩ := six_free E2.out)
    | (go_at_call 44; (with_reducible refine (CN.out _ B2.out).mono ?_); rintro x w3 ⟨rfl, hb⟩; clear x0 x1 x2 x3 x4 x5; have B3 := hid (B2.out.trans (hb.mono B2.out.size)); have E3 := hid (obj_keep E2.out hb); have Z3 := hid ((hb.block _ (lt_of_block Z2.out)).trans Z2.out); clear hb E2 Z2; obtain ⟨⟨x0, x1, x2, x3, x4, x5⟩, _⟩ := six_free E3.out)
    | fail)
  go_loopw [30, 8] (fun i n wr => ∃ (k : Nat), k ≤ l.length ∧ i = .int .i64 (k : Int) ∧ n = .int .i64 (tot l e k : Int) ∧ Hid (Below w3.heap.size w3 wr)) (fun i _ _ => l.length - (intOf i).toNat)
  case atStart => exact ⟨0, by omega, rfl, rfl, hid (Below.refl _ _)⟩
  case round =>
    obtain ⟨k, hk, rfl, rfl, hBr⟩ := hrel
    have hBw := hid (B3.out.trans (hBr.out.mono B3.out.size))
    have hT4 : tot l e k ≤ 4000 := Nat.le_trans (tot_mono l e hk) HTT.out
    by_cases hlk : k < l.length
    · have hk0 : (0 : Int) ≤ (k : Int) := by omega
      have hk1 : (k : Int) < (l.length : Int) := by omega
      obtain ⟨b, o, rfl, e1, c1, hs1, ht1⟩ := (HL.out.keep hBw.out).get k hlk
      have HTS := hid (tot_succ l e k hlk)
      have hTS4 : tot l e (k + 1) ≤ 4000 := Nat.le_trans (tot_mono l e hlk) HTT.out
      have HCN := hid (show ∀ W, Below wr.heap.size wr W → Calls Tryz.prog 44 #[l[k].val e1 c1] W fun e w' => e = .returned (.int .i64 (nodes l[k] : Int)) ∧ Below W.heap.size W w' from fun W h => by
        have h5 := nodes_any l[k] e1 c1 W (ht1.keep h)
        have h6 : capped (nodes l[k]) 4001 = (nodes l[k] : Int) := by unfold capped; rw [if_pos (by have := HTS.out; omega)]
        rwa [h6] at h5)
      have hnk : nodes l[k] ≤ 4000 := by have := HTS.out; omega
      clear ht1 hTS4
      have HTS2 := hid (show (tot l e (k + 1) : Int) = (tot l e k : Int) + (1 + (nodes l[k] : Int)) by have := HTS.out; omega)
      clear HTS
      generalize l[k] = t1 at *
      obtain ⟨g0, g1, g2, g3, g4, g5⟩ := hs1
      obtain ⟨Wp, hWp⟩ : ∃ Wp, Wp = wr.alloc (.cells #[.int .i64 t1.kind, .string t1.name, .string t1.num, .int .u64 t1.bits, .int .i64 t1.var, .slice e1 t1.args.length c1] 25) := ⟨_, rfl⟩
      have BP := hid (show Below wr.heap.size wr Wp by rw [hWp]; exact (Below.refl _ _).alloc (Nat.le_refl _) _)
      have HCP := hid (HCN.out Wp BP.out)
      unfold Tm.val at HCP
      clear HCN
      go_wp2_with (first
        | (go_at_call 44; rw [← hWp]; (with_reducible refine HCP.out.mono ?_); rintro x w5 ⟨rfl, hb5⟩; have B5 := hid (BP.out.trans (hb5.mono BP.out.size)); clear hb5 hWp)
        | fail)
      go_roundw
      case rel => exact ⟨k + 1, by omega, by go_num, by rw [HTS2.out], hid (hBr.out.trans (B5.out.mono hBr.out.size))⟩
      case measure => simp [intOf]; omega
    · obtain rfl : k = l.length := by omega
      have E4 := hid (obj_keep E3.out hBr.out)
      have Z4 := hid ((hBr.out.block _ (lt_of_block Z3.out)).trans Z3.out)
      have hm3 : ¬ (4000 : Int) < (tot l e l.length : Int) := by omega
      clear x0 x1 x2 x3 x4 x5 hlk
      obtain ⟨⟨x0, x1, x2, x3, x4, x5⟩, _⟩ := six_free E4.out
      go_wp2_with (first
        | (go_at_call 68; (with_reducible refine (CE.out _ hBw.out).mono ?_); rintro x w6 ⟨qe, cpe, SE, rfl, hm, hS, hb6⟩; have HME := hid hm; have HSE := hid (show ∀ x ∈ SE, wr.heap.size ≤ x from hS); have B6 := hid (hBw.out.trans (hb6.mono hBw.out.size)); have Z6 := hid ((hb6.block _ (lt_of_block Z4.out)).trans Z4.out); clear hb6 hm hS)
        | (go_at_call 71; (with_reducible refine (backward_any _ _ _ _).mono ?_); rintro e w7 ⟨rfl, hw7⟩; have HW7 := hid hw7; clear hw7)
        | fail)
      obtain ⟨K, hK⟩ : ∃ K, K = w6.heap.size := ⟨_, rfl⟩
      have hsz6 : (w6.alloc (tobj e qe cpe)).heap.size = K + 1 := by simp [hK]
      have e7 : w7 = (w6.alloc (tobj e qe cpe)).alloc (.cells #[.slice pl l.length cl] 23) := HW7.out
      have hb67 : Below w6.heap.size w6 w7 := by rw [e7]; exact ((Below.refl _ _).alloc (Nat.le_refl _) _).alloc (by simp) _
      have hs7 : w7.heap.size = K + 2 := by rw [e7]; simp [hK]
      have hK7 : w7.heap[K]? = some (tobj e qe cpe) := by rw [e7, hK]; exact obj_keep (World.alloc_heap_new w6 (tobj e qe cpe)) ((Below.refl _ _).alloc (Nat.le_refl _) _)
      have hM7 : w7.heap[K + 1]? = some (.cells #[.slice pl l.length cl] 23 (0, 0)) := by
        have h := World.alloc_heap_new (w6.alloc (tobj e qe cpe)) (.cells #[.slice pl l.length cl] 23)
        rw [hsz6] at h
        rw [e7]
        exact h
      have Z7 := hid (obj_keep Z6.out hb67)
      have B7 := hid (B6.out.trans (hb67.mono B6.out.size))
      have hwK : w.heap.size + 2 ≤ K := by have h1 := lt_of_block Z6.out; omega
      have hx : ∀ i : Fin l.length, ∃ y : Option Addr × Nat, ∃ g o, pl = some ⟨g, o, none⟩ ∧ g < w.heap.size ∧ Six w g (o + i.val * 6) l[i.val] y.1 y.2 ∧ TmAt w l[i.val] y.1 := fun i => by
        obtain ⟨g, o, e1, q1, c1, h1, h2⟩ := HL.out.get i.val i.isLt
        exact ⟨(q1, c1), g, o, e1, by simpa using World.block_lt_of_cell? w _ h1.c0, h1, h2⟩
      obtain ⟨xs, hxs⟩ : ∃ xs : Fin l.length → El, ∀ i, (xs i).1 = l[i.val] ∧ TmAt w (xs i).1 (xs i).2.1 ∧ ∃ g o, pl = some ⟨g, o, none⟩ ∧ g < w.heap.size ∧ Six w g (o + i.val * 6) (xs i).1 (xs i).2.1 (xs i).2.2 :=
        ⟨fun i => (l[i.val], Classical.choose (hx i)), fun i => by obtain ⟨g, o, h1, h2, h3, h4⟩ := Classical.choose_spec (hx i); exact ⟨rfl, h4, g, o, h1, h2, h3⟩⟩
      have hRN : RowN w7 K pl xs := fun i => by
        obtain ⟨_, _, g, o, h1, h2, h3⟩ := hxs i
        exact ⟨g, o, h1, by omega, h3.keep B7.out⟩
      have HXS := hid hxs
      have C4 := hid (show ∀ (i : Fin l.length) (W : World), Below w.heap.size w W → Calls Tryz.prog 68 #[(xs i).1.val (xs i).2.1 (xs i).2.2] W fun x w' => ∃ q c S, x = .returned ((xs i).1.val q c) ∧ MineT w' (xs i).1 q c S ∧ (∀ k ∈ S, W.heap.size ≤ k) ∧ Below W.heap.size W w' from fun i W h => copyOf_any _ _ _ W ((HXS.out i).2.1.keep h) (by rw [(HXS.out i).1]; exact HCL.out i.val i.isLt))
      have hME := hid (show BoxM w7 K (w.heap.size + 2) e from ⟨qe, cpe, SE, hK7, HME.out.same fun x hx => hb67.block x (HME.out.lt x hx), fun x hx => ⟨by have := HSE.out x hx; have := lt_of_block Z4.out; omega, by have := HME.out.lt x hx; omega⟩⟩)
      rw [← hK]
      clear e7 hb67 HW7 hK hx hxs
      rw [← wpIn_wide (n := 6)]
      refine wpIn_rangeFunc_ownH rfl (by omega) (gf := 99) (lb := #[.pointer (some ⟨K + 1, 0, none⟩)]) rfl trivial (enters_of Tryz.func99 (by kernel_rfl) rfl)
        (backN_stops 5 (by omega) (K + 1) K l.length cl (by unfold maxLen; omega) pl xs w7 hM7 hRN (by omega)) lv_t (fun W l o o' _ h hc _ => lv_b K W l o o' h hc) (Below.refl _ _) (fun x => rfl)
        (fun pre W => Held K w7 W ∧ BoxM W K (w.heap.size + 2) (accN xs e pre))
        (fun _ _ _ => False)
        (OwnFrom.and held_own (boxM_own _))
        (fun _ _ _ _ _ hs _ _ => hs)
        ⟨Held.refl _ _, hME.out⟩
        (fun x a' W => ∃ Bx, w7.heap.size ≤ Bx ∧ W.heap[Bx]? = some (tobj (xs x).1 (xs x).2.1 (xs x).2.2) ∧ a' = { tmps := #[(.slice pl l.length cl), (.agg #[.int .i64 e.kind, .string e.name, .string e.num, .int .u64 e.bits, .int .i64 e.var, .slice pe e.args.length ce]), undef, (.pointer (some ⟨w.heap.size, 0, none⟩)), (.pointer (some ⟨w.heap.size + 1, 0, none⟩)), (.int .i64 0), (.int .i64 0), (.int .i64 0), (.int .i64 (tot l e l.length : Int)), undef, u10, (.pointer (some ⟨K, 0, none⟩)), undef, (.pointer (some ⟨Bx, 0, none⟩)), (.slice pl l.length cl), (.int .i64 0), (.int .i64 0), (.bool false), undef, undef, (.agg #[.int .i64 e.kind, .string e.name, .string e.num, .int .u64 e.bits, .int .i64 e.var, .slice pe e.args.length ce]), (.int .i64 0), (.int .i64 0), (.bool false), undef, undef, (.agg #[.int .i64 e.kind, .string e.name, .string e.num, .int .u64 e.bits, .int .i64 e.var, .slice pe e.args.length ce]), (.int .i64 (tot l e 0 : Int)), (.slice pl l.length cl), (.int .i64 (l.length : Int)), (.int .i64 (l.length : Int)), (.bool false), u32, u33, u34, u35, u36, u37, u38, u39, (.int .i64 (tot l e l.length : Int)), (.bool false), undef, (.agg #[.int .i64 e.kind, .string e.name, .string e.num, .int .u64 e.bits, .int .i64 e.var, .slice pe e.args.length ce]), (.agg #[.int .i64 e.kind, .string e.name, .string e.num, .int .u64 e.bits, .int .i64 e.var, .slice qe e.args.length cpe]), (.slice pl l.length cl), (.func (.func 99) #[] #[.pointer (some ⟨K + 1, 0, none⟩)]), (.int .i64 (x.val : Int)), (.agg #[.int .i64 (xs x).1.kind, .string (xs x).1.name, .string (xs x).1.num, .int .u64 (xs x).1.bits, .int .i64 (xs x).1.var, .slice (xs x).2.1 (xs x).1.args.length (xs x).2.2]), undef, undef, undef, undef, undef, undef], defers := [] })
        (fun x a' _ X Y row hs hg hr => by obtain ⟨Bx, h1, h2, h3⟩ := hs; exact ⟨Bx, h1, block_own (β := Unit) Bx _ rfl () X Y row h2 hg (fun r e => (hr r e).2), h3⟩)
        ?assign ?body ?done ?stop
      case assign =>
        rintro l' pre x W K' ⟨hH, hBx⟩ hK'
        obtain ⟨p, cp, S, hp, ht, hS⟩ := hBx
        have hlv : ∀ o, Lv K W (W.alloc o) := fun o => Lv.of_below ((Below.refl _ _).alloc (Nat.le_refl _) o)
        have hal : ∀ o, Held K w7 (W.alloc o) := fun o => hH.trans (Held.of_below ((Below.refl _ _).alloc (Nat.le_refl _) o))
        have hbx : ∀ o, BoxM (W.alloc o) K (w.heap.size + 2) (accN xs e pre) := fun o => ⟨p, cp, S, obj_keep hp ((Below.refl _ _).alloc (Nat.le_refl _) o), ht.same fun x hx => ((Below.refl W.heap.size W).alloc (Nat.le_refl _) o).block x (ht.lt x hx), hS⟩
        simp only [encN, El.val, Tm.val] at hK' ⊢
        gi_wp2_with (rw [Oper.semAt_eq _ _ _ (fun c h => by cases h)]; go_simp; try go_bits)
        exact hK' _ _ ((KeepsOthers.alloc _ _).from _) (hlv _) ⟨hal _, hbx _⟩ ⟨W.heap.size, hH.size, World.alloc_heap_new W _, rfl⟩
      case body =>
        rintro l' pre x a' W hl ⟨r, hr⟩ ⟨hH, p, cp, S, hp, ht, hSS⟩ ⟨Bx, hBx, bX, rfl⟩ hlt
        have hC4 := C4.out x
        generalize hacc : accN xs e pre = acc at *
        have hsnoc := accN_snoc xs e pre x
        rw [hacc] at hsnoc
        generalize hsx : xs x = y at *
        obtain ⟨sx, ex, cx⟩ := y
        simp only at hC4 hsnoc bX
        have BW7 : Below w.heap.size w W := B7.out.trans ⟨hH.os, hH.tape, hH.output, hH.size, fun k hk => hH.same k (by have := B7.out.size; omega) (by omega)⟩
        have C4 := hid (fun (V : World) (h : Below W.heap.size W V) => hC4 V (BW7.trans (h.mono BW7.size)))
        have hS := hid hsnoc
        unfold Tm.val at C4
        clear hsnoc hacc hsx hC4
        have hmix : Tryz.prog.follows .mixedOrders = true := by kernel_rfl
        have HPK := hid hp
        have HMK := hid ht
        have HSK := hid hSS
        have HH := hid hH
        have hKb : K ≠ Bx := by omega
        have hKw : K < w7.heap.size := by omega
        have hKl := lt_of_block hp
        obtain ⟨⟨x0, x1, x2, x3, x4, x5⟩, _⟩ := six_free (show W.heap[Bx]? = some (.cells #[.int .i64 sx.kind, .string sx.name, .string sx.num, .int .u64 sx.bits, .int .i64 sx.var, .slice ex sx.args.length cx] 25 (0, 0)) from bX)
        obtain ⟨⟨y0, y1, y2, y3, y4, y5⟩, _⟩ := six_free (show W.heap[K]? = some (.cells #[.int .i64 acc.kind, .string acc.name, .string acc.num, .int .u64 acc.bits, .int .i64 acc.var, .slice p acc.args.length cp] 25 (0, 0)) from hp)
        clear hp ht hH bX hSS BW7
        gi_wp2
        refine round_any (by kernel_rfl) (by kernel_rfl) ?_
        refine wpAny_ready (rs := [0, 2]) (by kernel_rfl) (by simp) ?_
        refine AllReady.cons rfl (fun K' hK' => ?_) ?_
        · go_simp
          refine hK' _ _ ?_
          clear hK' K'
          (try simp only [Act.put, List.setIfInBounds_toArray, List.set_cons_zero, List.set_cons_succ])
          refine wpAny_ready (rs := [1, 2]) (by kernel_rfl) (by simp) ?_
          refine AllReady.cons rfl (fun K' hK' => ?_) ?_
          · go_simp
            go_at_call 68
            (with_reducible refine (C4.out _ (Below.refl W.heap.size W).drew).mono ?_)
            rintro x w8 ⟨q8, c8, S8, rfl, hm8, hS8, hb8⟩
            have B8 := hid hb8
            have HM8 := hid hm8
            have HS8 := hid (show ∀ x ∈ S8, W.heap.size ≤ x from hS8)
            have H8 := hid (show w8.heap[K]? = some (.cells #[.int .i64 acc.kind, .string acc.name, .string acc.num, .int .u64 acc.bits, .int .i64 acc.var, .slice p acc.args.length cp] 25 (0, 0)) from obj_keep (show W.drew.heap[K]? = some (tobj acc p cp) from HPK.out) hb8)
            have H9 := hid (show (w8.alloc (.cells #[.int .i64 sx.kind, .string sx.name, .string sx.num, .int .u64 sx.bits, .int .i64 sx.var, .slice q8 sx.args.length c8, .int .i64 acc.kind, .string acc.name, .string acc.num, .int .u64 acc.bits, .int .i64 acc.var, .slice p acc.args.length cp] 25)).heap[K]? = some (.cells #[.int .i64 acc.kind, .string acc.name, .string acc.num, .int .u64 acc.bits, .int .i64 acc.var, .slice p acc.args.length cp] 25 (0, 0)) from obj_keep H8.out ((Below.refl _ _).alloc (Nat.le_refl _) _))
            obtain ⟨⟨z0, z1, z2, z3, z4, z5⟩, _⟩ := six_free H8.out
            obtain ⟨⟨t0, t1, t2, t3, t4, t5⟩, ⟨f0, f1, f2, f3, f4, f5⟩⟩ := six_free H9.out
            clear hb8 hm8 hS8
            refine hK' _ _ ?_
            clear hK' K'
            (try simp only [Act.put, List.setIfInBounds_toArray, List.set_cons_zero, List.set_cons_succ])
            refine wpAny_ready (rs := [2]) (by kernel_rfl) (by simp) ?_
            refine AllReady.cons rfl (fun K' hK' => ?_) AllReady.nil
            go_simp
            refine hK' _ _ ?_
            clear hK' K'
            (try simp only [Act.put, List.setIfInBounds_toArray, List.set_cons_zero, List.set_cons_succ])
            refine wpAny_ready (rs := [3]) (by kernel_rfl) (by simp) ?_
            refine AllReady.cons rfl (fun K' hK' => ?_) AllReady.nil
            go_simp
            refine hK' _ _ ?_
            clear hK' K'
            (try simp only [Act.put, List.setIfInBounds_toArray, List.set_cons_zero, List.set_cons_succ])
            refine wpAny_ready (rs := [4]) (by kernel_rfl) (by simp) ?_
            refine AllReady.cons rfl (fun K' hK' => ?_) AllReady.nil
            go_simp
            refine hK' _ _ ?_
            clear hK' K'
            (try simp only [Act.put, List.setIfInBounds_toArray, List.set_cons_zero, List.set_cons_succ])
            refine wpAny_ready (rs := [5]) (by kernel_rfl) (by simp) ?_
            refine AllReady.cons rfl (fun K' hK' => ?_) AllReady.nil
            go_simp
            refine hK' _ _ ?_
            clear hK' K'
            refine wpAny_done (by kernel_rfl) ?_ _
            refine ⟨rfl, ?_⟩
            have hE := body_endM (B := w.heap.size + 2) (acc := acc) (sx := sx) hKw (by omega) HPK.out HMK.out HSK.out HH.out (((Below.refl W.heap.size W).drew).trans B8.out) HM8.out HS8.out _ rfl
            rw [← hS.out] at hE
            exact hE
          refine AllReady.cons rfl (fun K' hK' => ?_) AllReady.nil
          go_simp
          refine hK' _ _ ?_
          clear hK' K'
          (try simp only [Act.put, List.setIfInBounds_toArray, List.set_cons_zero, List.set_cons_succ])
          refine wpAny_ready (rs := [1]) (by kernel_rfl) (by simp) ?_
          refine AllReady.cons rfl (fun K' hK' => ?_) AllReady.nil
          go_simp
          go_at_call 68
          (with_reducible refine (C4.out _ (Below.refl W.heap.size W).drew).mono ?_)
          rintro x w8 ⟨q8, c8, S8, rfl, hm8, hS8, hb8⟩
          have B8 := hid hb8
          have HM8 := hid hm8
          have HS8 := hid (show ∀ x ∈ S8, W.heap.size ≤ x from hS8)
          have H8 := hid (show w8.heap[K]? = some (.cells #[.int .i64 acc.kind, .string acc.name, .string acc.num, .int .u64 acc.bits, .int .i64 acc.var, .slice p acc.args.length cp] 25 (0, 0)) from obj_keep (show W.drew.heap[K]? = some (tobj acc p cp) from HPK.out) hb8)
          have H9 := hid (show (w8.alloc (.cells #[.int .i64 sx.kind, .string sx.name, .string sx.num, .int .u64 sx.bits, .int .i64 sx.var, .slice q8 sx.args.length c8, .int .i64 acc.kind, .string acc.name, .string acc.num, .int .u64 acc.bits, .int .i64 acc.var, .slice p acc.args.length cp] 25)).heap[K]? = some (.cells #[.int .i64 acc.kind, .string acc.name, .string acc.num, .int .u64 acc.bits, .int .i64 acc.var, .slice p acc.args.length cp] 25 (0, 0)) from obj_keep H8.out ((Below.refl _ _).alloc (Nat.le_refl _) _))
          obtain ⟨⟨z0, z1, z2, z3, z4, z5⟩, _⟩ := six_free H8.out
          obtain ⟨⟨t0, t1, t2, t3, t4, t5⟩, ⟨f0, f1, f2, f3, f4, f5⟩⟩ := six_free H9.out
          clear hb8 hm8 hS8
          refine hK' _ _ ?_
          clear hK' K'
          (try simp only [Act.put, List.setIfInBounds_toArray, List.set_cons_zero, List.set_cons_succ])
          refine wpAny_ready (rs := [3]) (by kernel_rfl) (by simp) ?_
          refine AllReady.cons rfl (fun K' hK' => ?_) AllReady.nil
          go_simp
          refine hK' _ _ ?_
          clear hK' K'
          (try simp only [Act.put, List.setIfInBounds_toArray, List.set_cons_zero, List.set_cons_succ])
          refine wpAny_ready (rs := [4]) (by kernel_rfl) (by simp) ?_
          refine AllReady.cons rfl (fun K' hK' => ?_) AllReady.nil
          go_simp
          refine hK' _ _ ?_
          clear hK' K'
          (try simp only [Act.put, List.setIfInBounds_toArray, List.set_cons_zero, List.set_cons_succ])
          refine wpAny_ready (rs := [5]) (by kernel_rfl) (by simp) ?_
          refine AllReady.cons rfl (fun K' hK' => ?_) AllReady.nil
          go_simp
          refine hK' _ _ ?_
          clear hK' K'
          refine wpAny_done (by kernel_rfl) ?_ _
          refine ⟨rfl, ?_⟩
          have hE := body_endM (B := w.heap.size + 2) (acc := acc) (sx := sx) hKw (by omega) HPK.out HMK.out HSK.out HH.out (((Below.refl W.heap.size W).drew).trans B8.out) HM8.out HS8.out _ rfl
          rw [← hS.out] at hE
          exact hE
        refine AllReady.cons rfl (fun K' hK' => ?_) AllReady.nil
        go_simp
        refine hK' _ _ ?_
        clear hK' K'
        (try simp only [Act.put, List.setIfInBounds_toArray, List.set_cons_zero, List.set_cons_succ])
        refine wpAny_ready (rs := [0]) (by kernel_rfl) (by simp) ?_
        refine AllReady.cons rfl (fun K' hK' => ?_) AllReady.nil
        go_simp
        refine hK' _ _ ?_
        clear hK' K'
        (try simp only [Act.put, List.setIfInBounds_toArray, List.set_cons_zero, List.set_cons_succ])
        refine wpAny_ready (rs := [1]) (by kernel_rfl) (by simp) ?_
        refine AllReady.cons rfl (fun K' hK' => ?_) AllReady.nil
        go_simp
        go_at_call 68
        (with_reducible refine (C4.out _ (Below.refl W.heap.size W).drew).mono ?_)
        rintro x w8 ⟨q8, c8, S8, rfl, hm8, hS8, hb8⟩
        have B8 := hid hb8
        have HM8 := hid hm8
        have HS8 := hid (show ∀ x ∈ S8, W.heap.size ≤ x from hS8)
        have H8 := hid (show w8.heap[K]? = some (.cells #[.int .i64 acc.kind, .string acc.name, .string acc.num, .int .u64 acc.bits, .int .i64 acc.var, .slice p acc.args.length cp] 25 (0, 0)) from obj_keep (show W.drew.heap[K]? = some (tobj acc p cp) from HPK.out) hb8)
        have H9 := hid (show (w8.alloc (.cells #[.int .i64 sx.kind, .string sx.name, .string sx.num, .int .u64 sx.bits, .int .i64 sx.var, .slice q8 sx.args.length c8, .int .i64 acc.kind, .string acc.name, .string acc.num, .int .u64 acc.bits, .int .i64 acc.var, .slice p acc.args.length cp] 25)).heap[K]? = some (.cells #[.int .i64 acc.kind, .string acc.name, .string acc.num, .int .u64 acc.bits, .int .i64 acc.var, .slice p acc.args.length cp] 25 (0, 0)) from obj_keep H8.out ((Below.refl _ _).alloc (Nat.le_refl _) _))
        obtain ⟨⟨z0, z1, z2, z3, z4, z5⟩, _⟩ := six_free H8.out
        obtain ⟨⟨t0, t1, t2, t3, t4, t5⟩, ⟨f0, f1, f2, f3, f4, f5⟩⟩ := six_free H9.out
        clear hb8 hm8 hS8
        refine hK' _ _ ?_
        clear hK' K'
        (try simp only [Act.put, List.setIfInBounds_toArray, List.set_cons_zero, List.set_cons_succ])
        refine wpAny_ready (rs := [3]) (by kernel_rfl) (by simp) ?_
        refine AllReady.cons rfl (fun K' hK' => ?_) AllReady.nil
        go_simp
        refine hK' _ _ ?_
        clear hK' K'
        (try simp only [Act.put, List.setIfInBounds_toArray, List.set_cons_zero, List.set_cons_succ])
        refine wpAny_ready (rs := [4]) (by kernel_rfl) (by simp) ?_
        refine AllReady.cons rfl (fun K' hK' => ?_) AllReady.nil
        go_simp
        refine hK' _ _ ?_
        clear hK' K'
        (try simp only [Act.put, List.setIfInBounds_toArray, List.set_cons_zero, List.set_cons_succ])
        refine wpAny_ready (rs := [5]) (by kernel_rfl) (by simp) ?_
        refine AllReady.cons rfl (fun K' hK' => ?_) AllReady.nil
        go_simp
        refine hK' _ _ ?_
        clear hK' K'
        refine wpAny_done (by kernel_rfl) ?_ _
        refine ⟨rfl, ?_⟩
        have hE := body_endM (B := w.heap.size + 2) (acc := acc) (sx := sx) hKw (by omega) HPK.out HMK.out HSK.out HH.out (((Below.refl W.heap.size W).drew).trans B8.out) HM8.out HS8.out _ rfl
        rw [← hS.out] at hE
        exact hE
      case done =>
        rintro Dd ys W hDd hys ⟨hH, p, cp, S, hp, ht, hSS⟩ hKD
        subst hys
        have hall := accN_all xs e (fun i => (HXS.out i).1) l.length 0 (by omega)
        rw [List.drop_zero] at hall
        obtain ⟨tt, htt⟩ : ∃ tt, tt = listT l e := ⟨_, rfl⟩
        rw [hall, ← htt] at hp ht
        have HTOT := hid htt
        clear htt hall
        have HZ := hid (show W.heap[w.heap.size + 1]? = some (.cells #[.int .i64 0, .string ⟨#[]⟩, .string ⟨#[]⟩, .int .u64 0, .int .i64 0, .slice none 0 0] 25 (0, 0)) from hH.block Z7.out (by omega))
        obtain ⟨⟨z0, z1, z2, z3, z4, z5⟩, ⟨f0, f1, f2, f3, f4, f5⟩⟩ := six_free HZ.out
        obtain ⟨⟨y0, y1, y2, y3, y4, y5⟩, _⟩ := six_free (show W.heap[K]? = some (.cells #[.int .i64 tt.kind, .string tt.name, .string tt.num, .int .u64 tt.bits, .int .i64 tt.var, .slice p tt.args.length cp] 25 (0, 0)) from hp)
        have HP := hid hp
        have HT := hid ht
        have HH := hid hH
        have HD := hid hKD
        have HS := hid hSS
        clear hp ht hH hKD hSS x0 x1 x2 x3 x4 x5
        go_wp2
        obtain ⟨e1, e2, e3, e4⟩ := list_endM (by omega) hwK HT.out HS.out HH.out B7.out HZ.out hDd HD.out _ rfl
        refine ⟨by simp, .inl ⟨_, _, rfl, run_takeDeferred e1, ?_⟩⟩
        refine ⟨_, results_pair (b := w.heap.size + 1) (t := tt) (q := p) (cap := cp) rfl _ _ _ ⟨by rfl, by rfl⟩ e2, p, cp, S, by rw [← HTOT.out]; rfl, by rw [← HTOT.out]; exact e3, fun k hk => by have := (HS.out k hk).1; omega, e4⟩
      case stop =>
        rintro Dd c pre W _ _ h _
        exact h.elim
end Go.Proofs.YtkapejcbmonfkaaGreatDoor
