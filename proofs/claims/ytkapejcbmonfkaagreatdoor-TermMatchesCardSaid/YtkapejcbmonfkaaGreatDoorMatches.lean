/- For every input the law TermMatches answers true and leaves its arguments alone: no condition on the arguments; the package-level tables that its row lists are tied to the program's text by the given tie. -/
import Derived.Test.YtkapejcbmonfkaaGreatDoorT113m
import Derived.Test.YtkapejcbmonfkaaGreatDoorT112m
import Derived.Test.YtkapejcbmonfkaaGreatDoorT85m
import Derived.Deep.DeepWitnessRowRef
namespace Go.Proofs.YtkapejcbmonfkaaGreatDoor
open Go.RowKit

mutual
theorem matT_length : ∀ (t u : Tm) (S S' : List Bnd), matT t u S = some S' → S'.length ≤ S.length + nodes t
  | .mk k n u b v l, t, S, S', e => by
    rw [matT] at e
    split at e
    · split at e
      · split at e
        · obtain rfl := Option.some.inj e; omega
        · cases e
      · obtain rfl := Option.some.inj e
        rw [insB_length]
        have := nodes_pos (.mk k n u b v l)
        omega
    · split at e
      · have := matL_length l t.args S S' e
        unfold nodes
        omega
      · cases e
theorem matL_length : ∀ (l m : List Tm) (S S' : List Bnd), matL l m S = some S' → S'.length ≤ S.length + nodesL l
  | [], _, S, S', e => by rw [matL] at e; obtain rfl := Option.some.inj e; omega
  | _ :: _, [], S, S', e => by rw [matL] at e; cases e
  | t :: l, u :: m, S, S', e => by
    rw [matL] at e
    split at e
    · cases e
    · rename_i S2 h2
      have h3 := matT_length t u S S2 h2
      have h4 := matL_length l m S2 S' e
      unfold nodesL
      omega
end
theorem nodesL_drop : ∀ (l : List Tm) (k : Nat) (h : k < l.length), nodesL (l.drop k) = nodes l[k] + nodesL (l.drop (k + 1))
  | [], k, h => by simp at h
  | t :: l, 0, _ => by simp [nodesL]
  | t :: l, k + 1, h => by
    have := nodesL_drop l k (by simpa using h)
    simpa using this
theorem caps_few : ∀ (d : Nat) (t : Tm), nodes t ≤ d → Good t → AllT CapOk t
  | 0, t, h, _ => by have := nodes_pos t; omega
  | d + 1, t, h, hg => AllT.of (show t.args.length ≤ 1759218604390 by have := hg.few; omega) fun u hu => caps_few d u (by have := (hg.arg u hu).2; omega) (hg.arg u hu).1
/-- What the document's Match leaves: the binds lie from a block on. -/
def MatQ (B : Nat) (w : World) : Option (List Bnd) → Ending → World → Prop
  | some m, e, w' => (∃ q c, e = .returned (.tuple #[.slice q m.length c, .bool true]) ∧ m.length ≤ c ∧ BindHi w' B m q ∧ LstQ m q c) ∧ Below w.heap.size w w'
  | none, e, w' => (∃ q n c, e = .returned (.tuple #[.slice q n c, .bool false])) ∧ Below w.heap.size w w'
set_option maxRecDepth 100000 in
set_option maxHeartbeats 16000000 in
theorem matchR_any (d : Nat) : ∀ (t u : Tm) (p q : Option Addr) (cp cq : Nat) (l : List Bnd) (ql : Option Addr) (cl B : Nat) (w : World), nodes t ≤ d → TmAt w t p → TmAt w u q → Good t → Good u → BindHi w B l ql → LstQ l ql cl → Rises l → l.length + nodes t ≤ 1000000 → l.length ≤ cl → B ≤ w.heap.size →
    Calls Tryz.prog 38 #[t.val p cp, u.val q cq, .slice ql l.length cl] w fun e w' => MatQ B w (matT t u l) e w' := by
  induction d with
  | zero => intro t u p q cp cq l ql cl B w h; have := nodes_pos t; omega
  | succ d ih =>
    intro t u p q cp cq l ql cl B w hd hT hU gt gu hl hq hr hlm hlc hB0
    obtain ⟨W0, hW0⟩ : ∃ W0, W0 = (w.alloc (tobj t p cp)).alloc (tobj u q cq) := ⟨_, rfl⟩
    have hB := hid (show Below w.heap.size w W0 by rw [hW0]; exact ((Below.refl w.heap.size w).alloc (Nat.le_refl _) _).alloc (by simp) _)
    have HS2 := hid (show W0.heap[w.heap.size + 1]? = some (tobj u q cq) by rw [hW0]; have h := heap_alloc_new (w.alloc (tobj t p cp)) (tobj u q cq); rwa [World.size_alloc] at h)
    have HS1 := hid (show W0.heap[w.heap.size]? = some (tobj t p cp) by rw [hW0]; exact (heap_alloc_old (w.alloc (tobj t p cp)) _ (by simp)).trans (heap_alloc_new w _))
    have HT := hid (hT.keep hB.out)
    have HU := hid (hU.keep hB.out)
    have HL := hid (hl.keep hB.out)
    have hBz := hid (show B ≤ W0.heap.size from Nat.le_trans hB0 hB.out.size)
    have HNE := hid (fun k (h : k < t.args.length) => (show nodes t.args[k] ≤ d by have := nodes_lt h; omega))
    have GT := hid (fun k (h : k < t.args.length) => (gt.arg t.args[k] (List.getElem_mem h)).1)
    have GU := hid (fun k (h : k < u.args.length) => (gu.arg u.args[k] (List.getElem_mem h)).1)
    have hlt := hT.len
    have hlu := hU.len
    unfold maxLen at hlt hlu
    have hlm' : (l.length : Int) ≤ 1000000 := by omega
    have hlmN := hid hlm
    have hnt := hid (show nodes t = nodesL t.args + 1 from nodes_args t)
    obtain ⟨x0, x1, x2, x3, x4, x5⟩ := six_of HS1.out
    obtain ⟨y0, y1, y2, y3, y4, y5⟩ := six_of HS2.out
    have SX := hid (show ∀ W : World, Below W0.heap.size W0 W → (W.cell? ⟨w.heap.size, 5, none⟩ = some (.slice p t.args.length cp) ∧ W.cell? ⟨w.heap.size + 1, 5, none⟩ = some (.slice q u.args.length cq)) from fun W h =>
      ⟨(six_of (obj_keep HS1.out h)).c5, (six_of (obj_keep HS2.out h)).c5⟩)
    have CF := hid (found_any l ql cl t.var W0 HL.out.at_ (by omega))
    have CO := hid (fun W (h : TmAt W u q) => ownW_any (nodes u) u q cq W (Nat.le_refl _) h (caps_few (nodes u) u (Nat.le_refl _) gu))
    obtain ⟨r, hr0⟩ : ∃ r, r = matT t u l := ⟨_, rfl⟩
    rw [← hr0]
    have HR := hid hr0
    have HRi := hid hr
    clear hr0 hT hU hl hB0 hlm hr
    unfold tobj at hW0
    unfold Tm.val at ih CO ⊢
    have IH := hid ih
    clear ih
    by_cases hk1 : t.kind = 1
    · have HRV := hid (HR.out.trans (matT_var hk1))
      clear HR IH HNE GT GU SX HT hnt
      have hkk : (t.kind == 1) = true := by simp [hk1]
      clear hk1
      have GU6 := hid (show ∀ W : World, Below W0.heap.size W0 W → (W.cell? ⟨w.heap.size, 4, none⟩ = some (.int .i64 t.var) ∧ W.cell? ⟨w.heap.size + 1, 0, none⟩ = some (.int .i64 u.kind) ∧ W.cell? ⟨w.heap.size + 1, 1, none⟩ = some (.string u.name) ∧ W.cell? ⟨w.heap.size + 1, 2, none⟩ = some (.string u.num) ∧ W.cell? ⟨w.heap.size + 1, 3, none⟩ = some (.int .u64 u.bits) ∧ W.cell? ⟨w.heap.size + 1, 4, none⟩ = some (.int .i64 u.var) ∧ W.cell? ⟨w.heap.size + 1, 5, none⟩ = some (.slice q u.args.length cq)) from fun W h =>
        have m1 := six_of (obj_keep HS1.out h)
        have m2 := six_of (obj_keep HS2.out h)
        ⟨m1.c4, m2.c0, m2.c1, m2.c2, m2.c3, m2.c4, m2.c5⟩)
      have CI := hid (fun (W : World) (q2 : Option Addr) (c2 : Nat) (h : BindHi W B l ql) (hu : TmHi W B u q2) (hz : B ≤ W.heap.size) => into_all l ql cl t.var u q2 c2 W B h hq HRi.out hu hz (by omega) hlc)
      have hW0' : W0 = (w.alloc (.cells #[.int .i64 t.kind, .string t.name, .string t.num, .int .u64 t.bits, .int .i64 t.var, .slice p t.args.length cp] 25)).alloc (.cells #[.int .i64 u.kind, .string u.name, .string u.num, .int .u64 u.bits, .int .i64 u.var, .slice q u.args.length cq] 25) := hW0
      cases hlk : lookB l t.var with
      | some ol =>
        have hfv : foundV l t.var = ol := by unfold foundV; rw [hlk]; rfl
        rw [hfv, hlk] at CF
        rw [hlk] at HRV
        have CF := hid (show Calls Tryz.prog 69 #[.slice ql l.length cl, .int .i64 t.var] W0 fun e w' => ∃ p c, e = .returned (.tuple #[.agg #[.int .i64 ol.kind, .string ol.name, .string ol.num, .int .u64 ol.bits, .int .i64 ol.var, .slice p ol.args.length c], .bool true]) ∧ TmAt W0 ol p ∧ Below W0.heap.size W0 w' from CF.out.mono fun e w' ⟨p, c, h1, h2, h3⟩ => ⟨p, c, h1, h2 ol rfl, h3⟩)
        have CSM := hid (fun (W : World) (p2 : Option Addr) (c2 : Nat) (h1 : TmAt W ol p2) (h2 : TmAt W u q) => same_any (nodes ol) ol u p2 q c2 cq W (Nat.le_refl _) h1 h2)
        have HRZ := hid (show r = if sameT ol u = true then some l else none from HRV.out)
        unfold Tm.val at CSM
        generalize sameT ol u = z at *
        clear hfv hlk HRV CO CI hW0
        go_enter Tryz.func38, Tryz.ntmps38
        go_upto_region 1 with fail
        rw [← hW0']
        clear hW0'
        go_upto_region 3 with (go_at_call 69; (with_reducible refine CF.out.mono ?_); rintro e w2 ⟨p2, c2, rfl, hT2, hb⟩; clear x0 x1 x2 x3 x4 x5 y0 y1 y2 y3 y4 y5 CF; have B2 := hid hb; have HT2 := hid (hT2.keep hb); clear hb hT2)
        obtain ⟨W3, hW3⟩ : ∃ W3, W3 = w2.alloc (.cells #[.int .i64 ol.kind, .string ol.name, .string ol.num, .int .u64 ol.bits, .int .i64 ol.var, .slice p2 ol.args.length c2] 25) := ⟨_, rfl⟩
        rw [← hW3]
        have A3 := hid (show Below w2.heap.size w2 W3 by rw [hW3]; exact (Below.refl _ _).alloc (Nat.le_refl _) _)
        have P03 := hid (show W3.heap[w2.heap.size]? = some (tobj ol p2 c2) by rw [hW3]; exact heap_alloc_new w2 _)
        clear hW3
        have B3 := hid (B2.out.trans (A3.out.mono B2.out.size))
        have C3 := hid (CSM.out W3 p2 c2 (HT2.out.keep A3.out) (HU.out.keep B3.out))
        obtain ⟨x0, x1, x2, x3, x4, x5⟩ := six_of P03.out
        obtain ⟨y4', y0, y1, y2, y3, y4, y5⟩ := GU6.out W3 B3.out
        go_wp2_with (go_at_call 25; (with_reducible refine C3.out.mono ?_); rintro e w4 ⟨rfl, hb⟩; have B4 := hid (B3.out.trans (hb.mono B3.out.size)); clear hb)
        go_ret2
        rw [HRZ.out]
        cases z
        · exact ⟨⟨ql, l.length, cl, rfl⟩, hB.out.trans (B4.out.mono hB.out.size)⟩
        · exact ⟨⟨ql, cl, rfl, hlc, HL.out.keep B4.out, hq⟩, hB.out.trans (B4.out.mono hB.out.size)⟩
      | none =>
        have hfv : foundV l t.var = leaf 0 ⟨#[]⟩ ⟨#[]⟩ 0 := by unfold foundV; rw [hlk]; rfl
        rw [hfv, hlk] at CF
        rw [hlk] at HRV
        have CF := hid (show Calls Tryz.prog 69 #[.slice ql l.length cl, .int .i64 t.var] W0 fun e w' => ∃ p c, e = .returned (.tuple #[.agg #[.int .i64 0, .string ⟨#[]⟩, .string ⟨#[]⟩, .int .u64 0, .int .i64 0, .slice p 0 c], .bool false]) ∧ Below W0.heap.size W0 w' from CF.out.mono fun e w' ⟨p, c, h1, h2, h3⟩ => ⟨p, c, h1, h3⟩)
        have HRZ := hid (show r = some (insB l (t.var, u)) from HRV.out)
        have HZL := hid (insB_length l (t.var, u))
        clear hfv hlk HRV hW0
        generalize t.var = tv at *
        go_enter Tryz.func38, Tryz.ntmps38
        go_upto_region 1 with fail
        rw [← hW0']
        clear hW0'
        go_upto_region 3 with (go_at_call 69; (with_reducible refine CF.out.mono ?_); rintro e w2 ⟨p2, c2, rfl, hb⟩; clear x0 x1 x2 x3 x4 x5 y0 y1 y2 y3 y4 y5 CF; have B2 := hid hb; clear hb)
        obtain ⟨W3, hW3⟩ : ∃ W3, W3 = w2.alloc (.cells #[.int .i64 0, .string ⟨#[]⟩, .string ⟨#[]⟩, .int .u64 0, .int .i64 0, .slice p2 0 c2] 25) := ⟨_, rfl⟩
        rw [← hW3]
        have A3 := hid (show Below w2.heap.size w2 W3 by rw [hW3]; exact (Below.refl _ _).alloc (Nat.le_refl _) _)
        clear hW3
        have B3 := hid (B2.out.trans (A3.out.mono B2.out.size))
        have R3 := hid (Below.refl W3.heap.size W3)
        have SR := hid (fun (W : World) (h : Below W3.heap.size W3 W) => GU6.out W (bl_call B3.out h))
        have sr := SR.out W3 R3.out
        have CO3 := hid (fun (W : World) (h : Below W3.heap.size W3 W) => CO.out W (HU.out.keep (bl_call B3.out h)))
        go_wp2_with fail
        go_region_held3 (fun W => W.cell? ⟨w.heap.size, 4, none⟩ = some (.int .i64 tv) ∧ W.cell? ⟨w.heap.size + 1, 0, none⟩ = some (.int .i64 u.kind) ∧ W.cell? ⟨w.heap.size + 1, 1, none⟩ = some (.string u.name) ∧ W.cell? ⟨w.heap.size + 1, 2, none⟩ = some (.string u.num) ∧ W.cell? ⟨w.heap.size + 1, 3, none⟩ = some (.int .u64 u.bits) ∧ W.cell? ⟨w.heap.size + 1, 4, none⟩ = some (.int .i64 u.var) ∧ W.cell? ⟨w.heap.size + 1, 5, none⟩ = some (.slice q u.args.length cq))
          (first
            | (with_reducible exact sr)
            | (with_reducible exact SR.out _ (bl_drew R3.out))
            | (with_reducible exact SR.out _ D5.out)
            | (with_reducible exact SR.out _ D4.out)
            | fail)
          ((first
            | (go_at_call 22; (with_reducible refine (CO3.out _ (bl_drew R3.out)).mono ?_); rintro e w4 ⟨q4, c4, S4, rfl, hw4, hs4, hb4⟩; have D4 := hid (bl_call (bl_drew R3.out) hb4); have HH4 := hid (hw4.hi (B := B) (fun k h => by have h1 := hs4 k h; have h2 := hBz.out; have h3 := B3.out.size; have h4 : W3.heap.size ≤ (W3.drew).heap.size := (by simp); omega)); clear hw4 hs4 hb4)
            | (go_at_call 86; (with_reducible refine (CI.out _ _ _ (HL.out.keep (bl_call B3.out D4.out)) HH4.out (by have h2 := hBz.out; have h3 := B3.out.size; have h4 := D4.out.size; omega)).mono ?_); rintro e w5 ⟨b5, o5, c5, rfl, hc5, hi5, hb5⟩; have D5 := hid (bl_call D4.out hb5); have HI5 := hid (And.intro hc5 hi5); clear hc5 hi5 hb5)
            | fail))
        go_wp2_with fail
        go_ret2
        rw [HRZ.out]
        refine ⟨⟨some ⟨b5, o5, none⟩, c5, ?_, ?_, HI5.out.2, .inr ⟨b5, o5, rfl⟩⟩, hB.out.trans ((bl_call B3.out D5.out).mono hB.out.size)⟩
        · rw [HZL.out]; rfl
        · rw [HZL.out]; exact HI5.out.1
    · have HRN := hid (HR.out.trans (matT_not hk1))
      clear HR CF CO
      have hkk : (t.kind == 1) = false := beq_eq_false_iff_ne.2 hk1
      clear hk1
      by_cases n0 : t.kind = u.kind
      rotate_left
      · have HF := hid (show r = none by rw [HRN.out, if_neg (by rintro ⟨e0, e1, e2, e3, e4⟩; exact n0 e0)])
        have c0 : (t.kind == u.kind) = false := beq_eq_false_iff_ne.2 n0
        have k0 : (t.kind != u.kind) = true := by rw [bne, c0]; rfl
        clear HRN HNE IH HT HU SX GT GU HL n0
        go_enter Tryz.func38, Tryz.ntmps38
        go_wp2_with fail
        go_ret2
        rw [HF.out]
        exact ⟨⟨none, 0, 0, rfl⟩, ((Below.refl w.heap.size w).alloc (Nat.le_refl _) _).alloc (by simp) _⟩
      have E0 := hid n0
      clear n0
      rw [← E0.out] at y0 hW0 ⊢
      by_cases n1 : t.name = u.name
      rotate_left
      · have HF := hid (show r = none by rw [HRN.out, if_neg (by rintro ⟨e0, e1, e2, e3, e4⟩; exact n1 e1)])
        have c1 : (t.name.toList == u.name.toList) = false := (names_eq _ _).trans (decide_eq_false n1)
        have k1 : (t.name.toList != u.name.toList) = true := by rw [bne, c1]; rfl
        clear HRN HNE IH HT HU SX GT GU HL n1
        go_enter Tryz.func38, Tryz.ntmps38
        go_wp2_with fail
        go_ret2
        rw [HF.out]
        exact ⟨⟨none, 0, 0, rfl⟩, ((Below.refl w.heap.size w).alloc (Nat.le_refl _) _).alloc (by simp) _⟩
      have E1 := hid n1
      clear n1
      rw [← E1.out] at y1 hW0 ⊢
      by_cases n2 : t.num = u.num
      rotate_left
      · have HF := hid (show r = none by rw [HRN.out, if_neg (by rintro ⟨e0, e1, e2, e3, e4⟩; exact n2 e2)])
        have c2 : (t.num.toList == u.num.toList) = false := (names_eq _ _).trans (decide_eq_false n2)
        have k2 : (t.num.toList != u.num.toList) = true := by rw [bne, c2]; rfl
        clear HRN HNE IH HT HU SX GT GU HL n2
        go_enter Tryz.func38, Tryz.ntmps38
        go_wp2_with fail
        go_ret2
        rw [HF.out]
        exact ⟨⟨none, 0, 0, rfl⟩, ((Below.refl w.heap.size w).alloc (Nat.le_refl _) _).alloc (by simp) _⟩
      have E2 := hid n2
      clear n2
      rw [← E2.out] at y2 hW0 ⊢
      by_cases n3 : t.bits = u.bits
      rotate_left
      · have HF := hid (show r = none by rw [HRN.out, if_neg (by rintro ⟨e0, e1, e2, e3, e4⟩; exact n3 e3)])
        have c3 : (t.bits == u.bits) = false := beq_eq_false_iff_ne.2 n3
        have k3 : (t.bits != u.bits) = true := by rw [bne, c3]; rfl
        clear HRN HNE IH HT HU SX GT GU HL n3
        go_enter Tryz.func38, Tryz.ntmps38
        go_wp2_with fail
        go_ret2
        rw [HF.out]
        exact ⟨⟨none, 0, 0, rfl⟩, ((Below.refl w.heap.size w).alloc (Nat.le_refl _) _).alloc (by simp) _⟩
      have E3 := hid n3
      clear n3
      rw [← E3.out] at y3 hW0 ⊢
      by_cases n4 : t.args.length = u.args.length
      rotate_left
      · have HF := hid (show r = none by rw [HRN.out, if_neg (by rintro ⟨e0, e1, e2, e3, e4⟩; exact n4 e4)])
        have c5 : ((t.args.length : Int) == (u.args.length : Int)) = false := beq_eq_false_iff_ne.2 (by omega)
        have k5 : ((t.args.length : Int) != (u.args.length : Int)) = true := by rw [bne, c5]; rfl
        clear HRN HNE IH HT HU SX GT GU HL n4
        go_enter Tryz.func38, Tryz.ntmps38
        go_wp2_with fail
        go_ret2
        rw [HF.out]
        exact ⟨⟨none, 0, 0, rfl⟩, ((Below.refl w.heap.size w).alloc (Nat.le_refl _) _).alloc (by simp) _⟩
      have E4 := hid n4
      clear n4
      rw [← E4.out] at y5 hW0 ⊢
      have HR2 := hid (show r = matL (t.args.drop 0) (u.args.drop 0) l by rw [HRN.out, if_pos ⟨E0.out, E1.out, E2.out, E3.out, E4.out⟩]; rfl)
      have hlen := E4
      have HS0 := hid (show l.length + nodesL (t.args.drop 0) ≤ 1000000 by have := hlmN.out; have := hnt.out; rw [List.drop_zero]; omega)
      clear HRN
      go_enter Tryz.func38, Tryz.ntmps38
      go_wp2_with fail
      rw [← hW0]
      have R0 := hid (Below.refl W0.heap.size W0)
      clear hW0 x0 x1 x2 x3 x4 x5 y0 y1 y2 y3 y4 y5
      go_loopw [10, 2] (fun i lv wr => ∃ (k : Nat) (m : List Bnd) (qm : Option Addr) (cm : Nat), k ≤ t.args.length ∧ m.length ≤ cm ∧ i = .int .i64 (k : Int) ∧ lv = .slice qm m.length cm ∧ Hid (r = matL (t.args.drop k) (u.args.drop k) m) ∧ Hid (BindHi wr B m qm) ∧ Hid (LstQ m qm cm) ∧ Hid (Rises m) ∧ Hid (m.length + nodesL (t.args.drop k) ≤ 1000000) ∧ Hid (Below W0.heap.size W0 wr)) (fun i _ _ => t.args.length - (intOf i).toNat)
      case atStart => exact ⟨0, l, ql, cl, by omega, hlc, rfl, rfl, HR2, HL, hid hq, HRi, HS0, R0⟩
      case round =>
            clear HR2 R0 HL hq HRi HS0 hlmN hnt hlc hlm'
            obtain ⟨k, m, qm, cm, hk, hmc, rfl, rfl, hr, HM, HQ, HRm, HSz, hBr⟩ := hrel
            obtain ⟨g5, k5⟩ := SX.out wr hBr.out
            by_cases hlt : k < t.args.length
            · have hlt2 : k < u.args.length := by rw [← hlen.out]; exact hlt
              have hk0 : (0 : Int) ≤ (k : Int) := by omega
              have hk1 : (k : Int) < (t.args.length : Int) := by omega
              have hk2 : (k : Int) < (u.args.length : Int) := by omega
              obtain ⟨b, o, rfl, e1, c1', hs1, ht1⟩ := (HT.out.keep hBr.out).get k hlt
              obtain ⟨b2, o2, rfl, e2, c2', hs2, ht2⟩ := (HU.out.keep hBr.out).get k hlt2
              have HND := hid (nodesL_drop t.args k hlt)
              have HCALL := hid (fun (W : World) (h : Below wr.heap.size wr W) => IH.out t.args[k] u.args[k] e1 e2 c1' c2' m qm cm B W (HNE.out k hlt) (ht1.keep h) (ht2.keep h) (GT.out k hlt) (GU.out k hlt2) (HM.out.keep h) HQ.out HRm.out (by have := HND.out; have := HSz.out; omega) hmc (by have := hBz.out; have := hBr.out.size; have := h.size; omega))
              have HRK := hid (hr.out.trans (matL_drop t.args u.args k hlt hlt2 m))
              have HRS := hid (fun S' (h : matT t.args[k] u.args[k] m = some S') => matT_rises t.args[k] u.args[k] m S' HRm.out h)
              have HLS := hid (fun S' (h : matT t.args[k] u.args[k] m = some S') => matT_length t.args[k] u.args[k] m S' h)
              have RR := hid (Below.refl wr.heap.size wr)
              clear hr ht1 ht2 HM HQ HRm
              generalize t.args[k] = t1 at *
              generalize u.args[k] = u1 at *
              generalize matT t1 u1 m = z at *
              have SR := hid (show ∀ W : World, Below wr.heap.size wr W → (W.cell? ⟨w.heap.size, 5, none⟩ = some (.slice (some ⟨b, o, none⟩) t.args.length cp) ∧ W.cell? ⟨w.heap.size + 1, 5, none⟩ = some (.slice (some ⟨b2, o2, none⟩) u.args.length cq) ∧ W.cell? ⟨b, o + k * 6, none⟩ = some (.int .i64 t1.kind) ∧ W.cell? ⟨b, o + k * 6 + 1, none⟩ = some (.string t1.name) ∧ W.cell? ⟨b, o + k * 6 + 2, none⟩ = some (.string t1.num) ∧ W.cell? ⟨b, o + k * 6 + 3, none⟩ = some (.int .u64 t1.bits) ∧ W.cell? ⟨b, o + k * 6 + 4, none⟩ = some (.int .i64 t1.var) ∧ W.cell? ⟨b, o + k * 6 + 5, none⟩ = some (.slice e1 t1.args.length c1') ∧ W.cell? ⟨b2, o2 + k * 6, none⟩ = some (.int .i64 u1.kind) ∧ W.cell? ⟨b2, o2 + k * 6 + 1, none⟩ = some (.string u1.name) ∧ W.cell? ⟨b2, o2 + k * 6 + 2, none⟩ = some (.string u1.num) ∧ W.cell? ⟨b2, o2 + k * 6 + 3, none⟩ = some (.int .u64 u1.bits) ∧ W.cell? ⟨b2, o2 + k * 6 + 4, none⟩ = some (.int .i64 u1.var) ∧ W.cell? ⟨b2, o2 + k * 6 + 5, none⟩ = some (.slice e2 u1.args.length c2')) from fun W h =>
                have m1 := hs1.keep h
                have m2 := hs2.keep h
                have n := SX.out W (bl_call hBr.out h)
                ⟨n.1, n.2, m1.c0, m1.c1, m1.c2, m1.c3, m1.c4, m1.c5, m2.c0, m2.c1, m2.c2, m2.c3, m2.c4, m2.c5⟩)
              have sr := SR.out wr RR.out
              clear hs1 hs2
              cases z with
              | none =>
                have HRN := hid (show r = none from HRK.out)
                clear HRK HRS HLS
                go_wp2_with fail
                go_region_held3 (fun w' => w'.cell? ⟨w.heap.size, 5, none⟩ = some (.slice (some ⟨b, o, none⟩) t.args.length cp) ∧ w'.cell? ⟨w.heap.size + 1, 5, none⟩ = some (.slice (some ⟨b2, o2, none⟩) u.args.length cq) ∧ w'.cell? ⟨b, o + k * 6, none⟩ = some (.int .i64 t1.kind) ∧ w'.cell? ⟨b, o + k * 6 + 1, none⟩ = some (.string t1.name) ∧ w'.cell? ⟨b, o + k * 6 + 2, none⟩ = some (.string t1.num) ∧ w'.cell? ⟨b, o + k * 6 + 3, none⟩ = some (.int .u64 t1.bits) ∧ w'.cell? ⟨b, o + k * 6 + 4, none⟩ = some (.int .i64 t1.var) ∧ w'.cell? ⟨b, o + k * 6 + 5, none⟩ = some (.slice e1 t1.args.length c1') ∧ w'.cell? ⟨b2, o2 + k * 6, none⟩ = some (.int .i64 u1.kind) ∧ w'.cell? ⟨b2, o2 + k * 6 + 1, none⟩ = some (.string u1.name) ∧ w'.cell? ⟨b2, o2 + k * 6 + 2, none⟩ = some (.string u1.num) ∧ w'.cell? ⟨b2, o2 + k * 6 + 3, none⟩ = some (.int .u64 u1.bits) ∧ w'.cell? ⟨b2, o2 + k * 6 + 4, none⟩ = some (.int .i64 u1.var) ∧ w'.cell? ⟨b2, o2 + k * 6 + 5, none⟩ = some (.slice e2 u1.args.length c2'))
                  (first
                    | (with_reducible exact sr)
                    | (with_reducible exact SR.out _ (bl_drew RR.out))
                    | (with_reducible exact SR.out _ C2.out)
                    | fail)
                  ((first
                    | (go_at_call 38; (with_reducible refine (HCALL.out _ (bl_drew RR.out)).mono ?_); rintro e w2 ⟨⟨qz, nz, cz, rfl⟩, hb2⟩; have C2 := hid (bl_call (bl_drew RR.out) hb2); clear hb2)))
                go_wp2
                go_ret2
                rw [HRN.out]
                exact ⟨⟨none, 0, 0, rfl⟩, hB.out.trans ((bl_call hBr.out C2.out).mono hB.out.size)⟩
              | some S' =>
                have HRN := hid (show r = matL (t.args.drop (k + 1)) (u.args.drop (k + 1)) S' from HRK.out)
                have HR3 := hid (HRS.out S' rfl)
                have HL3 := hid (HLS.out S' rfl)
                clear HRK HRS HLS
                go_wp2_with fail
                go_region_held3 (fun w' => w'.cell? ⟨w.heap.size, 5, none⟩ = some (.slice (some ⟨b, o, none⟩) t.args.length cp) ∧ w'.cell? ⟨w.heap.size + 1, 5, none⟩ = some (.slice (some ⟨b2, o2, none⟩) u.args.length cq) ∧ w'.cell? ⟨b, o + k * 6, none⟩ = some (.int .i64 t1.kind) ∧ w'.cell? ⟨b, o + k * 6 + 1, none⟩ = some (.string t1.name) ∧ w'.cell? ⟨b, o + k * 6 + 2, none⟩ = some (.string t1.num) ∧ w'.cell? ⟨b, o + k * 6 + 3, none⟩ = some (.int .u64 t1.bits) ∧ w'.cell? ⟨b, o + k * 6 + 4, none⟩ = some (.int .i64 t1.var) ∧ w'.cell? ⟨b, o + k * 6 + 5, none⟩ = some (.slice e1 t1.args.length c1') ∧ w'.cell? ⟨b2, o2 + k * 6, none⟩ = some (.int .i64 u1.kind) ∧ w'.cell? ⟨b2, o2 + k * 6 + 1, none⟩ = some (.string u1.name) ∧ w'.cell? ⟨b2, o2 + k * 6 + 2, none⟩ = some (.string u1.num) ∧ w'.cell? ⟨b2, o2 + k * 6 + 3, none⟩ = some (.int .u64 u1.bits) ∧ w'.cell? ⟨b2, o2 + k * 6 + 4, none⟩ = some (.int .i64 u1.var) ∧ w'.cell? ⟨b2, o2 + k * 6 + 5, none⟩ = some (.slice e2 u1.args.length c2'))
                  (first
                    | (with_reducible exact sr)
                    | (with_reducible exact SR.out _ (bl_drew RR.out))
                    | (with_reducible exact SR.out _ C2.out)
                    | fail)
                  ((first
                    | (go_at_call 38; (with_reducible refine (HCALL.out _ (bl_drew RR.out)).mono ?_); rintro e w2 ⟨⟨qz, cz, rfl, hcz, hHz, hQz⟩, hb2⟩; have HZ2 := hid hHz; have HQ2 := hid hQz; clear hHz hQz; have C2 := hid (bl_call (bl_drew RR.out) hb2); clear hb2)))
                go_wp2
                go_roundw
                case rel => exact ⟨k + 1, S', qz, cz, by omega, hcz, by go_num, rfl, HRN, HZ2, HQ2, HR3, hid (by have := HL3.out; have := HND.out; have := HSz.out; omega), hid (bl_call hBr.out C2.out)⟩
                case measure => simp [intOf]; omega
            · obtain rfl : k = t.args.length := by omega
              have HRN := hid (show r = some m by rw [hr.out, List.drop_length]; simp [matL])
              clear hr hlt
              go_wp2_with fail
              go_ret2
              rw [HRN.out]
              exact ⟨⟨qm, cm, rfl, hmc, HM.out, HQ.out⟩, hB.out.trans (hBr.out.mono hB.out.size)⟩
end Go.Proofs.YtkapejcbmonfkaaGreatDoor

namespace Go.Proofs.YtkapejcbmonfkaaGreatDoor
open Go.RowKit

theorem put7 {W : World} {b o : Nat} {arr : Array Value} {ty : TypeId} (h : W.heap[b]? = some (.cells arr ty (0, 0))) (d0 d1 d2 d3 d4 d5 d6 : Value) (W9 : World)
    (h9 : W9 = ((((((W.setCell ⟨b, o, none⟩ (d0)).setCell ⟨b, o + 1, none⟩ (d1)).setCell ⟨b, o + 2, none⟩ (d2)).setCell ⟨b, o + 3, none⟩ (d3)).setCell ⟨b, o + 4, none⟩ (d4)).setCell ⟨b, o + 5, none⟩ (d5)).setCell ⟨b, o + 6, none⟩ (d6)) :
    W.grownBy W9 (some b) ∧ ∃ arr', W9.heap[b]? = some (.cells arr' ty (0, 0)) ∧ arr'.size = arr.size ∧ (∀ j, j < o ∨ o + 7 ≤ j → arr'[j]? = arr[j]?) := by
  have one : ∀ (V : World) (j : Nat) (d : Value), V.grownBy (V.setCell ⟨b, j, none⟩ d) (some b) := fun V j d =>
    ⟨rfl, rfl, rfl, by simp, fun k _ hk => heap_setCell_other V ⟨b, j, none⟩ k d (fun e => hk (by simp [e]))⟩
  have h0 := heap_setCell_same W b o _ _ d0 h
  have h1 := heap_setCell_same _ b (o + 1) _ _ d1 h0
  have h2 := heap_setCell_same _ b (o + 2) _ _ d2 h1
  have h3 := heap_setCell_same _ b (o + 3) _ _ d3 h2
  have h4 := heap_setCell_same _ b (o + 4) _ _ d4 h3
  have h5 := heap_setCell_same _ b (o + 5) _ _ d5 h4
  have h6 := heap_setCell_same _ b (o + 6) _ _ d6 h5
  subst h9
  refine ⟨(one _ _ _).trans ((one _ _ _).trans ((one _ _ _).trans ((one _ _ _).trans ((one _ _ _).trans ((one _ _ _).trans (one _ _ _)))))), _, h6, by simp, fun j hj => ?_⟩
  simp only [Array.getElem?_setIfInBounds]
  repeat' (split; omega)
  rfl
/-- What is left of binds of one's own, of which the first are written over. -/
def RestB (w : World) (g n c k : Nat) (L : RowB) (S : List Nat) : Prop :=
  ∃ arr S2, w.heap[g]? = some (.cells arr 47 (0, 0)) ∧ arr.size = c * 7 ∧ n ≤ c ∧ (∀ j, k * 7 ≤ j → j < n * 7 → arr[j]? = (flatB L)[j]?) ∧ MineS w ((L.map (·.2)).drop k) S2 ∧ ∀ x ∈ S2, x ∈ S
theorem BindM.rest {w : World} {B g n c : Nat} {L : RowB} {S : List Nat} (h : BindM w B (some ⟨g, 0, none⟩) n c L S) : RestB w g n c 0 L S ∧ g ∉ S ∧ B ≤ g := by
  have hn := h.length
  rcases h.row.2 with ⟨h1, h2⟩ | ⟨g', cap, cur, e, h1, h2, h3, h4, h5, h6⟩
  · cases h1
  · simp only [Value.slice.injEq, Option.some.injEq, Addr.mk.injEq, and_true, true_and] at e
    obtain ⟨rfl, rfl⟩ := e
    refine ⟨⟨cur, S, h2, h5, h3, fun j _ hj => ?_, h.own, fun x hx => hx⟩, h.far _ rfl, h1⟩
    rw [← h6, List.getElem?_take, if_pos hj]
    simp
/-- The next one, and those behind it. -/
theorem RestB.head {w : World} {g n c k : Nat} {L : RowB} {S : List Nat} (h : RestB w g n c k L S) (hk : k < L.length) (hn : L.length = n) :
    ∃ arr S1 S3, w.heap[g]? = some (.cells arr 47 (0, 0)) ∧ arr.size = c * 7 ∧ n ≤ c ∧ (∀ j, j < 7 → arr[k * 7 + j]? = (cellsB L[k])[j]?) ∧ (∀ j, (k + 1) * 7 ≤ j → j < n * 7 → arr[j]? = (flatB L)[j]?) ∧
      MineT w L[k].2.1 L[k].2.2.1 L[k].2.2.2 S1 ∧ MineS w ((L.map (·.2)).drop (k + 1)) S3 ∧ (∀ x ∈ S1, x ∉ S3) ∧ (∀ x ∈ S1, x ∈ S) ∧ ∀ x ∈ S3, x ∈ S := by
  obtain ⟨arr, S2, h1, h2, h3, h4, h5, h6⟩ := h
  have hk' : k < (L.map (·.2)).length := by simpa using hk
  rw [List.drop_eq_getElem_cons hk'] at h5
  obtain ⟨S1, S3, rfl, k1, k2, k3⟩ := h5
  rw [List.getElem_map] at k2
  exact ⟨arr, S1, S3, h1, h2, h3, fun j hj => by rw [h4 _ (by omega) (by omega), flatB_get L k hk j hj], fun j hj hj2 => h4 j (by omega) hj2, k2, k3, k1, fun x hx => h6 x (by simp [hx]), fun x hx => h6 x (by simp [hx])⟩
/-- Behind the writing over of one. -/
theorem RestB.tail {w w2 W9 : World} {g n c k : Nat} {L : RowB} {S S1 S3 : List Nat} {arr : Array Value} (h1 : w.heap[g]? = some (.cells arr 47 (0, 0))) (h2 : arr.size = c * 7) (h3 : n ≤ c) (h4 : ∀ j, (k + 1) * 7 ≤ j → j < n * 7 → arr[j]? = (flatB L)[j]?) (h5 : MineS w ((L.map (·.2)).drop (k + 1)) S3) (h6 : ∀ x ∈ S1, x ∉ S3) (h7 : ∀ x ∈ S3, x ∈ S) (hg : g ∉ S1) (hg3 : g ∉ S) (hc : Chg S1 w w2) (d0 d1 d2 d3 d4 d5 d6 : Value)
    (h9 : W9 = ((((((w2.setCell ⟨g, k * 7, none⟩ (d0)).setCell ⟨g, k * 7 + 1, none⟩ (d1)).setCell ⟨g, k * 7 + 2, none⟩ (d2)).setCell ⟨g, k * 7 + 3, none⟩ (d3)).setCell ⟨g, k * 7 + 4, none⟩ (d4)).setCell ⟨g, k * 7 + 5, none⟩ (d5)).setCell ⟨g, k * 7 + 6, none⟩ (d6)) : RestB W9 g n c (k + 1) L S ∧ w2.grownBy W9 (some g) := by
  have q : w2.heap[g]? = some (.cells arr 47 (0, 0)) := (hc.same g (lt_of_block h1) hg).trans h1
  obtain ⟨gr, arr', e1, e2, e3⟩ := put7 q d0 d1 d2 d3 d4 d5 d6 W9 h9
  refine ⟨⟨arr', S3, e1, e2.trans h2, h3, fun j hj hj2 => by rw [e3 j (.inr (by omega)), h4 j hj hj2], h5.same fun x hx => ?_, h7⟩, gr⟩
  have hl := h5.lt x hx
  exact (gr.block x (Nat.lt_of_lt_of_le hl hc.size) (fun e => hg3 (by have := Option.some.inj e; rw [← this]; exact h7 x hx))).trans (hc.same x hl (fun h => h6 x h hx))
/-- Binds of one's own lie in the blocks that one owns. -/
theorem BindM.foot {w : World} {B : Nat} {q : Option Addr} {n c : Nat} {L : RowB} {S : List Nat} (h : BindM w B q n c L S) : ∀ x ∈ foot q S, B ≤ x ∧ x < w.heap.size := by
  intro x hx
  unfold Go.Proofs.YtkapejcbmonfkaaGreatDoor.foot at hx
  cases q with
  | none => exact ⟨h.low x hx, h.own.lt x hx⟩
  | some a =>
    rcases List.mem_cons.1 hx with rfl | hx
    · rcases h.row.2 with ⟨h1, h2⟩ | ⟨g', cap, cur, e, h1, h2, _⟩
      · cases h1
      · simp only [Value.slice.injEq, Option.some.injEq] at e
        obtain ⟨rfl, -, -⟩ := e
        exact ⟨h1, lt_of_block h2⟩
    · exact ⟨h.low x hx, h.own.lt x hx⟩
theorem BindM.chg {w w' : World} {B : Nat} {q : Option Addr} {n c : Nat} {L : RowB} {S : List Nat} (h : BindM w B q n c L S) {F : List Nat} (hc : Chg F w w') (hF : ∀ x ∈ F, x < B) : BindM w' B q n c L S :=
  h.same fun k h1 h2 => hc.same k h2 fun e => by have := hF k e; omega
theorem BindHi.chg {w w' : World} {B : Nat} {l : List Bnd} {q : Option Addr} (h : BindHi w B l q) {F : List Nat} (hc : Chg F w w') (hF : ∀ x ∈ F, x < B) : BindHi w' B l q :=
  h.above (fun k h1 h2 => hc.same k h2 fun e => by have := hF k e; omega) hc.size
theorem chg_below {w w1 w2 : World} {S : List Nat} (h : Below w.heap.size w w1) (hc : Chg S w1 w2) (hs : ∀ x ∈ S, w.heap.size ≤ x) : Below w.heap.size w w2 :=
  ⟨hc.os.trans h.os, hc.tape.trans h.tape, hc.output.trans h.output, Nat.le_trans h.size hc.size, fun k hk => (hc.same k (Nat.lt_of_lt_of_le hk h.size) (fun e => by have := hs k e; omega)).trans (h.block k hk)⟩
theorem BindM.size7 {w : World} {B : Nat} {q : Option Addr} {n c : Nat} {L : RowB} {S : List Nat} (h : BindM w B q n c L S) {m : List Bnd} (hm : L.map (fun x => (x.1, x.2.1)) = m) : n = m.length := by
  rw [← h.length, ← hm, List.length_map]
theorem first2_any (t u : Tm) (p q : Option Addr) (cp cq b : Nat) (w : World) (h : w.heap[b]? = some (pobj t u p q cp cq)) (hT : TmAt w t p) (hU : TmAt w u q) (dt : AllT DomA t) (du : AllT DomA u) :
    Calls Tryz.prog 12 #[.slice (some ⟨b, 0, none⟩) 2 2] w fun e w' => e = .returned (.int .i64 (checksErr vName numOk bitsOk [t, u])) ∧ Below w.heap.size w w' :=
  first_any [t, u] (some ⟨b, 0, none⟩) 2 w (by unfold maxLen; simp) (.inr ⟨_, _, rfl, row_two h hT hU⟩) (by unfold AllR AllR AllR; exact ⟨dt, du, trivial⟩)

set_option maxRecDepth 100000 in
set_option maxHeartbeats 64000000 in
theorem matches_yes1 (t u : Tm) (pt pu : Option Addr) (ct cu : Nat) (w : World) (hU : Utf w) (ht : TmAt w t pt) (hu : TmAt w u pu) (dt : AllT DomA t) (du : AllT DomA u) (hV : checksErr vName numOk bitsOk [t, u] = 0) (m : List Bnd) (hm : matT t u [] = some m) :
    Calls Tryz.prog 8 #[t.val pt ct, u.val pu cu] w fun x w' => x = .returned (.bool true) ∧ Below w.heap.size w w' := by
  obtain ⟨W0, hW0⟩ : ∃ W0, W0 = (w.alloc (.cells #[.int .i64 t.kind, .string t.name, .string t.num, .int .u64 t.bits, .int .i64 t.var, .slice pt t.args.length ct] 25)).alloc (.cells #[.int .i64 u.kind, .string u.name, .string u.num, .int .u64 u.bits, .int .i64 u.var, .slice pu u.args.length cu] 25) := ⟨_, rfl⟩
  have BW := hid (show Below w.heap.size w W0 by rw [hW0]; exact ((Below.refl w.heap.size w).alloc (Nat.le_refl _) _).alloc (by simp) _)
  have PU := hid (show W0.heap[w.heap.size + 1]? = some (.cells #[.int .i64 u.kind, .string u.name, .string u.num, .int .u64 u.bits, .int .i64 u.var, .slice pu u.args.length cu] 25 (0, 0)) by rw [hW0]; have h := heap_alloc_new (w.alloc (tobj t pt ct)) (tobj u pu cu); rwa [World.size_alloc] at h)
  have PT := hid (show W0.heap[w.heap.size]? = some (.cells #[.int .i64 t.kind, .string t.name, .string t.num, .int .u64 t.bits, .int .i64 t.var, .slice pt t.args.length ct] 25 (0, 0)) by rw [hW0]; exact (heap_alloc_old (w.alloc (tobj t pt ct)) _ (by simp)).trans (heap_alloc_new w _))
  have AWK := hid (awake_true W0 (hU.keep BW.out))
  have hA : matchA t u = some m := by unfold matchA; rw [if_pos hV]; exact hm
  have CM := hid (show ∀ W, Below w.heap.size w W → Calls Tryz.prog 37 #[.agg #[.int .i64 t.kind, .string t.name, .string t.num, .int .u64 t.bits, .int .i64 t.var, .slice pt t.args.length ct], .agg #[.int .i64 u.kind, .string u.name, .string u.num, .int .u64 u.bits, .int .i64 u.var, .slice pu u.args.length cu]] W fun e w' => ∃ q c L S, e = .returned (.tuple #[.slice q m.length c, .bool true, .int .i64 0]) ∧ BindM w' W.heap.size q m.length c L S ∧ L.map (fun x => (x.1, x.2.1)) = m ∧ Below W.heap.size W w' from fun W h => by
    refine (matchAll_any t u pt pu ct cu W (ht.keep h) (hu.keep h) dt du (hU.keep h)).mono fun e w' ⟨q, n, c, L, S, g1, g2, g3, g4⟩ => ?_
    rw [hA] at g1 g3
    have hn := g2.size7 g3
    obtain rfl : n = m.length := hn
    rw [hV] at g1
    exact ⟨q, c, L, S, g1, g2, g3, g4⟩)
  have CF := hid (show ∀ W b, Below w.heap.size w W → W.heap[b]? = some (pobj t u pt pu ct cu) → Calls Tryz.prog 12 #[.slice (some ⟨b, 0, none⟩) 2 2] W fun e w' => e = .returned (.int .i64 0) ∧ Below W.heap.size W w' from fun W b h h1 => by
    have h2 := first2_any t u pt pu ct cu b W h1 (ht.keep h) (hu.keep h) dt du
    rw [hV] at h2
    exact h2)
  obtain ⟨vt, vu⟩ := checks_two dt du hV
  have CR := hid (show ∀ W, Below w.heap.size w W → Calls Tryz.prog 38 #[.agg #[.int .i64 t.kind, .string t.name, .string t.num, .int .u64 t.bits, .int .i64 t.var, .slice pt t.args.length ct], .agg #[.int .i64 u.kind, .string u.name, .string u.num, .int .u64 u.bits, .int .i64 u.var, .slice pu u.args.length cu], .slice none 0 0] W fun e w' => (∃ q c, e = .returned (.tuple #[.slice q m.length c, .bool true]) ∧ BindHi w' W.heap.size m q) ∧ Below W.heap.size W w' from fun W h => by
    have hn : nodes t ≤ 4000 := by
      have h1 := vt.2
      unfold checkErr at h1
      split at h1
      · cases h1
      · omega
    have h2 := matchR_any (nodes t) t u pt pu ct cu [] none 0 W.heap.size W (Nat.le_refl _) (ht.keep h) (hu.keep h) vt.good vu.good (BindHi.nil _ _ _) (.inl ⟨rfl, rfl, rfl⟩) (by unfold Rises; exact List.Pairwise.nil) (by simp; omega) (by simp) (Nat.le_refl _)
    rw [hm] at h2
    exact h2.mono fun e w' ⟨⟨q, c, g1, g2, g3, g4⟩, g5⟩ => ⟨⟨q, c, g1, g3⟩, g5⟩)
  have hml : m.length ≤ 1000000 := by
    have hn : nodes t ≤ 4000 := by
      have h1 := vt.2
      unfold checkErr at h1
      split at h1
      · cases h1
      · omega
    have := matT_length t u [] m hm
    simp at this
    omega
  have hml' : (m.length : Int) ≤ 1000000 := by omega
  have CS := hid (show ∀ (W : World) (q1 q2 : Option Addr) (k1 k2 : Nat) (h1 : BindAt W m q1) (h2 : BindAt W m q2), Calls Tryz.prog 27 #[.slice q1 m.length k1, .slice q2 m.length k2] W fun e w' => e = .returned (.bool true) ∧ Below W.heap.size W w' from fun W q1 q2 k1 k2 h1 h2 => sameBinds_any m q1 q2 k1 k2 W h1 h2 (by omega))
  have hlt := ht.len
  have hlu := hu.len
  unfold maxLen at hlt hlu
  have hW0' : W0 = (w.alloc (.cells #[.int .i64 t.kind, .string t.name, .string t.num, .int .u64 t.bits, .int .i64 t.var, .slice pt t.args.length ct] 25)).alloc (.cells #[.int .i64 u.kind, .string u.name, .string u.num, .int .u64 u.bits, .int .i64 u.var, .slice pu u.args.length cu] 25) := hW0
  unfold Tm.val
  clear hU ht hu dt du hA hW0 hV hm vt vu
  go_enter Tryz.func8, Tryz.ntmps8
  go_upto_region 2 with (first
    | (go_at_call 10; rw [← hW0']; (with_reducible refine (AWK.out).mono ?_); rintro y w1 ⟨rfl, hb1⟩; replace PT := hid (obj_keep PT.out hb1); replace PU := hid (obj_keep PU.out hb1); replace BW := hid (BW.out.trans (Below.mono hb1 BW.out.size)); clear hb1 hW0' AWK)
    | fail)
  have ZW := hid (show w.heap.size ≤ w1.heap.size from BW.out.size)
  obtain ⟨⟨t0, t1, t2, t3, t4, t5⟩, _⟩ := six_free (show w1.heap[w.heap.size]? = some (.cells #[.int .i64 t.kind, .string t.name, .string t.num, .int .u64 t.bits, .int .i64 t.var, .slice pt t.args.length ct] 25 (0, 0)) from PT.out)
  obtain ⟨⟨u0, u1, u2, u3, u4, u5⟩, _⟩ := six_free (show w1.heap[w.heap.size + 1]? = some (.cells #[.int .i64 u.kind, .string u.name, .string u.num, .int .u64 u.bits, .int .i64 u.var, .slice pu u.args.length cu] 25 (0, 0)) from PU.out)
  go_upto_region 3 with (first
    | (go_at_call 37; (with_reducible refine (CM.out _ BW.out).mono ?_); rintro y w2 ⟨qa, ca, La, Sa, rfl, ha, hla, hb2⟩; replace PT := hid (obj_keep PT.out hb2); replace PU := hid (obj_keep PU.out hb2); replace BW := hid (BW.out.trans (Below.mono hb2 BW.out.size)); have BA := hid ha; have LA := hid hla; have FA := hid ha.foot; clear hb2 ha hla)
    | fail)
  clear t0 t1 t2 t3 t4 t5 u0 u1 u2 u3 u4 u5
  obtain ⟨⟨t0, t1, t2, t3, t4, t5⟩, _⟩ := six_free (show w2.heap[w.heap.size]? = some (.cells #[.int .i64 t.kind, .string t.name, .string t.num, .int .u64 t.bits, .int .i64 t.var, .slice pt t.args.length ct] 25 (0, 0)) from PT.out)
  obtain ⟨⟨u0, u1, u2, u3, u4, u5⟩, _⟩ := six_free (show w2.heap[w.heap.size + 1]? = some (.cells #[.int .i64 u.kind, .string u.name, .string u.num, .int .u64 u.bits, .int .i64 u.var, .slice pu u.args.length cu] 25 (0, 0)) from PU.out)
  go_upto_region 4 with (first
    | (go_at_call 37; (with_reducible refine (CM.out _ BW.out).mono ?_); rintro y w3 ⟨qb, cb, Lb, Sb, rfl, hb, hlb, hb3⟩; replace PT := hid (obj_keep PT.out hb3); replace PU := hid (obj_keep PU.out hb3); replace BA := hid (BA.out.same fun k _ h => Below.block hb3 k h); replace BW := hid (BW.out.trans (Below.mono hb3 BW.out.size)); have BB := hid hb; have LB := hid hlb; have FB := hid (show ∀ x ∈ foot qa Sa, x < w2.heap.size from fun x hx => (FA.out x hx).2); have Z3 := hid (Below.size hb3); clear hb3 hb hlb CM)
    | fail)
  clear t0 t1 t2 t3 t4 t5 u0 u1 u2 u3 u4 u5
  obtain ⟨⟨t0, t1, t2, t3, t4, t5⟩, _⟩ := six_free (show w3.heap[w.heap.size]? = some (.cells #[.int .i64 t.kind, .string t.name, .string t.num, .int .u64 t.bits, .int .i64 t.var, .slice pt t.args.length ct] 25 (0, 0)) from PT.out)
  obtain ⟨⟨u0, u1, u2, u3, u4, u5⟩, _⟩ := six_free (show w3.heap[w.heap.size + 1]? = some (.cells #[.int .i64 u.kind, .string u.name, .string u.num, .int .u64 u.bits, .int .i64 u.var, .slice pu u.args.length cu] 25 (0, 0)) from PU.out)
  obtain ⟨V, hV2⟩ : ∃ V, V = w3.alloc (pobj t u pt pu ct cu) := ⟨_, rfl⟩
  have hbV := hid (show Below w3.heap.size w3 V by rw [hV2]; exact (Below.refl _ _).alloc (Nat.le_refl _) _)
  have PV := hid (show V.heap[w3.heap.size]? = some (pobj t u pt pu ct cu) by rw [hV2]; exact heap_alloc_new w3 _)
  have BV := hid (BW.out.trans (hbV.out.mono BW.out.size))
  have CFV := hid (CF.out V _ BV.out PV.out)
  unfold pobj at hV2
  go_upto_region 5 with (first
    | (go_at_call 12; rw [← hV2]; (with_reducible refine (CFV.out).mono ?_); rintro y w4 ⟨rfl, hb4⟩; have hb5 := hid (hbV.out.trans (Below.mono hb4 hbV.out.size)); replace PT := hid (obj_keep PT.out hb5.out); replace PU := hid (obj_keep PU.out hb5.out); replace BA := hid (BA.out.same fun k _ h => Below.block hb5.out k h); replace BB := hid (BB.out.same fun k _ h => Below.block hb5.out k h); replace BW := hid (BW.out.trans (Below.mono hb5.out BW.out.size)); have Z4 := hid (Below.size hb5.out); clear hb4 hb5 CFV CF hV2 hbV PV BV)
    | fail)
  clear t0 t1 t2 t3 t4 t5 u0 u1 u2 u3 u4 u5
  obtain ⟨⟨t0, t1, t2, t3, t4, t5⟩, _⟩ := six_free (show w4.heap[w.heap.size]? = some (.cells #[.int .i64 t.kind, .string t.name, .string t.num, .int .u64 t.bits, .int .i64 t.var, .slice pt t.args.length ct] 25 (0, 0)) from PT.out)
  obtain ⟨⟨u0, u1, u2, u3, u4, u5⟩, _⟩ := six_free (show w4.heap[w.heap.size + 1]? = some (.cells #[.int .i64 u.kind, .string u.name, .string u.num, .int .u64 u.bits, .int .i64 u.var, .slice pu u.args.length cu] 25 (0, 0)) from PU.out)
  go_upto_region 9 with (first
    | (go_at_call 38; (with_reducible refine (CR.out _ BW.out).mono ?_); rintro y w5 ⟨⟨qw, cw, rfl, hw⟩, hb5⟩; replace PT := hid (obj_keep PT.out hb5); replace PU := hid (obj_keep PU.out hb5); replace BA := hid (BA.out.same fun k _ h => Below.block hb5 k h); replace BB := hid (BB.out.same fun k _ h => Below.block hb5 k h); replace BW := hid (BW.out.trans (Below.mono hb5 BW.out.size)); have BWn := hid hw; clear hb5 hw CR)
    | fail)
  clear t0 t1 t2 t3 t4 t5 u0 u1 u2 u3 u4 u5
  have C1 := hid (CS.out w5 qa qw ca cw (by have h := BA.out.at_; rwa [LA.out] at h) BWn.out.at_)
  go_upto_region 12 with (first
    | (go_at_call 27; (with_reducible refine (C1.out).mono ?_); rintro y w6 ⟨rfl, hb6⟩; replace PT := hid (obj_keep PT.out hb6); replace PU := hid (obj_keep PU.out hb6); replace BA := hid (BA.out.same fun k _ h => Below.block hb6 k h); replace BB := hid (BB.out.same fun k _ h => Below.block hb6 k h); replace BWn := hid (BWn.out.keep hb6); replace BW := hid (BW.out.trans (Below.mono hb6 BW.out.size)); clear hb6 C1)
    | fail)
  clear PT PU
  have HF2 := hid (show ∀ x ∈ foot qa Sa, w.heap.size ≤ x from fun x hx => by have h1 := (FA.out x hx).1; have h2 := ZW.out; omega)
  have HLl := hid (show La.length = m.length from BA.out.length)
  have R0 := hid (show ∀ g, qa = some ⟨g, 0, none⟩ → RestB w6 g m.length ca 0 La Sa ∧ g ∉ Sa from fun g e => by subst e; exact ⟨BA.out.rest.1, BA.out.rest.2.1⟩)
  have HQ := hid (show m.length = 0 ∨ ∃ g, qa = some ⟨g, 0, none⟩ from by
    rcases BA.out.row.2 with ⟨h1, h2⟩ | ⟨g', cap, cur, e, h1, h2, _⟩
    · left; exact h2
    · right; simp only [Value.slice.injEq] at e; exact ⟨g', e.1⟩)
  have K0 := hid (Chg.refl (foot qa Sa) w6)
  clear BA
  go_wp2_with fail
  go_loopw [16] (fun i wr => ∃ (k : Nat), k ≤ m.length ∧ i = .int .i64 (k : Int) ∧ Hid (∀ g, qa = some ⟨g, 0, none⟩ → RestB wr g m.length ca k La Sa ∧ g ∉ Sa) ∧ Hid (Chg (foot qa Sa) w6 wr)) (fun i _ => m.length - (intOf i).toNat)
  case atStart => exact ⟨0, by omega, rfl, R0, K0⟩
  case round =>
    clear R0 K0
    obtain ⟨k, hk, rfl, R1, K1⟩ := hrel
    by_cases hlk : k < m.length
    · have hk0 : (0 : Int) ≤ (k : Int) := by omega
      have hk1 : (k : Int) < (m.length : Int) := by omega
      rcases HQ.out with h0 | ⟨g, rfl⟩
      · omega
      obtain ⟨hR, hgS⟩ := R1.out g rfl
      have hkl : k < La.length := by have := HLl.out; omega
      obtain ⟨arr, S1, S3, e1, e2, e3, e4, e5, e6, e7, e8, e9, e10⟩ := hR.head hkl HLl.out
      have hg1 : g ∉ S1 := fun h => hgS (e9 g h)
      have HCALL := hid (marked_any (nodes La[k].2.1) La[k].2.1 La[k].2.2.1 La[k].2.2.2 S1 ⟨#[109, 105, 110, 101]⟩ wr (Nat.le_refl _) e6)
      have HTAIL := hid (fun (w2 W9 : World) (hc : Chg S1 wr w2) (h9 : W9 = ((((((w2.setCell ⟨g, k * 7, none⟩ (.int .i64 (-1))).setCell ⟨g, k * 7 + 1, none⟩ (.int .i64 0)).setCell ⟨g, k * 7 + 2, none⟩ (.string ⟨#[]⟩)).setCell ⟨g, k * 7 + 3, none⟩ (.string ⟨#[]⟩)).setCell ⟨g, k * 7 + 4, none⟩ (.int .u64 0)).setCell ⟨g, k * 7 + 5, none⟩ (.int .i64 0)).setCell ⟨g, k * 7 + 6, none⟩ (.slice none 0 0)) => RestB.tail (L := La) e1 e2 e3 e5 e7 e8 e10 hg1 hgS hc _ _ _ _ _ _ _ h9)
      have HIN := hid e9
      have HGS := hid hgS
      have P1 := hid e1
      have QB := hid (fun (w2 : World) (hc : Chg S1 wr w2) => (show w2.heap[g]? = some (.cells arr 47 (0, 0)) from (hc.same g (lt_of_block e1) hg1).trans e1))
      have E4 := hid (fun j (hj : j < 7) => (show ∀ W : World, W.heap[g]? = some (.cells arr 47 (0, 0)) → W.cell? ⟨g, k * 7 + j, none⟩ = (cellsB La[k])[j]? from fun W hW => by rw [cells_of hW]; exact e4 j hj))
      have x0 := ((E4.out 0 (by decide) wr P1.out).trans rfl : wr.cell? ⟨g, k * 7, none⟩ = some (.int .i64 La[k].1))
      have x1 := ((E4.out 1 (by decide) wr P1.out).trans rfl : wr.cell? ⟨g, k * 7 + 1, none⟩ = some (.int .i64 La[k].2.1.kind))
      have x2 := ((E4.out 2 (by decide) wr P1.out).trans rfl : wr.cell? ⟨g, k * 7 + 1 + 1, none⟩ = some (.string La[k].2.1.name))
      have x3 := ((E4.out 3 (by decide) wr P1.out).trans rfl : wr.cell? ⟨g, k * 7 + 1 + 2, none⟩ = some (.string La[k].2.1.num))
      have x4 := ((E4.out 4 (by decide) wr P1.out).trans rfl : wr.cell? ⟨g, k * 7 + 1 + 3, none⟩ = some (.int .u64 La[k].2.1.bits))
      have x5 := ((E4.out 5 (by decide) wr P1.out).trans rfl : wr.cell? ⟨g, k * 7 + 1 + 4, none⟩ = some (.int .i64 La[k].2.1.var))
      have x6 := ((E4.out 6 (by decide) wr P1.out).trans rfl : wr.cell? ⟨g, k * 7 + 1 + 5, none⟩ = some (.slice La[k].2.2.1 La[k].2.1.args.length La[k].2.2.2))
      clear hR hgS e1 e2 e3 e4 e5 e6 e7 e8 e9 e10 hg1
      generalize La[k] = xk at *
      clear hkl
      obtain ⟨bv, t1, p1, c1⟩ := xk
      dsimp only at *
      unfold Tm.val at HCALL
      go_wp2_with (first
        | (go_at_call 26; (with_reducible refine HCALL.out.mono ?_); rintro e w7 ⟨⟨v, rfl⟩, hc7⟩; have C7 := hid hc7; have Q7 := hid (QB.out w7 hc7); clear hc7 x0 x1 x2 x3 x4 x5 x6; have y0 : w7.cell? ⟨g, k * 7, none⟩ = some (.int .i64 bv) := (E4.out 0 (by decide) w7 Q7.out).trans rfl; have y1 : w7.cell? ⟨g, k * 7 + 1, none⟩ = some (.int .i64 t1.kind) := (E4.out 1 (by decide) w7 Q7.out).trans rfl; have y2 : w7.cell? ⟨g, k * 7 + 2, none⟩ = some (.string t1.name) := (E4.out 2 (by decide) w7 Q7.out).trans rfl; have y3 : w7.cell? ⟨g, k * 7 + 3, none⟩ = some (.string t1.num) := (E4.out 3 (by decide) w7 Q7.out).trans rfl; have y4 : w7.cell? ⟨g, k * 7 + 4, none⟩ = some (.int .u64 t1.bits) := (E4.out 4 (by decide) w7 Q7.out).trans rfl; have y5 : w7.cell? ⟨g, k * 7 + 5, none⟩ = some (.int .i64 t1.var) := (E4.out 5 (by decide) w7 Q7.out).trans rfl; have y6 : w7.cell? ⟨g, k * 7 + 6, none⟩ = some (.slice p1 t1.args.length c1) := (E4.out 6 (by decide) w7 Q7.out).trans rfl; have f2 : ∀ j, w7.frozen? ⟨g, j, none⟩ = false := fun j => (by simp [World.frozen?, Q7.out]); have r0 := f2 (k * 7); have r1 := f2 (k * 7 + 1); have r2 := f2 (k * 7 + 2); have r3 := f2 (k * 7 + 3); have r4 := f2 (k * 7 + 4); have r5 := f2 (k * 7 + 5); have r6 := f2 (k * 7 + 6); clear f2)
        | fail)
      go_roundw
      case rel =>
        obtain ⟨W9, h9⟩ : ∃ W9, W9 = ((((((w7.setCell ⟨g, k * 7, none⟩ (.int .i64 (-1))).setCell ⟨g, k * 7 + 1, none⟩ (.int .i64 0)).setCell ⟨g, k * 7 + 2, none⟩ (.string ⟨#[]⟩)).setCell ⟨g, k * 7 + 3, none⟩ (.string ⟨#[]⟩)).setCell ⟨g, k * 7 + 4, none⟩ (.int .u64 0)).setCell ⟨g, k * 7 + 5, none⟩ (.int .i64 0)).setCell ⟨g, k * 7 + 6, none⟩ (.slice none 0 0) := ⟨_, rfl⟩
        rw [← h9]
        obtain ⟨z1, z2⟩ := HTAIL.out w7 W9 C7.out h9
        exact ⟨k + 1, by omega, by go_num, hid (fun g' e => by cases e; exact ⟨z1, HGS.out⟩), hid ((K1.out.trans (C7.out.mono (fun x hx => by unfold foot; exact List.mem_cons_of_mem _ (HIN.out x hx)))).grown z2 (fun x e => by cases e; right; unfold foot; simp))⟩
      case measure => simp [intOf]; omega
    · obtain rfl : k = m.length := by omega
      have BF := hid (chg_below BW.out K1.out HF2.out)
      have C2 := hid (CS.out wr qb qw cb cw (by have h := (BB.out.chg K1.out FB.out).at_; rwa [LB.out] at h) (BWn.out.chg K1.out (fun x hx => by have h1 := FB.out x hx; have h2 := Z3.out; have h3 := Z4.out; omega)).at_)
      go_wp2_with (first
        | (go_at_call 27; (with_reducible refine C2.out.mono ?_); rintro y w8 ⟨rfl, hb8⟩; replace BF := hid (BF.out.trans (Below.mono hb8 BF.out.size)); clear hb8)
        | fail)
      go_ret
      exact ⟨rfl, BF.out⟩

set_option maxRecDepth 100000 in
set_option maxHeartbeats 64000000 in
theorem matches_yes2 (t u : Tm) (pt pu : Option Addr) (ct cu : Nat) (w : World) (hU : Utf w) (ht : TmAt w t pt) (hu : TmAt w u pu) (dt : AllT DomA t) (du : AllT DomA u) (hV : checksErr vName numOk bitsOk [t, u] = 0) (hm : matT t u [] = none) :
    Calls Tryz.prog 8 #[t.val pt ct, u.val pu cu] w fun x w' => x = .returned (.bool true) ∧ Below w.heap.size w w' := by
  obtain ⟨W0, hW0⟩ : ∃ W0, W0 = (w.alloc (.cells #[.int .i64 t.kind, .string t.name, .string t.num, .int .u64 t.bits, .int .i64 t.var, .slice pt t.args.length ct] 25)).alloc (.cells #[.int .i64 u.kind, .string u.name, .string u.num, .int .u64 u.bits, .int .i64 u.var, .slice pu u.args.length cu] 25) := ⟨_, rfl⟩
  have BW := hid (show Below w.heap.size w W0 by rw [hW0]; exact ((Below.refl w.heap.size w).alloc (Nat.le_refl _) _).alloc (by simp) _)
  have PU := hid (show W0.heap[w.heap.size + 1]? = some (.cells #[.int .i64 u.kind, .string u.name, .string u.num, .int .u64 u.bits, .int .i64 u.var, .slice pu u.args.length cu] 25 (0, 0)) by rw [hW0]; have h := heap_alloc_new (w.alloc (tobj t pt ct)) (tobj u pu cu); rwa [World.size_alloc] at h)
  have PT := hid (show W0.heap[w.heap.size]? = some (.cells #[.int .i64 t.kind, .string t.name, .string t.num, .int .u64 t.bits, .int .i64 t.var, .slice pt t.args.length ct] 25 (0, 0)) by rw [hW0]; exact (heap_alloc_old (w.alloc (tobj t pt ct)) _ (by simp)).trans (heap_alloc_new w _))
  have AWK := hid (awake_true W0 (hU.keep BW.out))
  have hA : matchA t u = none := by unfold matchA; rw [if_pos hV]; exact hm
  have CM := hid (show ∀ W, Below w.heap.size w W → Calls Tryz.prog 37 #[.agg #[.int .i64 t.kind, .string t.name, .string t.num, .int .u64 t.bits, .int .i64 t.var, .slice pt t.args.length ct], .agg #[.int .i64 u.kind, .string u.name, .string u.num, .int .u64 u.bits, .int .i64 u.var, .slice pu u.args.length cu]] W fun e w' => ∃ q c L S, e = .returned (.tuple #[.slice q 0 c, .bool false, .int .i64 0]) ∧ BindM w' W.heap.size q 0 c L S ∧ L.map (fun x => (x.1, x.2.1)) = [] ∧ Below W.heap.size W w' from fun W h => by
    refine (matchAll_any t u pt pu ct cu W (ht.keep h) (hu.keep h) dt du (hU.keep h)).mono fun e w' ⟨q, n, c, L, S, g1, g2, g3, g4⟩ => ?_
    rw [hA] at g1 g3
    have hn := g2.size7 g3
    obtain rfl : n = 0 := hn
    rw [hV] at g1
    exact ⟨q, c, L, S, g1, g2, g3, g4⟩)
  have CF := hid (show ∀ W b, Below w.heap.size w W → W.heap[b]? = some (pobj t u pt pu ct cu) → Calls Tryz.prog 12 #[.slice (some ⟨b, 0, none⟩) 2 2] W fun e w' => e = .returned (.int .i64 0) ∧ Below W.heap.size W w' from fun W b h h1 => by
    have h2 := first2_any t u pt pu ct cu b W h1 (ht.keep h) (hu.keep h) dt du
    rw [hV] at h2
    exact h2)
  obtain ⟨vt, vu⟩ := checks_two dt du hV
  have CR := hid (show ∀ W, Below w.heap.size w W → Calls Tryz.prog 38 #[.agg #[.int .i64 t.kind, .string t.name, .string t.num, .int .u64 t.bits, .int .i64 t.var, .slice pt t.args.length ct], .agg #[.int .i64 u.kind, .string u.name, .string u.num, .int .u64 u.bits, .int .i64 u.var, .slice pu u.args.length cu], .slice none 0 0] W fun e w' => (∃ q n c, e = .returned (.tuple #[.slice q n c, .bool false])) ∧ Below W.heap.size W w' from fun W h => by
    have hn : nodes t ≤ 4000 := by
      have h1 := vt.2
      unfold checkErr at h1
      split at h1
      · cases h1
      · omega
    have h2 := matchR_any (nodes t) t u pt pu ct cu [] none 0 W.heap.size W (Nat.le_refl _) (ht.keep h) (hu.keep h) vt.good vu.good (BindHi.nil _ _ _) (.inl ⟨rfl, rfl, rfl⟩) (by unfold Rises; exact List.Pairwise.nil) (by simp; omega) (by simp) (Nat.le_refl _)
    rw [hm] at h2
    exact h2)
  have CS := hid (show ∀ (W : World) (q1 q2 : Option Addr) (k1 k2 : Nat) (h1 : BindAt W [] q1) (h2 : BindAt W [] q2), Calls Tryz.prog 27 #[.slice q1 0 k1, .slice q2 0 k2] W fun e w' => e = .returned (.bool true) ∧ Below W.heap.size W w' from fun W q1 q2 k1 k2 h1 h2 => sameBinds_any [] q1 q2 k1 k2 W h1 h2 (by simp))
  have hlt := ht.len
  have hlu := hu.len
  unfold maxLen at hlt hlu
  have hW0' : W0 = (w.alloc (.cells #[.int .i64 t.kind, .string t.name, .string t.num, .int .u64 t.bits, .int .i64 t.var, .slice pt t.args.length ct] 25)).alloc (.cells #[.int .i64 u.kind, .string u.name, .string u.num, .int .u64 u.bits, .int .i64 u.var, .slice pu u.args.length cu] 25) := hW0
  unfold Tm.val
  clear hU ht hu dt du hA hW0 hV hm vt vu
  go_enter Tryz.func8, Tryz.ntmps8
  go_upto_region 2 with (first
    | (go_at_call 10; rw [← hW0']; (with_reducible refine (AWK.out).mono ?_); rintro y w1 ⟨rfl, hb1⟩; replace PT := hid (obj_keep PT.out hb1); replace PU := hid (obj_keep PU.out hb1); replace BW := hid (BW.out.trans (Below.mono hb1 BW.out.size)); clear hb1 hW0' AWK)
    | fail)
  have ZW := hid (show w.heap.size ≤ w1.heap.size from BW.out.size)
  obtain ⟨⟨t0, t1, t2, t3, t4, t5⟩, _⟩ := six_free (show w1.heap[w.heap.size]? = some (.cells #[.int .i64 t.kind, .string t.name, .string t.num, .int .u64 t.bits, .int .i64 t.var, .slice pt t.args.length ct] 25 (0, 0)) from PT.out)
  obtain ⟨⟨u0, u1, u2, u3, u4, u5⟩, _⟩ := six_free (show w1.heap[w.heap.size + 1]? = some (.cells #[.int .i64 u.kind, .string u.name, .string u.num, .int .u64 u.bits, .int .i64 u.var, .slice pu u.args.length cu] 25 (0, 0)) from PU.out)
  go_upto_region 3 with (first
    | (go_at_call 37; (with_reducible refine (CM.out _ BW.out).mono ?_); rintro y w2 ⟨qa, ca, La, Sa, rfl, ha, hla, hb2⟩; replace PT := hid (obj_keep PT.out hb2); replace PU := hid (obj_keep PU.out hb2); replace BW := hid (BW.out.trans (Below.mono hb2 BW.out.size)); have BA := hid ha; have LA := hid hla; have FA := hid ha.foot; clear hb2 ha hla)
    | fail)
  clear t0 t1 t2 t3 t4 t5 u0 u1 u2 u3 u4 u5
  obtain ⟨⟨t0, t1, t2, t3, t4, t5⟩, _⟩ := six_free (show w2.heap[w.heap.size]? = some (.cells #[.int .i64 t.kind, .string t.name, .string t.num, .int .u64 t.bits, .int .i64 t.var, .slice pt t.args.length ct] 25 (0, 0)) from PT.out)
  obtain ⟨⟨u0, u1, u2, u3, u4, u5⟩, _⟩ := six_free (show w2.heap[w.heap.size + 1]? = some (.cells #[.int .i64 u.kind, .string u.name, .string u.num, .int .u64 u.bits, .int .i64 u.var, .slice pu u.args.length cu] 25 (0, 0)) from PU.out)
  go_upto_region 4 with (first
    | (go_at_call 37; (with_reducible refine (CM.out _ BW.out).mono ?_); rintro y w3 ⟨qb, cb, Lb, Sb, rfl, hb, hlb, hb3⟩; replace PT := hid (obj_keep PT.out hb3); replace PU := hid (obj_keep PU.out hb3); replace BA := hid (BA.out.same fun k _ h => Below.block hb3 k h); replace BW := hid (BW.out.trans (Below.mono hb3 BW.out.size)); have BB := hid hb; have LB := hid hlb; have FB := hid (show ∀ x ∈ foot qa Sa, x < w2.heap.size from fun x hx => (FA.out x hx).2); have Z3 := hid (Below.size hb3); clear hb3 hb hlb CM)
    | fail)
  clear t0 t1 t2 t3 t4 t5 u0 u1 u2 u3 u4 u5
  obtain ⟨⟨t0, t1, t2, t3, t4, t5⟩, _⟩ := six_free (show w3.heap[w.heap.size]? = some (.cells #[.int .i64 t.kind, .string t.name, .string t.num, .int .u64 t.bits, .int .i64 t.var, .slice pt t.args.length ct] 25 (0, 0)) from PT.out)
  obtain ⟨⟨u0, u1, u2, u3, u4, u5⟩, _⟩ := six_free (show w3.heap[w.heap.size + 1]? = some (.cells #[.int .i64 u.kind, .string u.name, .string u.num, .int .u64 u.bits, .int .i64 u.var, .slice pu u.args.length cu] 25 (0, 0)) from PU.out)
  obtain ⟨V, hV2⟩ : ∃ V, V = w3.alloc (pobj t u pt pu ct cu) := ⟨_, rfl⟩
  have hbV := hid (show Below w3.heap.size w3 V by rw [hV2]; exact (Below.refl _ _).alloc (Nat.le_refl _) _)
  have PV := hid (show V.heap[w3.heap.size]? = some (pobj t u pt pu ct cu) by rw [hV2]; exact heap_alloc_new w3 _)
  have BV := hid (BW.out.trans (hbV.out.mono BW.out.size))
  have CFV := hid (CF.out V _ BV.out PV.out)
  unfold pobj at hV2
  go_upto_region 5 with (first
    | (go_at_call 12; rw [← hV2]; (with_reducible refine (CFV.out).mono ?_); rintro y w4 ⟨rfl, hb4⟩; have hb5 := hid (hbV.out.trans (Below.mono hb4 hbV.out.size)); replace PT := hid (obj_keep PT.out hb5.out); replace PU := hid (obj_keep PU.out hb5.out); replace BA := hid (BA.out.same fun k _ h => Below.block hb5.out k h); replace BB := hid (BB.out.same fun k _ h => Below.block hb5.out k h); replace BW := hid (BW.out.trans (Below.mono hb5.out BW.out.size)); have Z4 := hid (Below.size hb5.out); clear hb4 hb5 CFV CF hV2 hbV PV BV)
    | fail)
  clear t0 t1 t2 t3 t4 t5 u0 u1 u2 u3 u4 u5
  obtain ⟨⟨t0, t1, t2, t3, t4, t5⟩, _⟩ := six_free (show w4.heap[w.heap.size]? = some (.cells #[.int .i64 t.kind, .string t.name, .string t.num, .int .u64 t.bits, .int .i64 t.var, .slice pt t.args.length ct] 25 (0, 0)) from PT.out)
  obtain ⟨⟨u0, u1, u2, u3, u4, u5⟩, _⟩ := six_free (show w4.heap[w.heap.size + 1]? = some (.cells #[.int .i64 u.kind, .string u.name, .string u.num, .int .u64 u.bits, .int .i64 u.var, .slice pu u.args.length cu] 25 (0, 0)) from PU.out)
  go_upto_region 9 with (first
    | (go_at_call 38; (with_reducible refine (CR.out _ BW.out).mono ?_); rintro y w5 ⟨⟨qw, nw, cw, rfl⟩, hb5⟩; replace PT := hid (obj_keep PT.out hb5); replace PU := hid (obj_keep PU.out hb5); replace BA := hid (BA.out.same fun k _ h => Below.block hb5 k h); replace BB := hid (BB.out.same fun k _ h => Below.block hb5 k h); replace BW := hid (BW.out.trans (Below.mono hb5 BW.out.size)); clear hb5 CR)
    | fail)
  clear t0 t1 t2 t3 t4 t5 u0 u1 u2 u3 u4 u5
  have C1 := hid (CS.out w5 qa none ca 0 (by have h := BA.out.at_; rwa [LA.out] at h) (fun k h => by simp at h))
  go_upto_region 12 with (first
    | (go_at_call 27; (with_reducible refine (C1.out).mono ?_); rintro y w6 ⟨rfl, hb6⟩; replace PT := hid (obj_keep PT.out hb6); replace PU := hid (obj_keep PU.out hb6); replace BA := hid (BA.out.same fun k _ h => Below.block hb6 k h); replace BB := hid (BB.out.same fun k _ h => Below.block hb6 k h); replace BW := hid (BW.out.trans (Below.mono hb6 BW.out.size)); clear hb6 C1)
    | fail)
  clear PT PU
  go_wp2_with fail
  refine wp_loop_rounds 1 ?_
  rw [rounds_succ]
  have C2 := hid (CS.out w6 qb none cb 0 (by have h := BB.out.at_; rwa [LB.out] at h) (fun k h => by simp at h))
  go_wp2_with (first
    | (go_at_call 27; (with_reducible refine C2.out.mono ?_); rintro y w8 ⟨rfl, hb8⟩; replace BW := hid (BW.out.trans (Below.mono hb8 BW.out.size)); clear hb8)
    | fail)
  go_ret
  exact ⟨rfl, BW.out⟩

set_option maxRecDepth 100000 in
set_option maxHeartbeats 64000000 in
theorem matches_yes3 (t u : Tm) (pt pu : Option Addr) (ct cu : Nat) (w : World) (hU : Utf w) (ht : TmAt w t pt) (hu : TmAt w u pu) (dt : AllT DomA t) (du : AllT DomA u) (hV : checksErr vName numOk bitsOk [t, u] ≠ 0) :
    Calls Tryz.prog 8 #[t.val pt ct, u.val pu cu] w fun x w' => x = .returned (.bool true) ∧ Below w.heap.size w w' := by
  obtain ⟨W0, hW0⟩ : ∃ W0, W0 = (w.alloc (.cells #[.int .i64 t.kind, .string t.name, .string t.num, .int .u64 t.bits, .int .i64 t.var, .slice pt t.args.length ct] 25)).alloc (.cells #[.int .i64 u.kind, .string u.name, .string u.num, .int .u64 u.bits, .int .i64 u.var, .slice pu u.args.length cu] 25) := ⟨_, rfl⟩
  have BW := hid (show Below w.heap.size w W0 by rw [hW0]; exact ((Below.refl w.heap.size w).alloc (Nat.le_refl _) _).alloc (by simp) _)
  have PU := hid (show W0.heap[w.heap.size + 1]? = some (.cells #[.int .i64 u.kind, .string u.name, .string u.num, .int .u64 u.bits, .int .i64 u.var, .slice pu u.args.length cu] 25 (0, 0)) by rw [hW0]; have h := heap_alloc_new (w.alloc (tobj t pt ct)) (tobj u pu cu); rwa [World.size_alloc] at h)
  have PT := hid (show W0.heap[w.heap.size]? = some (.cells #[.int .i64 t.kind, .string t.name, .string t.num, .int .u64 t.bits, .int .i64 t.var, .slice pt t.args.length ct] 25 (0, 0)) by rw [hW0]; exact (heap_alloc_old (w.alloc (tobj t pt ct)) _ (by simp)).trans (heap_alloc_new w _))
  have AWK := hid (awake_true W0 (hU.keep BW.out))
  have hA : matchA t u = none := by unfold matchA; rw [if_neg hV]
  obtain ⟨v, hv⟩ : ∃ v, v = checksErr vName numOk bitsOk [t, u] := ⟨_, rfl⟩
  have hq : (v == 0) = false := beq_eq_false_iff_ne.2 (by rw [hv]; exact hV)
  have CM := hid (show ∀ W, Below w.heap.size w W → Calls Tryz.prog 37 #[.agg #[.int .i64 t.kind, .string t.name, .string t.num, .int .u64 t.bits, .int .i64 t.var, .slice pt t.args.length ct], .agg #[.int .i64 u.kind, .string u.name, .string u.num, .int .u64 u.bits, .int .i64 u.var, .slice pu u.args.length cu]] W fun e w' => ∃ q c L S, e = .returned (.tuple #[.slice q 0 c, .bool false, .int .i64 v]) ∧ BindM w' W.heap.size q 0 c L S ∧ L.map (fun x => (x.1, x.2.1)) = [] ∧ Below W.heap.size W w' from fun W h => by
    refine (matchAll_any t u pt pu ct cu W (ht.keep h) (hu.keep h) dt du (hU.keep h)).mono fun e w' ⟨q, n, c, L, S, g1, g2, g3, g4⟩ => ?_
    rw [hA] at g1 g3
    have hn := g2.size7 g3
    obtain rfl : n = 0 := hn
    rw [← hv] at g1
    exact ⟨q, c, L, S, g1, g2, g3, g4⟩)
  have CF := hid (show ∀ W b, Below w.heap.size w W → W.heap[b]? = some (pobj t u pt pu ct cu) → Calls Tryz.prog 12 #[.slice (some ⟨b, 0, none⟩) 2 2] W fun e w' => e = .returned (.int .i64 v) ∧ Below W.heap.size W w' from fun W b h h1 => by
    have h2 := first2_any t u pt pu ct cu b W h1 (ht.keep h) (hu.keep h) dt du
    rw [← hv] at h2
    exact h2)
  have CS := hid (show ∀ (W : World) (q1 q2 : Option Addr) (k1 k2 : Nat) (h1 : BindAt W [] q1) (h2 : BindAt W [] q2), Calls Tryz.prog 27 #[.slice q1 0 k1, .slice q2 0 k2] W fun e w' => e = .returned (.bool true) ∧ Below W.heap.size W w' from fun W q1 q2 k1 k2 h1 h2 => sameBinds_any [] q1 q2 k1 k2 W h1 h2 (by simp))
  have hlt := ht.len
  have hlu := hu.len
  unfold maxLen at hlt hlu
  have hW0' : W0 = (w.alloc (.cells #[.int .i64 t.kind, .string t.name, .string t.num, .int .u64 t.bits, .int .i64 t.var, .slice pt t.args.length ct] 25)).alloc (.cells #[.int .i64 u.kind, .string u.name, .string u.num, .int .u64 u.bits, .int .i64 u.var, .slice pu u.args.length cu] 25) := hW0
  unfold Tm.val
  clear hU ht hu dt du hA hW0 hV hv
  go_enter Tryz.func8, Tryz.ntmps8
  go_upto_region 2 with (first
    | (go_at_call 10; rw [← hW0']; (with_reducible refine (AWK.out).mono ?_); rintro y w1 ⟨rfl, hb1⟩; replace PT := hid (obj_keep PT.out hb1); replace PU := hid (obj_keep PU.out hb1); replace BW := hid (BW.out.trans (Below.mono hb1 BW.out.size)); clear hb1 hW0' AWK)
    | fail)
  have ZW := hid (show w.heap.size ≤ w1.heap.size from BW.out.size)
  obtain ⟨⟨t0, t1, t2, t3, t4, t5⟩, _⟩ := six_free (show w1.heap[w.heap.size]? = some (.cells #[.int .i64 t.kind, .string t.name, .string t.num, .int .u64 t.bits, .int .i64 t.var, .slice pt t.args.length ct] 25 (0, 0)) from PT.out)
  obtain ⟨⟨u0, u1, u2, u3, u4, u5⟩, _⟩ := six_free (show w1.heap[w.heap.size + 1]? = some (.cells #[.int .i64 u.kind, .string u.name, .string u.num, .int .u64 u.bits, .int .i64 u.var, .slice pu u.args.length cu] 25 (0, 0)) from PU.out)
  go_upto_region 3 with (first
    | (go_at_call 37; (with_reducible refine (CM.out _ BW.out).mono ?_); rintro y w2 ⟨qa, ca, La, Sa, rfl, ha, hla, hb2⟩; replace PT := hid (obj_keep PT.out hb2); replace PU := hid (obj_keep PU.out hb2); replace BW := hid (BW.out.trans (Below.mono hb2 BW.out.size)); have BA := hid ha; have LA := hid hla; have FA := hid ha.foot; clear hb2 ha hla)
    | fail)
  clear t0 t1 t2 t3 t4 t5 u0 u1 u2 u3 u4 u5
  obtain ⟨⟨t0, t1, t2, t3, t4, t5⟩, _⟩ := six_free (show w2.heap[w.heap.size]? = some (.cells #[.int .i64 t.kind, .string t.name, .string t.num, .int .u64 t.bits, .int .i64 t.var, .slice pt t.args.length ct] 25 (0, 0)) from PT.out)
  obtain ⟨⟨u0, u1, u2, u3, u4, u5⟩, _⟩ := six_free (show w2.heap[w.heap.size + 1]? = some (.cells #[.int .i64 u.kind, .string u.name, .string u.num, .int .u64 u.bits, .int .i64 u.var, .slice pu u.args.length cu] 25 (0, 0)) from PU.out)
  go_upto_region 4 with (first
    | (go_at_call 37; (with_reducible refine (CM.out _ BW.out).mono ?_); rintro y w3 ⟨qb, cb, Lb, Sb, rfl, hb, hlb, hb3⟩; replace PT := hid (obj_keep PT.out hb3); replace PU := hid (obj_keep PU.out hb3); replace BA := hid (BA.out.same fun k _ h => Below.block hb3 k h); replace BW := hid (BW.out.trans (Below.mono hb3 BW.out.size)); have BB := hid hb; have LB := hid hlb; have FB := hid (show ∀ x ∈ foot qa Sa, x < w2.heap.size from fun x hx => (FA.out x hx).2); have Z3 := hid (Below.size hb3); clear hb3 hb hlb CM)
    | fail)
  clear t0 t1 t2 t3 t4 t5 u0 u1 u2 u3 u4 u5
  obtain ⟨⟨t0, t1, t2, t3, t4, t5⟩, _⟩ := six_free (show w3.heap[w.heap.size]? = some (.cells #[.int .i64 t.kind, .string t.name, .string t.num, .int .u64 t.bits, .int .i64 t.var, .slice pt t.args.length ct] 25 (0, 0)) from PT.out)
  obtain ⟨⟨u0, u1, u2, u3, u4, u5⟩, _⟩ := six_free (show w3.heap[w.heap.size + 1]? = some (.cells #[.int .i64 u.kind, .string u.name, .string u.num, .int .u64 u.bits, .int .i64 u.var, .slice pu u.args.length cu] 25 (0, 0)) from PU.out)
  obtain ⟨V, hV2⟩ : ∃ V, V = w3.alloc (pobj t u pt pu ct cu) := ⟨_, rfl⟩
  have hbV := hid (show Below w3.heap.size w3 V by rw [hV2]; exact (Below.refl _ _).alloc (Nat.le_refl _) _)
  have PV := hid (show V.heap[w3.heap.size]? = some (pobj t u pt pu ct cu) by rw [hV2]; exact heap_alloc_new w3 _)
  have BV := hid (BW.out.trans (hbV.out.mono BW.out.size))
  have CFV := hid (CF.out V _ BV.out PV.out)
  unfold pobj at hV2
  go_upto_region 5 with (first
    | (go_at_call 12; rw [← hV2]; (with_reducible refine (CFV.out).mono ?_); rintro y w4 ⟨rfl, hb4⟩; have hb5 := hid (hbV.out.trans (Below.mono hb4 hbV.out.size)); replace PT := hid (obj_keep PT.out hb5.out); replace PU := hid (obj_keep PU.out hb5.out); replace BA := hid (BA.out.same fun k _ h => Below.block hb5.out k h); replace BB := hid (BB.out.same fun k _ h => Below.block hb5.out k h); replace BW := hid (BW.out.trans (Below.mono hb5.out BW.out.size)); have Z4 := hid (Below.size hb5.out); clear hb4 hb5 CFV CF hV2 hbV PV BV)
    | fail)
  clear t0 t1 t2 t3 t4 t5 u0 u1 u2 u3 u4 u5
  obtain ⟨w5, rfl⟩ : ∃ w5, w5 = w4 := ⟨_, rfl⟩
  have C1 := hid (CS.out w5 qa none ca 0 (by have h := BA.out.at_; rwa [LA.out] at h) (fun k h => by simp at h))
  go_upto_region 12 with (first
    | (go_at_call 27; (with_reducible refine (C1.out).mono ?_); rintro y w6 ⟨rfl, hb6⟩; replace PT := hid (obj_keep PT.out hb6); replace PU := hid (obj_keep PU.out hb6); replace BA := hid (BA.out.same fun k _ h => Below.block hb6 k h); replace BB := hid (BB.out.same fun k _ h => Below.block hb6 k h); replace BW := hid (BW.out.trans (Below.mono hb6 BW.out.size)); clear hb6 C1)
    | fail)
  clear PT PU
  go_wp2_with fail
  refine wp_loop_rounds 1 ?_
  rw [rounds_succ]
  have C2 := hid (CS.out w6 qb none cb 0 (by have h := BB.out.at_; rwa [LB.out] at h) (fun k h => by simp at h))
  go_wp2_with (first
    | (go_at_call 27; (with_reducible refine C2.out.mono ?_); rintro y w8 ⟨rfl, hb8⟩; replace BW := hid (BW.out.trans (Below.mono hb8 BW.out.size)); clear hb8)
    | fail)
  go_ret
  exact ⟨rfl, BW.out⟩

theorem matches_yes (t u : Tm) (pt pu : Option Addr) (ct cu : Nat) (w : World) (hU : Utf w) (ht : TmAt w t pt) (hu : TmAt w u pu) (dt : AllT DomA t) (du : AllT DomA u) :
    Calls Tryz.prog 8 #[t.val pt ct, u.val pu cu] w fun x w' => x = .returned (.bool true) ∧ Below w.heap.size w w' := by
  by_cases hV : checksErr vName numOk bitsOk [t, u] = 0
  · cases hm : matT t u [] with
    | some m => exact matches_yes1 t u pt pu ct cu w hU ht hu dt du hV m hm
    | none => exact matches_yes2 t u pt pu ct cu w hU ht hu dt du hV hm
  · exact matches_yes3 t u pt pu ct cu w hU ht hu dt du hV
end Go.Proofs.YtkapejcbmonfkaaGreatDoor

namespace Go.Proofs.YtkapejcbmonfkaaGreatDoor
open Go.ChangeShapes Go.WideShapes Go.ChangeAt Go.RowKit Go.Joins Go.ChangeMaps

theorem matches_params : ∀ t ∈ Tryz.f8.params.toList, Tryz.prog.readableRec t = true ∧ t < Tryz.prog.types.size := by
  intro t ht
  rw [Tryz.params8] at ht
  simp at ht
  subst ht; exact readsT

set_option maxRecDepth 100000 in
theorem matches_contract (H : Type) (enc : TypeId × Value → H) (W : World) (base : Nat) (args : Array Value) (ds gs : List (DataW H)) (before : List MemPlace)
    (hval : ∀ (j : Nat) t v, Tryz.f8.params[j]? = some t → args[j]? = some v → Value.okWide Tryz.prog W .any base t v)
    (hW : DataW.Whole enc Tryz.prog Tryz.f8.params.toList Rows.termMatchesSpec.vars false W args.toList ds gs before) (hL : laidMet Tryz.prog theLaid W) :
    Calls Tryz.prog 8 args W fun e W' => ∃ v, e = .returned v ∧ Rows.termMatchesSpec.post enc Tryz.prog Tryz.f8 false true false false W args v W' := by
  have hU := laid_facts hL
  have hW' := hW
  obtain ⟨p, q, hA0, hV, rfl, hfz, hnd⟩ := hW
  have hA : DataW.TrodAll enc Tryz.prog W 0 (fun _ => true) true Tryz.f8.params.toList args.toList ds p := hA0
  rw [Tryz.params8] at hA hval
  obtain ⟨v0, vs0, d0, ds0, p0, q0', hargs, rfl, rfl, h0, r0⟩ := trodAll_cons hA
  obtain ⟨v1, vs1, d1, ds1, p1, q1', rfl, rfl, rfl, h1, r1⟩ := trodAll_cons r0
  obtain ⟨rfl, rfl, rfl⟩ := trodAll_nil r1
  obtain rfl : args = #[v0, v1] := by cases args; simp_all
  obtain ⟨t0, q0, c0, rfl, hT0, hD0⟩ := open_term (hval 0 25 v0 rfl rfl) h0
  obtain ⟨t1, q1, c1, rfl, hT1, hD1⟩ := open_term (hval 1 25 v1 rfl rfl) h1
  refine (matches_yes t0 t1 q0 q1 c0 c1 W hU hT0 hT1 hD0 hD1).mono fun e W' ⟨he, hb⟩ => ⟨_, he, ?_⟩
  exact law_post matches_params rfl rfl rfl rfl rfl hW' hb

/-- The world of the witness. -/
noncomputable def matchesWorld (os : Os) : World := World.laidAll Tryz.prog os Rows.termMatchesRow.laid
noncomputable def matchesArgs : Array Value := #[.agg #[.int .i64 0, .string ByteArray.empty, .string ByteArray.empty, .int .u64 0, .int .i64 0, .slice none 0 0], .agg #[.int .i64 0, .string ByteArray.empty, .string ByteArray.empty, .int .u64 0, .int .i64 0, .slice none 0 0]]
set_option maxRecDepth 100000 in
theorem matches_laid (os : Os) : laidMet Tryz.prog Rows.termMatchesRow.laid ((matchesWorld os).forCall (fun _ _ => 0) ⟨#[], matchesArgs, []⟩).memory :=
  laidMet_laidAll _ (by kernel_rfl) (by kernel_rfl)
set_option maxRecDepth 100000 in
theorem matches_reads (os : Os) {H : Type} (enc : TypeId × Value → H) : ∃ places, DataW.whole enc Tryz.prog ((matchesWorld os).forCall (fun _ _ => 0) ⟨#[], matchesArgs, []⟩).memory Tryz.f8.params.toList Rows.termMatchesSpec.vars false matchesArgs.toList 8 =
    some ([.agg [.lit (.int .i64 0), .lit (.string []), .lit (.string []), .lit (.int .u64 0), .lit (.int .i64 0), .nil], .agg [.lit (.int .i64 0), .lit (.string []), .lit (.string []), .lit (.int .u64 0), .lit (.int .i64 0), .nil]], [], places) :=
  ⟨[], by kernel_rfl⟩

set_option maxRecDepth 100000 in
theorem matches_lifted (os : Os) (started : os.Started) (H : Type) (enc : TypeId × Value → H) (F : Stop.Interp) :
    ReturnsInHanded {} Tryz.checked os 8 .any ((OpenSpec.ofChange Rows.termMatchesSpec).preRow enc Tryz.prog Tryz.f8 Rows.termMatchesRow.domain false Rows.termMatchesRow.laid) (((OpenSpec.ofChange Rows.termMatchesSpec).at F).post enc Tryz.prog Tryz.f8 false true false false) := by
  obtain ⟨places, hx⟩ := matches_reads os enc
  refine returnsInHanded_of_row (C := Tryz.checked) (s := OpenSpec.ofChange Rows.termMatchesSpec) own started (by kernel_rfl) Tryz.func8
    (witness_row_atRef (enc := enc) (C := Tryz.checked) false (matchesWorld os) matchesArgs (World.laidAll_os _ _ _) (by kernel_rfl) (by kernel_rfl) (by kernel_rfl)
      (OpenSpec.preRow_of_cond 8 hx (by kernel_rfl) (fun k hk => by cases hk) (by kernel_rfl) (matches_laid os))) ?_
  intro W base args ds gs before hval hW _ _ hsz hL _ _
  exact matches_contract H enc W base args ds gs before hval hW hL

set_option maxRecDepth 100000 in
theorem matches_said : Rows.TermMatchesSaid :=
  OpenClaim.holds_of_cond 8 Tryz.f8 rfl rfl rfl rfl rfl rfl rfl ⟨rfl, rfl, rfl, rfl, rfl⟩ rfl rfl rfl rfl rfl (by kernel_rfl) Tryz.func8 (by kernel_rfl)
    (of_decide_eq_true (by kernel_rfl)) (by unfold Func.isWrapper; first | (rw [if_pos (by decide +kernel)]; kernel_rfl) | (rw [if_neg (by decide +kernel)]; exact ⟨rfl, rfl⟩))
    (fun os started H enc _ F => by rw [OpenClaim.pre_eq_preRow]; exact matches_lifted os started H enc F)

set_option maxRecDepth 100000 in
theorem matches_plain (f : FuncId) (fn : Func) (hf : Tryz.pinned.checked.prog.funcNamed "hornbeam/hornbeamlaw02.TermMatches" = some f) (hfn : Tryz.pinned.checked.prog.funcs[f]? = some fn) :
    false = Tryz.pinned.checked.prog.looks [] ∧ ∀ (j : Nat) t, fn.params[j]? = some t → Tryz.pinned.checked.prog.wantsStandIn t = false := by
  obtain rfl : f = 8 := Option.some.inj ((show Tryz.prog.funcNamed "hornbeam/hornbeamlaw02.TermMatches" = some 8 by kernel_rfl).symm.trans hf) |>.symm
  obtain rfl : fn = Tryz.f8 := (Option.some.inj (Tryz.func8.symm.trans hfn)).symm
  refine ⟨by kernel_rfl, fun j t ht => ?_⟩
  rw [Tryz.params8] at ht
  have hm := Array.mem_of_getElem? ht
  simp at hm
  subst hm
  exact (show Tryz.prog.wantsStandIn 25 = false by kernel_rfl)

set_option maxRecDepth 100000 in
theorem matches_card : Rows.TermMatchesCardSaid :=
  Claim7.holds_tied_plain_at .later [] _ _ _ _ matches_said (fun _ h => by cases h) (by kernel_rfl) (fun _ h => by cases h) termMatches_row_tie rfl ⟨rfl, rfl⟩ (by kernel_rfl) rfl matches_plain (by kernel_rfl)
end Go.Proofs.YtkapejcbmonfkaaGreatDoor
