/- Walk: Compare of any two trees. No condition but those that the theorem names. Walk of the document's Same: are two trees the same? No condition but those that each theorem names. The law TermOneOrder: it answers true of any three trees, where the tables of unicode/utf8 lie as its text lays them. -/
import Derived.Test.YtkapejcbmonfkaaGreatDoorT41m
namespace Go.Proofs.YtkapejcbmonfkaaGreatDoor
open Go.RowKit

theorem checks_two {t u : Tm} (dt : AllT DomA t) (du : AllT DomA u) (h : checksErr vName numOk bitsOk [t, u] = 0) : Valid t ∧ Valid u := by
  unfold checksErr checksErr checksErr at h
  by_cases h1 : checkErr vName numOk bitsOk t = 0
  · rw [if_pos h1] at h
    by_cases h2 : checkErr vName numOk bitsOk u = 0
    · exact ⟨⟨dt, h1⟩, ⟨du, h2⟩⟩
    · rw [if_neg h2] at h; exact absurd h h2
  · rw [if_neg h1] at h; exact absurd h h1
set_option maxRecDepth 100000 in
set_option maxHeartbeats 4000000 in
theorem compareBad_any (t u : Tm) (p q : Option Addr) (cp cq : Nat) (w : World) (hT : TmAt w t p) (hU : TmAt w u q) (dt : AllT DomA t) (du : AllT DomA u) (hX : Utf w) (hE : checksErr vName numOk bitsOk [t, u] ≠ 0) :
    Calls Tryz.prog 11 #[t.val p cp, u.val q cq] w fun e w' => e = .returned (.tuple #[.int .i64 0, .int .i64 (checksErr vName numOk bitsOk [t, u])]) ∧ Below w.heap.size w w' := by
  obtain ⟨W0, hW0⟩ : ∃ W0, W0 = ((w.alloc (tobj t p cp)).alloc (tobj u q cq)).alloc (pobj t u p q cp cq) := ⟨_, rfl⟩
  have hB := hid (show Below w.heap.size w W0 by rw [hW0]; exact (((Below.refl w.heap.size w).alloc (Nat.le_refl _) _).alloc (by simp) _).alloc (by simp; omega) _)
  have HS3 := hid (show W0.heap[w.heap.size + 1 + 1]? = some (pobj t u p q cp cq) by rw [hW0]; have h := heap_alloc_new ((w.alloc (tobj t p cp)).alloc (tobj u q cq)) (pobj t u p q cp cq); rw [World.size_alloc, World.size_alloc] at h; exact h)
  have CK := checks_any vName numOk bitsOk DomA [t, u] (some ⟨w.heap.size + 1 + 1, 0, none⟩) 2 W0 (by unfold maxLen; simp) (.inr ⟨_, _, rfl, row_two HS3.out (hT.keep hB.out) (hU.keep hB.out)⟩) (oracleA _ (hX.keep hB.out)) (by unfold AllR AllR AllR; exact ⟨dt, du, trivial⟩)
  generalize checksErr vName numOk bitsOk [t, u] = z at *
  have HC := hid (show Calls Tryz.prog 46 #[.slice (some ⟨w.heap.size + 1 + 1, 0, none⟩) 2 2] W0 fun e w' => e = .returned (.int .i64 z) ∧ Below W0.heap.size W0 w' from CK)
  have hq : (z == 0) = false := beq_eq_false_iff_ne.2 hE
  have hq2 : (z != 0) = true := by simp [hE]
  unfold tobj pobj at hW0
  unfold Tm.val
  clear CK HS3 hT hU dt du hX hE
  go_enter Tryz.func11, Tryz.ntmps11
  go_wp2_with (go_at_call 46; rw [← hW0]; (with_reducible refine HC.out.mono ?_); rintro e w1 ⟨rfl, hb1⟩; have B1 := hid (hB.out.trans (hb1.mono hB.out.size)); clear hb1 HC)
  go_ret2
  exact ⟨rfl, B1.out⟩
/-- Compare's answer. -/
def cmpAns (t u : Tm) : Int := if checksErr vName numOk bitsOk [t, u] = 0 then ordT t u else 0
theorem compareAll_any (t u : Tm) (p q : Option Addr) (cp cq : Nat) (w : World) (hT : TmAt w t p) (hU : TmAt w u q) (dt : AllT DomA t) (du : AllT DomA u) (hX : Utf w) :
    Calls Tryz.prog 11 #[t.val p cp, u.val q cq] w fun e w' => e = .returned (.tuple #[.int .i64 (cmpAns t u), .int .i64 (checksErr vName numOk bitsOk [t, u])]) ∧ Below w.heap.size w w' := by
  unfold cmpAns
  by_cases h : checksErr vName numOk bitsOk [t, u] = 0
  · obtain ⟨vt, vu⟩ := checks_two dt du h
    rw [if_pos h, h]
    exact compareT_any t u p q cp cq w hT hU vt vu hX
  · rw [if_neg h]
    exact compareBad_any t u p q cp cq w hT hU dt du hX h
end Go.Proofs.YtkapejcbmonfkaaGreatDoor

namespace Go.Proofs.YtkapejcbmonfkaaGreatDoor
open Go.RowKit

/-- Are two nodes alike but for their arguments? -/
def likeT (t u : Tm) : Bool := (t.kind == u.kind) && (t.name.toList == u.name.toList) && (t.num.toList == u.num.toList) && (t.bits == u.bits) && (t.var == u.var) && ((t.args.length : Int) == (u.args.length : Int))
mutual
def sameT : Tm → Tm → Bool
  | .mk k n x b v l, u => likeT (.mk k n x b v l) u && sameL l u.args
def sameL : List Tm → List Tm → Bool
  | [], _ => true
  | _ :: _, [] => true
  | t :: l, u :: m => sameT t u && sameL l m
end
theorem sameT_eq (t u : Tm) : sameT t u = (likeT t u && sameL t.args u.args) := by cases t; rw [sameT]; rfl
theorem likeT_iff (t u : Tm) : likeT t u = true ↔ t.kind = u.kind ∧ t.name = u.name ∧ t.num = u.num ∧ t.bits = u.bits ∧ t.var = u.var ∧ t.args.length = u.args.length := by
  unfold likeT
  rw [names_eq, names_eq]
  simp only [Bool.and_eq_true, beq_iff_eq, decide_eq_true_eq]
  constructor
  · rintro ⟨⟨⟨⟨⟨h1, h2⟩, h3⟩, h4⟩, h5⟩, h6⟩; exact ⟨h1, h2, h3, h4, h5, by omega⟩
  · rintro ⟨h1, h2, h3, h4, h5, h6⟩; exact ⟨⟨⟨⟨⟨h1, h2⟩, h3⟩, h4⟩, h5⟩, by omega⟩
mutual
theorem sameT_iff : ∀ (t u : Tm), sameT t u = true ↔ t = u
  | .mk k n x b v l, u => by
    have hL := sameL_iff l u.args
    rw [sameT_eq, Bool.and_eq_true, likeT_iff]
    cases u with
    | mk k' n' x' b' v' l' =>
      simp only [Tm.kind, Tm.name, Tm.num, Tm.bits, Tm.var, Tm.args] at *
      constructor
      · rintro ⟨⟨rfl, rfl, rfl, rfl, rfl, h⟩, h2⟩
        rw [(hL h).1 h2]
      · intro h
        injection h with h1 h2 h3 h4 h5 h6
        subst h1 h2 h3 h4 h5 h6
        exact ⟨⟨rfl, rfl, rfl, rfl, rfl, rfl⟩, (hL rfl).2 rfl⟩
theorem sameL_iff : ∀ (l m : List Tm), l.length = m.length → (sameL l m = true ↔ l = m)
  | [], [], _ => by simp [sameL]
  | [], _ :: _, e => by simp at e
  | _ :: _, [], e => by simp at e
  | t :: l, u :: m, e => by
    have h1 := sameT_iff t u
    have h2 := sameL_iff l m (by simpa using e)
    show (sameT t u && sameL l m) = true ↔ _
    rw [Bool.and_eq_true, h1, h2]
    simp
end
theorem sameL_drop : ∀ (l m : List Tm) (k : Nat) (h : k < l.length) (h' : k < m.length), sameL (l.drop k) (m.drop k) = (sameT l[k] m[k] && sameL (l.drop (k + 1)) (m.drop (k + 1)))
  | [], _, k, h, _ => by simp at h
  | _ :: _, [], k, _, h => by simp at h
  | t :: l, u :: m, 0, _, _ => by simp [sameL]
  | t :: l, u :: m, k + 1, h, h' => by
    have := sameL_drop l m k (by simpa using h) (by simpa using h')
    simpa using this
set_option maxRecDepth 100000 in
set_option maxHeartbeats 8000000 in
theorem same_any (d : Nat) : ∀ (t u : Tm) (p q : Option Addr) (cp cq : Nat) (w : World), nodes t ≤ d → TmAt w t p → TmAt w u q →
    Calls Tryz.prog 25 #[t.val p cp, u.val q cq] w fun e w' => e = .returned (.bool (sameT t u)) ∧ Below w.heap.size w w' := by
  induction d with
  | zero => intro t u p q cp cq w h; have := nodes_pos t; omega
  | succ d ih =>
    intro t u p q cp cq w hd hT hU
    obtain ⟨W0, hW0⟩ : ∃ W0, W0 = (w.alloc (tobj t p cp)).alloc (tobj u q cq) := ⟨_, rfl⟩
    have hB := hid (show Below w.heap.size w W0 by rw [hW0]; exact ((Below.refl w.heap.size w).alloc (Nat.le_refl _) _).alloc (by simp) _)
    have HS2 := hid (show W0.heap[w.heap.size + 1]? = some (tobj u q cq) by rw [hW0]; have h := heap_alloc_new (w.alloc (tobj t p cp)) (tobj u q cq); rwa [World.size_alloc] at h)
    have HS1 := hid (show W0.heap[w.heap.size]? = some (tobj t p cp) by rw [hW0]; exact (heap_alloc_old (w.alloc (tobj t p cp)) _ (by simp)).trans (heap_alloc_new w _))
    have HT := hid (hT.keep hB.out)
    have HU := hid (hU.keep hB.out)
    have HNE := hid (fun k (h : k < t.args.length) => (show nodes t.args[k] ≤ d by have := nodes_lt h; omega))
    have hlt := hT.len
    have hlu := hU.len
    unfold maxLen at hlt hlu
    obtain ⟨x0, x1, x2, x3, x4, x5⟩ := six_of HS1.out
    obtain ⟨y0, y1, y2, y3, y4, y5⟩ := six_of HS2.out
    have SX := hid (show ∀ W : World, Below W0.heap.size W0 W → (W.cell? ⟨w.heap.size, 5, none⟩ = some (.slice p t.args.length cp) ∧ W.cell? ⟨w.heap.size + 1, 5, none⟩ = some (.slice q u.args.length cq)) from fun W h =>
      ⟨(six_of (obj_keep HS1.out h)).c5, (six_of (obj_keep HS2.out h)).c5⟩)
    obtain ⟨r, hr⟩ : ∃ r, r = sameT t u := ⟨_, rfl⟩
    rw [← hr]
    have HR := hid (hr.trans (sameT_eq t u))
    clear hr hT hU HS1 HS2
    unfold tobj at hW0
    unfold Tm.val at ih ⊢
    have IH := hid ih
    clear ih
    by_cases n0 : t.kind = u.kind
    rotate_left
    · have hl : likeT t u = false := by
        cases h : likeT t u with
        | false => rfl
        | true => exact absurd ((likeT_iff t u).1 h).1 n0
      have HF := hid (show r = false by rw [HR.out, hl]; rfl)
      have c0 : (t.kind == u.kind) = false := beq_eq_false_iff_ne.2 n0
      have k0 : (t.kind != u.kind) = true := by rw [bne, c0]; rfl
      clear HR HNE IH HT HU SX hl n0
      go_enter Tryz.func25, Tryz.ntmps25
      go_wp2_with fail
      go_ret
      exact ⟨by rw [HF.out]; rfl, ((Below.refl w.heap.size w).alloc (Nat.le_refl _) _).alloc (by simp) _⟩
    have E0 := hid n0
    clear n0
    rw [← E0.out] at y0 hW0 ⊢
    by_cases n1 : t.name = u.name
    rotate_left
    · have hl : likeT t u = false := by
        cases h : likeT t u with
        | false => rfl
        | true => exact absurd ((likeT_iff t u).1 h).2.1 n1
      have HF := hid (show r = false by rw [HR.out, hl]; rfl)
      have c1 : (t.name.toList == u.name.toList) = false := (names_eq _ _).trans (decide_eq_false n1)
      have k1 : (t.name.toList != u.name.toList) = true := by rw [bne, c1]; rfl
      clear HR HNE IH HT HU SX hl n1
      go_enter Tryz.func25, Tryz.ntmps25
      go_wp2_with fail
      go_ret
      exact ⟨by rw [HF.out]; rfl, ((Below.refl w.heap.size w).alloc (Nat.le_refl _) _).alloc (by simp) _⟩
    have E1 := hid n1
    clear n1
    rw [← E1.out] at y1 hW0 ⊢
    by_cases n2 : t.num = u.num
    rotate_left
    · have hl : likeT t u = false := by
        cases h : likeT t u with
        | false => rfl
        | true => exact absurd ((likeT_iff t u).1 h).2.2.1 n2
      have HF := hid (show r = false by rw [HR.out, hl]; rfl)
      have c2 : (t.num.toList == u.num.toList) = false := (names_eq _ _).trans (decide_eq_false n2)
      have k2 : (t.num.toList != u.num.toList) = true := by rw [bne, c2]; rfl
      clear HR HNE IH HT HU SX hl n2
      go_enter Tryz.func25, Tryz.ntmps25
      go_wp2_with fail
      go_ret
      exact ⟨by rw [HF.out]; rfl, ((Below.refl w.heap.size w).alloc (Nat.le_refl _) _).alloc (by simp) _⟩
    have E2 := hid n2
    clear n2
    rw [← E2.out] at y2 hW0 ⊢
    by_cases n3 : t.bits = u.bits
    rotate_left
    · have hl : likeT t u = false := by
        cases h : likeT t u with
        | false => rfl
        | true => exact absurd ((likeT_iff t u).1 h).2.2.2.1 n3
      have HF := hid (show r = false by rw [HR.out, hl]; rfl)
      have c3 : (t.bits == u.bits) = false := beq_eq_false_iff_ne.2 n3
      have k3 : (t.bits != u.bits) = true := by rw [bne, c3]; rfl
      clear HR HNE IH HT HU SX hl n3
      go_enter Tryz.func25, Tryz.ntmps25
      go_wp2_with fail
      go_ret
      exact ⟨by rw [HF.out]; rfl, ((Below.refl w.heap.size w).alloc (Nat.le_refl _) _).alloc (by simp) _⟩
    have E3 := hid n3
    clear n3
    rw [← E3.out] at y3 hW0 ⊢
    by_cases n4 : t.var = u.var
    rotate_left
    · have hl : likeT t u = false := by
        cases h : likeT t u with
        | false => rfl
        | true => exact absurd ((likeT_iff t u).1 h).2.2.2.2.1 n4
      have HF := hid (show r = false by rw [HR.out, hl]; rfl)
      have c4 : (t.var == u.var) = false := beq_eq_false_iff_ne.2 n4
      have k4 : (t.var != u.var) = true := by rw [bne, c4]; rfl
      clear HR HNE IH HT HU SX hl n4
      go_enter Tryz.func25, Tryz.ntmps25
      go_wp2_with fail
      go_ret
      exact ⟨by rw [HF.out]; rfl, ((Below.refl w.heap.size w).alloc (Nat.le_refl _) _).alloc (by simp) _⟩
    have E4 := hid n4
    clear n4
    rw [← E4.out] at y4 hW0 ⊢
    by_cases n5 : t.args.length = u.args.length
    rotate_left
    · have hl : likeT t u = false := by
        cases h : likeT t u with
        | false => rfl
        | true => exact absurd ((likeT_iff t u).1 h).2.2.2.2.2 n5
      have HF := hid (show r = false by rw [HR.out, hl]; rfl)
      have c5 : ((t.args.length : Int) == (u.args.length : Int)) = false := beq_eq_false_iff_ne.2 (by omega)
      have k5 : ((t.args.length : Int) != (u.args.length : Int)) = true := by rw [bne, c5]; rfl
      clear HR HNE IH HT HU SX hl n5
      go_enter Tryz.func25, Tryz.ntmps25
      go_wp2_with fail
      go_ret
      exact ⟨by rw [HF.out]; rfl, ((Below.refl w.heap.size w).alloc (Nat.le_refl _) _).alloc (by simp) _⟩
    have E5 := hid n5
    clear n5
    rw [← E5.out] at y5 hW0 ⊢
    have hlen := E5
    have HR2 := hid (show r = sameL (t.args.drop 0) (u.args.drop 0) by rw [HR.out, (likeT_iff t u).2 ⟨E0.out, E1.out, E2.out, E3.out, E4.out, E5.out⟩]; rfl)
    clear HR
    go_enter Tryz.func25, Tryz.ntmps25
    go_wp2_with fail
    rw [← hW0]
    have R0 := hid (Below.refl W0.heap.size W0)
    clear hW0 x0 x1 x2 x3 x4 x5 y0 y1 y2 y3 y4 y5
    go_loopw [5] (fun i wr => ∃ k : Nat, k ≤ t.args.length ∧ i = .int .i64 (k : Int) ∧ Hid (r = sameL (t.args.drop k) (u.args.drop k)) ∧ Hid (Below W0.heap.size W0 wr)) (fun i _ => t.args.length - (intOf i).toNat)
    case atStart => exact ⟨0, by omega, rfl, HR2, R0⟩
    case round =>
            clear HR2 R0
            obtain ⟨k, hk, rfl, hr, hBr⟩ := hrel
            obtain ⟨g5, k5⟩ := SX.out wr hBr.out
            by_cases hlt : k < t.args.length
            · have hlt2 : k < u.args.length := by rw [← hlen.out]; exact hlt
              have hk0 : (0 : Int) ≤ (k : Int) := by omega
              have hk1 : (k : Int) < (t.args.length : Int) := by omega
              have hk2 : (k : Int) < (u.args.length : Int) := by omega
              obtain ⟨b, o, rfl, e1, c1', hs1, ht1⟩ := (HT.out.keep hBr.out).get k hlt
              obtain ⟨b2, o2, rfl, e2, c2', hs2, ht2⟩ := (HU.out.keep hBr.out).get k hlt2
              have HCALL := hid (fun (W : World) (h : Below wr.heap.size wr W) => IH.out t.args[k] u.args[k] e1 e2 c1' c2' W (HNE.out k hlt) (ht1.keep h) (ht2.keep h))
              have HRK := hid (hr.out.trans (sameL_drop t.args u.args k hlt hlt2))
              have RR := hid (Below.refl wr.heap.size wr)
              clear hr ht1 ht2
              generalize t.args[k] = t1 at *
              generalize u.args[k] = u1 at *
              generalize sameT t1 u1 = z at *
              have SR := hid (show ∀ W : World, Below wr.heap.size wr W → (W.cell? ⟨w.heap.size, 5, none⟩ = some (.slice (some ⟨b, o, none⟩) t.args.length cp) ∧ W.cell? ⟨w.heap.size + 1, 5, none⟩ = some (.slice (some ⟨b2, o2, none⟩) u.args.length cq) ∧ W.cell? ⟨b, o + k * 6, none⟩ = some (.int .i64 t1.kind) ∧ W.cell? ⟨b, o + k * 6 + 1, none⟩ = some (.string t1.name) ∧ W.cell? ⟨b, o + k * 6 + 2, none⟩ = some (.string t1.num) ∧ W.cell? ⟨b, o + k * 6 + 3, none⟩ = some (.int .u64 t1.bits) ∧ W.cell? ⟨b, o + k * 6 + 4, none⟩ = some (.int .i64 t1.var) ∧ W.cell? ⟨b, o + k * 6 + 5, none⟩ = some (.slice e1 t1.args.length c1') ∧ W.cell? ⟨b2, o2 + k * 6, none⟩ = some (.int .i64 u1.kind) ∧ W.cell? ⟨b2, o2 + k * 6 + 1, none⟩ = some (.string u1.name) ∧ W.cell? ⟨b2, o2 + k * 6 + 2, none⟩ = some (.string u1.num) ∧ W.cell? ⟨b2, o2 + k * 6 + 3, none⟩ = some (.int .u64 u1.bits) ∧ W.cell? ⟨b2, o2 + k * 6 + 4, none⟩ = some (.int .i64 u1.var) ∧ W.cell? ⟨b2, o2 + k * 6 + 5, none⟩ = some (.slice e2 u1.args.length c2')) from fun W h =>
                have m1 := hs1.keep h
                have m2 := hs2.keep h
                have n := SX.out W (bl_call hBr.out h)
                ⟨n.1, n.2, m1.c0, m1.c1, m1.c2, m1.c3, m1.c4, m1.c5, m2.c0, m2.c1, m2.c2, m2.c3, m2.c4, m2.c5⟩)
              have sr := SR.out wr RR.out
              clear hs1 hs2
              cases z
              · have HRN := hid (show r = false from HRK.out)
                clear HRK
                go_wp2_with fail
                go_region_held3 (fun w' => w'.cell? ⟨w.heap.size, 5, none⟩ = some (.slice (some ⟨b, o, none⟩) t.args.length cp) ∧ w'.cell? ⟨w.heap.size + 1, 5, none⟩ = some (.slice (some ⟨b2, o2, none⟩) u.args.length cq) ∧ w'.cell? ⟨b, o + k * 6, none⟩ = some (.int .i64 t1.kind) ∧ w'.cell? ⟨b, o + k * 6 + 1, none⟩ = some (.string t1.name) ∧ w'.cell? ⟨b, o + k * 6 + 2, none⟩ = some (.string t1.num) ∧ w'.cell? ⟨b, o + k * 6 + 3, none⟩ = some (.int .u64 t1.bits) ∧ w'.cell? ⟨b, o + k * 6 + 4, none⟩ = some (.int .i64 t1.var) ∧ w'.cell? ⟨b, o + k * 6 + 5, none⟩ = some (.slice e1 t1.args.length c1') ∧ w'.cell? ⟨b2, o2 + k * 6, none⟩ = some (.int .i64 u1.kind) ∧ w'.cell? ⟨b2, o2 + k * 6 + 1, none⟩ = some (.string u1.name) ∧ w'.cell? ⟨b2, o2 + k * 6 + 2, none⟩ = some (.string u1.num) ∧ w'.cell? ⟨b2, o2 + k * 6 + 3, none⟩ = some (.int .u64 u1.bits) ∧ w'.cell? ⟨b2, o2 + k * 6 + 4, none⟩ = some (.int .i64 u1.var) ∧ w'.cell? ⟨b2, o2 + k * 6 + 5, none⟩ = some (.slice e2 u1.args.length c2'))
                  (first
                    | (with_reducible exact sr)
                    | (with_reducible exact SR.out _ (bl_drew RR.out))
                    | (with_reducible exact SR.out _ C2.out)
                    | fail)
                  ((first
                    | (go_at_call 25; (with_reducible refine (HCALL.out _ (bl_drew RR.out)).mono ?_); rintro e w2 ⟨rfl, hb2⟩; have C2 := hid (bl_call (bl_drew RR.out) hb2); clear hb2)))
                go_wp2
                go_ret
                exact ⟨by rw [HRN.out]; rfl, hB.out.trans ((bl_call hBr.out C2.out).mono hB.out.size)⟩
              · have HRN := hid (show r = sameL (t.args.drop (k + 1)) (u.args.drop (k + 1)) from HRK.out)
                clear HRK
                go_wp2_with fail
                go_region_held3 (fun w' => w'.cell? ⟨w.heap.size, 5, none⟩ = some (.slice (some ⟨b, o, none⟩) t.args.length cp) ∧ w'.cell? ⟨w.heap.size + 1, 5, none⟩ = some (.slice (some ⟨b2, o2, none⟩) u.args.length cq) ∧ w'.cell? ⟨b, o + k * 6, none⟩ = some (.int .i64 t1.kind) ∧ w'.cell? ⟨b, o + k * 6 + 1, none⟩ = some (.string t1.name) ∧ w'.cell? ⟨b, o + k * 6 + 2, none⟩ = some (.string t1.num) ∧ w'.cell? ⟨b, o + k * 6 + 3, none⟩ = some (.int .u64 t1.bits) ∧ w'.cell? ⟨b, o + k * 6 + 4, none⟩ = some (.int .i64 t1.var) ∧ w'.cell? ⟨b, o + k * 6 + 5, none⟩ = some (.slice e1 t1.args.length c1') ∧ w'.cell? ⟨b2, o2 + k * 6, none⟩ = some (.int .i64 u1.kind) ∧ w'.cell? ⟨b2, o2 + k * 6 + 1, none⟩ = some (.string u1.name) ∧ w'.cell? ⟨b2, o2 + k * 6 + 2, none⟩ = some (.string u1.num) ∧ w'.cell? ⟨b2, o2 + k * 6 + 3, none⟩ = some (.int .u64 u1.bits) ∧ w'.cell? ⟨b2, o2 + k * 6 + 4, none⟩ = some (.int .i64 u1.var) ∧ w'.cell? ⟨b2, o2 + k * 6 + 5, none⟩ = some (.slice e2 u1.args.length c2'))
                  (first
                    | (with_reducible exact sr)
                    | (with_reducible exact SR.out _ (bl_drew RR.out))
                    | (with_reducible exact SR.out _ C2.out)
                    | fail)
                  ((first
                    | (go_at_call 25; (with_reducible refine (HCALL.out _ (bl_drew RR.out)).mono ?_); rintro e w2 ⟨rfl, hb2⟩; have C2 := hid (bl_call (bl_drew RR.out) hb2); clear hb2)))
                go_wp2
                go_roundw
                case rel => exact ⟨k + 1, by omega, by go_num, HRN, hid (bl_call hBr.out C2.out)⟩
                case measure => simp [intOf]; omega
            · obtain rfl : k = t.args.length := by omega
              have HRN := hid (show r = true by rw [hr.out, List.drop_length]; simp [sameL])
              clear hr hlt
              go_wp2_with fail
              go_ret
              exact ⟨by rw [HRN.out]; rfl, hB.out.trans (hBr.out.mono hB.out.size)⟩
end Go.Proofs.YtkapejcbmonfkaaGreatDoor

namespace Go.Proofs.YtkapejcbmonfkaaGreatDoor
open Go.RowKit

theorem orI_range {x y : Int} (h1 : -1 ≤ x ∧ x ≤ 1) (h2 : -1 ≤ y ∧ y ≤ 1) : -1 ≤ orI x y ∧ orI x y ≤ 1 := by unfold orI; split <;> assumption
theorem cmpI_range (x y : Int) : -1 ≤ cmpI x y ∧ cmpI x y ≤ 1 := by unfold cmpI; split <;> (try split) <;> omega
theorem cmpS_range (x y : List UInt8) : -1 ≤ cmpS x y ∧ cmpS x y ≤ 1 := by unfold cmpS; split <;> (try split) <;> omega
theorem cmpF_range (x y : Int) : -1 ≤ cmpF x y ∧ cmpF x y ≤ 1 := by unfold cmpF; split <;> omega
theorem digits_range (x y : ByteArray) : -1 ≤ digitsWay x y ∧ digitsWay x y ≤ 1 := orI_range (cmpI_range _ _) (cmpS_range _ _)
theorem nums_range (x y : ByteArray) : -1 ≤ numsWay x y ∧ numsWay x y ≤ 1 := by
  have h1 := digits_range (bareT y) (bareT x)
  have h2 := digits_range (bareT x) (bareT y)
  unfold numsWay
  split <;> split <;> omega
mutual
theorem ordT_range : ∀ (t u : Tm), -1 ≤ ordT t u ∧ ordT t u ≤ 1
  | .mk k n x b v l, u => by
    have hL := ordL_range l u.args
    rw [ordT]
    refine orI_range (cmpI_range _ _) ?_
    split
    · exact cmpI_range _ _
    split
    · exact cmpF_range _ _
    split
    · exact nums_range _ _
    · exact orI_range (orI_range (cmpI_range _ _) (cmpS_range _ _)) hL
theorem ordL_range : ∀ (l m : List Tm), -1 ≤ ordL l m ∧ ordL l m ≤ 1
  | [], _ => by simp [ordL]
  | _ :: _, [] => by simp [ordL]
  | t :: l, u :: m => orI_range (ordT_range t u) (ordL_range l m)
end
theorem row_three {W : World} {g : Nat} {a b c : Tm} {pa pb pc : Option Addr} {ca cb cc : Nat} (h : W.heap[g]? = some (.cells #[.int .i64 a.kind, .string a.name, .string a.num, .int .u64 a.bits, .int .i64 a.var, .slice pa a.args.length ca, .int .i64 b.kind, .string b.name, .string b.num, .int .u64 b.bits, .int .i64 b.var, .slice pb b.args.length cb, .int .i64 c.kind, .string c.name, .string c.num, .int .u64 c.bits, .int .i64 c.var, .slice pc c.args.length cc] 25))
    (ha : TmAt W a pa) (hb : TmAt W b pb) (hc : TmAt W c pc) : RowT W [a, b, c] g 0 := by
  unfold RowT
  refine ⟨⟨pa, ca, ⟨(cells_of h 0).trans rfl, (cells_of h 1).trans rfl, (cells_of h 2).trans rfl, (cells_of h 3).trans rfl, (cells_of h 4).trans rfl, (cells_of h 5).trans rfl⟩, ha⟩, ?_⟩
  unfold RowT
  refine ⟨⟨pb, cb, ⟨(cells_of h 6).trans rfl, (cells_of h 7).trans rfl, (cells_of h 8).trans rfl, (cells_of h 9).trans rfl, (cells_of h 10).trans rfl, (cells_of h 11).trans rfl⟩, hb⟩, ?_⟩
  unfold RowT
  refine ⟨⟨pc, cc, ⟨(cells_of h 12).trans rfl, (cells_of h 13).trans rfl, (cells_of h 14).trans rfl, (cells_of h 15).trans rfl, (cells_of h 16).trans rfl, (cells_of h 17).trans rfl⟩, hc⟩, ?_⟩
  unfold RowT
  trivial
theorem checks_valid {l : List Tm} (hD : ∀ t ∈ l, AllT DomA t) (h : checksErr vName numOk bitsOk l = 0) : ∀ t ∈ l, Valid t := by
  induction l with
  | nil => intro t ht; cases ht
  | cons u l ih =>
    unfold checksErr at h
    by_cases h0 : checkErr vName numOk bitsOk u = 0
    · rw [if_pos h0] at h
      intro t ht
      rcases List.mem_cons.1 ht with rfl | ht
      · exact ⟨hD _ (by simp), h0⟩
      · exact ih (fun t ht => hD t (by simp [ht])) h t ht
    · rw [if_neg h0] at h; exact absurd h h0
end Go.Proofs.YtkapejcbmonfkaaGreatDoor
