/- Walk of the document's Same: are two trees the same? No condition but those that each theorem names. The law TermOneOrder: it answers true of any three trees, where the tables of unicode/utf8 lie as its text lays them. -/
import Derived.Test.YtpdclfihleoigaaDoorT41m
namespace Go.Proofs.YtpdclfihleoigaaDoor
open Go.RowKit

/-- Are two nodes alike but for their arguments? -/
def likeT (t u : Tm) : Bool := (t.kind == u.kind) && (t.name.toList == u.name.toList) && (t.num.toList == u.num.toList) && (t.bits == u.bits) && (t.var == u.var) && ((t.args.length : Int) == (u.args.length : Int))
mutual
def sameT : Tm → Tm → Bool
  | .mk k n x b v l, u => likeT (.mk k n x b v l) u && sameL l u.args
def sameL : List Tm → List Tm → Bool
  | [], _ => true
  | _ :: _, [] => true
  | t :: l, u :: m => sameT t u && sameL l m
end
theorem sameT_eq (t u : Tm) : sameT t u = (likeT t u && sameL t.args u.args) := by cases t; rw [sameT]; rfl
theorem likeT_iff (t u : Tm) : likeT t u = true ↔ t.kind = u.kind ∧ t.name = u.name ∧ t.num = u.num ∧ t.bits = u.bits ∧ t.var = u.var ∧ t.args.length = u.args.length := by
  unfold likeT
  rw [names_eq, names_eq]
  simp only [Bool.and_eq_true, beq_iff_eq, decide_eq_true_eq]
  constructor
  · rintro ⟨⟨⟨⟨⟨h1, h2⟩, h3⟩, h4⟩, h5⟩, h6⟩; exact ⟨h1, h2, h3, h4, h5, by omega⟩
  · rintro ⟨h1, h2, h3, h4, h5, h6⟩; exact ⟨⟨⟨⟨⟨h1, h2⟩, h3⟩, h4⟩, h5⟩, by omega⟩
mutual
theorem sameT_iff : ∀ (t u : Tm), sameT t u = true ↔ t = u
  | .mk k n x b v l, u => by
    have hL := sameL_iff l u.args
    rw [sameT_eq, Bool.and_eq_true, likeT_iff]
    cases u with
    | mk k' n' x' b' v' l' =>
      simp only [Tm.kind, Tm.name, Tm.num, Tm.bits, Tm.var, Tm.args] at *
      constructor
      · rintro ⟨⟨rfl, rfl, rfl, rfl, rfl, h⟩, h2⟩
        rw [(hL h).1 h2]
      · intro h
        injection h with h1 h2 h3 h4 h5 h6
        subst h1 h2 h3 h4 h5 h6
        exact ⟨⟨rfl, rfl, rfl, rfl, rfl, rfl⟩, (hL rfl).2 rfl⟩
theorem sameL_iff : ∀ (l m : List Tm), l.length = m.length → (sameL l m = true ↔ l = m)
  | [], [], _ => by simp [sameL]
  | [], _ :: _, e => by simp at e
  | _ :: _, [], e => by simp at e
  | t :: l, u :: m, e => by
    have h1 := sameT_iff t u
    have h2 := sameL_iff l m (by simpa using e)
    show (sameT t u && sameL l m) = true ↔ _
    rw [Bool.and_eq_true, h1, h2]
    simp
end
theorem sameL_drop : ∀ (l m : List Tm) (k : Nat) (h : k < l.length) (h' : k < m.length), sameL (l.drop k) (m.drop k) = (sameT l[k] m[k] && sameL (l.drop (k + 1)) (m.drop (k + 1)))
  | [], _, k, h, _ => by simp at h
  | _ :: _, [], k, _, h => by simp at h
  | t :: l, u :: m, 0, _, _ => by simp [sameL]
  | t :: l, u :: m, k + 1, h, h' => by
    have := sameL_drop l m k (by simpa using h) (by simpa using h')
    simpa using this
set_option maxRecDepth 100000 in
set_option maxHeartbeats 8000000 in
theorem same_any (d : Nat) : ∀ (t u : Tm) (p q : Option Addr) (cp cq : Nat) (w : World), nodes t ≤ d → TmAt w t p → TmAt w u q →
    Calls Tryd.prog 13 #[t.val p cp, u.val q cq] w fun e w' => e = .returned (.bool (sameT t u)) ∧ Below w.heap.size w w' := by
  induction d with
  | zero => intro t u p q cp cq w h; have := nodes_pos t; omega
  | succ d ih =>
    intro t u p q cp cq w hd hT hU
    obtain ⟨W0, hW0⟩ : ∃ W0, W0 = (w.alloc (tobj t p cp)).alloc (tobj u q cq) := ⟨_, rfl⟩
    have hB := hid (show Below w.heap.size w W0 by rw [hW0]; exact ((Below.refl w.heap.size w).alloc (Nat.le_refl _) _).alloc (by simp) _)
    have HS2 := hid (show W0.heap[w.heap.size + 1]? = some (tobj u q cq) by rw [hW0]; have h := heap_alloc_new (w.alloc (tobj t p cp)) (tobj u q cq); rwa [World.size_alloc] at h)
    have HS1 := hid (show W0.heap[w.heap.size]? = some (tobj t p cp) by rw [hW0]; exact (heap_alloc_old (w.alloc (tobj t p cp)) _ (by simp)).trans (heap_alloc_new w _))
    have HT := hid (hT.keep hB.out)
    have HU := hid (hU.keep hB.out)
    have HNE := hid (fun k (h : k < t.args.length) => (show nodes t.args[k] ≤ d by have := nodes_lt h; omega))
    have hlt := hT.len
    have hlu := hU.len
    unfold maxLen at hlt hlu
    obtain ⟨x0, x1, x2, x3, x4, x5⟩ := six_of HS1.out
    obtain ⟨y0, y1, y2, y3, y4, y5⟩ := six_of HS2.out
    have SX := hid (show ∀ W : World, Below W0.heap.size W0 W → (W.cell? ⟨w.heap.size, 5, none⟩ = some (.slice p t.args.length cp) ∧ W.cell? ⟨w.heap.size + 1, 5, none⟩ = some (.slice q u.args.length cq)) from fun W h =>
      ⟨(six_of (obj_keep HS1.out h)).c5, (six_of (obj_keep HS2.out h)).c5⟩)
    obtain ⟨r, hr⟩ : ∃ r, r = sameT t u := ⟨_, rfl⟩
    rw [← hr]
    have HR := hid (hr.trans (sameT_eq t u))
    clear hr hT hU HS1 HS2
    unfold tobj at hW0
    unfold Tm.val at ih ⊢
    have IH := hid ih
    clear ih
    by_cases n0 : t.kind = u.kind
    rotate_left
    · have hl : likeT t u = false := by
        cases h : likeT t u with
        | false => rfl
        | true => exact absurd ((likeT_iff t u).1 h).1 n0
      have HF := hid (show r = false by rw [HR.out, hl]; rfl)
      have c0 : (t.kind == u.kind) = false := beq_eq_false_iff_ne.2 n0
      have k0 : (t.kind != u.kind) = true := by rw [bne, c0]; rfl
      clear HR HNE IH HT HU SX hl n0
      go_enter Tryd.func13, Tryd.ntmps13
      go_wp2_with fail
      go_ret
      exact ⟨by rw [HF.out]; rfl, ((Below.refl w.heap.size w).alloc (Nat.le_refl _) _).alloc (by simp) _⟩
    have E0 := hid n0
    clear n0
    rw [← E0.out] at y0 hW0 ⊢
    by_cases n1 : t.name = u.name
    rotate_left
    · have hl : likeT t u = false := by
        cases h : likeT t u with
        | false => rfl
        | true => exact absurd ((likeT_iff t u).1 h).2.1 n1
      have HF := hid (show r = false by rw [HR.out, hl]; rfl)
      have c1 : (t.name.toList == u.name.toList) = false := (names_eq _ _).trans (decide_eq_false n1)
      have k1 : (t.name.toList != u.name.toList) = true := by rw [bne, c1]; rfl
      clear HR HNE IH HT HU SX hl n1
      go_enter Tryd.func13, Tryd.ntmps13
      go_wp2_with fail
      go_ret
      exact ⟨by rw [HF.out]; rfl, ((Below.refl w.heap.size w).alloc (Nat.le_refl _) _).alloc (by simp) _⟩
    have E1 := hid n1
    clear n1
    rw [← E1.out] at y1 hW0 ⊢
    by_cases n2 : t.num = u.num
    rotate_left
    · have hl : likeT t u = false := by
        cases h : likeT t u with
        | false => rfl
        | true => exact absurd ((likeT_iff t u).1 h).2.2.1 n2
      have HF := hid (show r = false by rw [HR.out, hl]; rfl)
      have c2 : (t.num.toList == u.num.toList) = false := (names_eq _ _).trans (decide_eq_false n2)
      have k2 : (t.num.toList != u.num.toList) = true := by rw [bne, c2]; rfl
      clear HR HNE IH HT HU SX hl n2
      go_enter Tryd.func13, Tryd.ntmps13
      go_wp2_with fail
      go_ret
      exact ⟨by rw [HF.out]; rfl, ((Below.refl w.heap.size w).alloc (Nat.le_refl _) _).alloc (by simp) _⟩
    have E2 := hid n2
    clear n2
    rw [← E2.out] at y2 hW0 ⊢
    by_cases n3 : t.bits = u.bits
    rotate_left
    · have hl : likeT t u = false := by
        cases h : likeT t u with
        | false => rfl
        | true => exact absurd ((likeT_iff t u).1 h).2.2.2.1 n3
      have HF := hid (show r = false by rw [HR.out, hl]; rfl)
      have c3 : (t.bits == u.bits) = false := beq_eq_false_iff_ne.2 n3
      have k3 : (t.bits != u.bits) = true := by rw [bne, c3]; rfl
      clear HR HNE IH HT HU SX hl n3
      go_enter Tryd.func13, Tryd.ntmps13
      go_wp2_with fail
      go_ret
      exact ⟨by rw [HF.out]; rfl, ((Below.refl w.heap.size w).alloc (Nat.le_refl _) _).alloc (by simp) _⟩
    have E3 := hid n3
    clear n3
    rw [← E3.out] at y3 hW0 ⊢
    by_cases n4 : t.var = u.var
    rotate_left
    · have hl : likeT t u = false := by
        cases h : likeT t u with
        | false => rfl
        | true => exact absurd ((likeT_iff t u).1 h).2.2.2.2.1 n4
      have HF := hid (show r = false by rw [HR.out, hl]; rfl)
      have c4 : (t.var == u.var) = false := beq_eq_false_iff_ne.2 n4
      have k4 : (t.var != u.var) = true := by rw [bne, c4]; rfl
      clear HR HNE IH HT HU SX hl n4
      go_enter Tryd.func13, Tryd.ntmps13
      go_wp2_with fail
      go_ret
      exact ⟨by rw [HF.out]; rfl, ((Below.refl w.heap.size w).alloc (Nat.le_refl _) _).alloc (by simp) _⟩
    have E4 := hid n4
    clear n4
    rw [← E4.out] at y4 hW0 ⊢
    by_cases n5 : t.args.length = u.args.length
    rotate_left
    · have hl : likeT t u = false := by
        cases h : likeT t u with
        | false => rfl
        | true => exact absurd ((likeT_iff t u).1 h).2.2.2.2.2 n5
      have HF := hid (show r = false by rw [HR.out, hl]; rfl)
      have c5 : ((t.args.length : Int) == (u.args.length : Int)) = false := beq_eq_false_iff_ne.2 (by omega)
      have k5 : ((t.args.length : Int) != (u.args.length : Int)) = true := by rw [bne, c5]; rfl
      clear HR HNE IH HT HU SX hl n5
      go_enter Tryd.func13, Tryd.ntmps13
      go_wp2_with fail
      go_ret
      exact ⟨by rw [HF.out]; rfl, ((Below.refl w.heap.size w).alloc (Nat.le_refl _) _).alloc (by simp) _⟩
    have E5 := hid n5
    clear n5
    rw [← E5.out] at y5 hW0 ⊢
    have hlen := E5
    have HR2 := hid (show r = sameL (t.args.drop 0) (u.args.drop 0) by rw [HR.out, (likeT_iff t u).2 ⟨E0.out, E1.out, E2.out, E3.out, E4.out, E5.out⟩]; rfl)
    clear HR
    go_enter Tryd.func13, Tryd.ntmps13
    go_wp2_with fail
    rw [← hW0]
    have R0 := hid (Below.refl W0.heap.size W0)
    clear hW0 x0 x1 x2 x3 x4 x5 y0 y1 y2 y3 y4 y5
    go_loopw [5] (fun i wr => ∃ k : Nat, k ≤ t.args.length ∧ i = .int .i64 (k : Int) ∧ Hid (r = sameL (t.args.drop k) (u.args.drop k)) ∧ Hid (Below W0.heap.size W0 wr)) (fun i _ => t.args.length - (intOf i).toNat)
    case atStart => exact ⟨0, by omega, rfl, HR2, R0⟩
    case round =>
            clear HR2 R0
            obtain ⟨k, hk, rfl, hr, hBr⟩ := hrel
            obtain ⟨g5, k5⟩ := SX.out wr hBr.out
            by_cases hlt : k < t.args.length
            · have hlt2 : k < u.args.length := by rw [← hlen.out]; exact hlt
              have hk0 : (0 : Int) ≤ (k : Int) := by omega
              have hk1 : (k : Int) < (t.args.length : Int) := by omega
              have hk2 : (k : Int) < (u.args.length : Int) := by omega
              obtain ⟨b, o, rfl, e1, c1', hs1, ht1⟩ := (HT.out.keep hBr.out).get k hlt
              obtain ⟨b2, o2, rfl, e2, c2', hs2, ht2⟩ := (HU.out.keep hBr.out).get k hlt2
              have HCALL := hid (fun (W : World) (h : Below wr.heap.size wr W) => IH.out t.args[k] u.args[k] e1 e2 c1' c2' W (HNE.out k hlt) (ht1.keep h) (ht2.keep h))
              have HRK := hid (hr.out.trans (sameL_drop t.args u.args k hlt hlt2))
              have RR := hid (Below.refl wr.heap.size wr)
              clear hr ht1 ht2
              generalize t.args[k] = t1 at *
              generalize u.args[k] = u1 at *
              generalize sameT t1 u1 = z at *
              have SR := hid (show ∀ W : World, Below wr.heap.size wr W → (W.cell? ⟨w.heap.size, 5, none⟩ = some (.slice (some ⟨b, o, none⟩) t.args.length cp) ∧ W.cell? ⟨w.heap.size + 1, 5, none⟩ = some (.slice (some ⟨b2, o2, none⟩) u.args.length cq) ∧ W.cell? ⟨b, o + k * 6, none⟩ = some (.int .i64 t1.kind) ∧ W.cell? ⟨b, o + k * 6 + 1, none⟩ = some (.string t1.name) ∧ W.cell? ⟨b, o + k * 6 + 2, none⟩ = some (.string t1.num) ∧ W.cell? ⟨b, o + k * 6 + 3, none⟩ = some (.int .u64 t1.bits) ∧ W.cell? ⟨b, o + k * 6 + 4, none⟩ = some (.int .i64 t1.var) ∧ W.cell? ⟨b, o + k * 6 + 5, none⟩ = some (.slice e1 t1.args.length c1') ∧ W.cell? ⟨b2, o2 + k * 6, none⟩ = some (.int .i64 u1.kind) ∧ W.cell? ⟨b2, o2 + k * 6 + 1, none⟩ = some (.string u1.name) ∧ W.cell? ⟨b2, o2 + k * 6 + 2, none⟩ = some (.string u1.num) ∧ W.cell? ⟨b2, o2 + k * 6 + 3, none⟩ = some (.int .u64 u1.bits) ∧ W.cell? ⟨b2, o2 + k * 6 + 4, none⟩ = some (.int .i64 u1.var) ∧ W.cell? ⟨b2, o2 + k * 6 + 5, none⟩ = some (.slice e2 u1.args.length c2')) from fun W h =>
                have m1 := hs1.keep h
                have m2 := hs2.keep h
                have n := SX.out W (bl_call hBr.out h)
                ⟨n.1, n.2, m1.c0, m1.c1, m1.c2, m1.c3, m1.c4, m1.c5, m2.c0, m2.c1, m2.c2, m2.c3, m2.c4, m2.c5⟩)
              have sr := SR.out wr RR.out
              clear hs1 hs2
              cases z
              · have HRN := hid (show r = false from HRK.out)
                clear HRK
                go_wp2_with fail
                go_region_held3 (fun w' => w'.cell? ⟨w.heap.size, 5, none⟩ = some (.slice (some ⟨b, o, none⟩) t.args.length cp) ∧ w'.cell? ⟨w.heap.size + 1, 5, none⟩ = some (.slice (some ⟨b2, o2, none⟩) u.args.length cq) ∧ w'.cell? ⟨b, o + k * 6, none⟩ = some (.int .i64 t1.kind) ∧ w'.cell? ⟨b, o + k * 6 + 1, none⟩ = some (.string t1.name) ∧ w'.cell? ⟨b, o + k * 6 + 2, none⟩ = some (.string t1.num) ∧ w'.cell? ⟨b, o + k * 6 + 3, none⟩ = some (.int .u64 t1.bits) ∧ w'.cell? ⟨b, o + k * 6 + 4, none⟩ = some (.int .i64 t1.var) ∧ w'.cell? ⟨b, o + k * 6 + 5, none⟩ = some (.slice e1 t1.args.length c1') ∧ w'.cell? ⟨b2, o2 + k * 6, none⟩ = some (.int .i64 u1.kind) ∧ w'.cell? ⟨b2, o2 + k * 6 + 1, none⟩ = some (.string u1.name) ∧ w'.cell? ⟨b2, o2 + k * 6 + 2, none⟩ = some (.string u1.num) ∧ w'.cell? ⟨b2, o2 + k * 6 + 3, none⟩ = some (.int .u64 u1.bits) ∧ w'.cell? ⟨b2, o2 + k * 6 + 4, none⟩ = some (.int .i64 u1.var) ∧ w'.cell? ⟨b2, o2 + k * 6 + 5, none⟩ = some (.slice e2 u1.args.length c2'))
                  (first
                    | (with_reducible exact sr)
                    | (with_reducible exact SR.out _ (bl_drew RR.out))
                    | (with_reducible exact SR.out _ C2.out)
                    | fail)
                  ((first
                    | (go_at_call 13; (with_reducible refine (HCALL.out _ (bl_drew RR.out)).mono ?_); rintro e w2 ⟨rfl, hb2⟩; have C2 := hid (bl_call (bl_drew RR.out) hb2); clear hb2)))
                go_wp2
                go_ret
                exact ⟨by rw [HRN.out]; rfl, hB.out.trans ((bl_call hBr.out C2.out).mono hB.out.size)⟩
              · have HRN := hid (show r = sameL (t.args.drop (k + 1)) (u.args.drop (k + 1)) from HRK.out)
                clear HRK
                go_wp2_with fail
                go_region_held3 (fun w' => w'.cell? ⟨w.heap.size, 5, none⟩ = some (.slice (some ⟨b, o, none⟩) t.args.length cp) ∧ w'.cell? ⟨w.heap.size + 1, 5, none⟩ = some (.slice (some ⟨b2, o2, none⟩) u.args.length cq) ∧ w'.cell? ⟨b, o + k * 6, none⟩ = some (.int .i64 t1.kind) ∧ w'.cell? ⟨b, o + k * 6 + 1, none⟩ = some (.string t1.name) ∧ w'.cell? ⟨b, o + k * 6 + 2, none⟩ = some (.string t1.num) ∧ w'.cell? ⟨b, o + k * 6 + 3, none⟩ = some (.int .u64 t1.bits) ∧ w'.cell? ⟨b, o + k * 6 + 4, none⟩ = some (.int .i64 t1.var) ∧ w'.cell? ⟨b, o + k * 6 + 5, none⟩ = some (.slice e1 t1.args.length c1') ∧ w'.cell? ⟨b2, o2 + k * 6, none⟩ = some (.int .i64 u1.kind) ∧ w'.cell? ⟨b2, o2 + k * 6 + 1, none⟩ = some (.string u1.name) ∧ w'.cell? ⟨b2, o2 + k * 6 + 2, none⟩ = some (.string u1.num) ∧ w'.cell? ⟨b2, o2 + k * 6 + 3, none⟩ = some (.int .u64 u1.bits) ∧ w'.cell? ⟨b2, o2 + k * 6 + 4, none⟩ = some (.int .i64 u1.var) ∧ w'.cell? ⟨b2, o2 + k * 6 + 5, none⟩ = some (.slice e2 u1.args.length c2'))
                  (first
                    | (with_reducible exact sr)
                    | (with_reducible exact SR.out _ (bl_drew RR.out))
                    | (with_reducible exact SR.out _ C2.out)
                    | fail)
                  ((first
                    | (go_at_call 13; (with_reducible refine (HCALL.out _ (bl_drew RR.out)).mono ?_); rintro e w2 ⟨rfl, hb2⟩; have C2 := hid (bl_call (bl_drew RR.out) hb2); clear hb2)))
                go_wp2
                go_roundw
                case rel => exact ⟨k + 1, by omega, by go_num, HRN, hid (bl_call hBr.out C2.out)⟩
                case measure => simp [intOf]; omega
            · obtain rfl : k = t.args.length := by omega
              have HRN := hid (show r = true by rw [hr.out, List.drop_length]; simp [sameL])
              clear hr hlt
              go_wp2_with fail
              go_ret
              exact ⟨by rw [HRN.out]; rfl, hB.out.trans (hBr.out.mono hB.out.size)⟩
end Go.Proofs.YtpdclfihleoigaaDoor

namespace Go.Proofs.YtpdclfihleoigaaDoor
open Go.RowKit

theorem orI_range {x y : Int} (h1 : -1 ≤ x ∧ x ≤ 1) (h2 : -1 ≤ y ∧ y ≤ 1) : -1 ≤ orI x y ∧ orI x y ≤ 1 := by unfold orI; split <;> assumption
theorem cmpI_range (x y : Int) : -1 ≤ cmpI x y ∧ cmpI x y ≤ 1 := by unfold cmpI; split <;> (try split) <;> omega
theorem cmpS_range (x y : List UInt8) : -1 ≤ cmpS x y ∧ cmpS x y ≤ 1 := by unfold cmpS; split <;> (try split) <;> omega
theorem cmpF_range (x y : Int) : -1 ≤ cmpF x y ∧ cmpF x y ≤ 1 := by unfold cmpF; split <;> omega
theorem digits_range (x y : ByteArray) : -1 ≤ digitsWay x y ∧ digitsWay x y ≤ 1 := orI_range (cmpI_range _ _) (cmpS_range _ _)
theorem nums_range (x y : ByteArray) : -1 ≤ numsWay x y ∧ numsWay x y ≤ 1 := by
  have h1 := digits_range (bareT y) (bareT x)
  have h2 := digits_range (bareT x) (bareT y)
  unfold numsWay
  split <;> split <;> omega
mutual
theorem ordT_range : ∀ (t u : Tm), -1 ≤ ordT t u ∧ ordT t u ≤ 1
  | .mk k n x b v l, u => by
    have hL := ordL_range l u.args
    rw [ordT]
    refine orI_range (cmpI_range _ _) ?_
    split
    · exact cmpI_range _ _
    split
    · exact cmpF_range _ _
    split
    · exact nums_range _ _
    · exact orI_range (orI_range (cmpI_range _ _) (cmpS_range _ _)) hL
theorem ordL_range : ∀ (l m : List Tm), -1 ≤ ordL l m ∧ ordL l m ≤ 1
  | [], _ => by simp [ordL]
  | _ :: _, [] => by simp [ordL]
  | t :: l, u :: m => orI_range (ordT_range t u) (ordL_range l m)
end
theorem row_three {W : World} {g : Nat} {a b c : Tm} {pa pb pc : Option Addr} {ca cb cc : Nat} (h : W.heap[g]? = some (.cells #[.int .i64 a.kind, .string a.name, .string a.num, .int .u64 a.bits, .int .i64 a.var, .slice pa a.args.length ca, .int .i64 b.kind, .string b.name, .string b.num, .int .u64 b.bits, .int .i64 b.var, .slice pb b.args.length cb, .int .i64 c.kind, .string c.name, .string c.num, .int .u64 c.bits, .int .i64 c.var, .slice pc c.args.length cc] 26))
    (ha : TmAt W a pa) (hb : TmAt W b pb) (hc : TmAt W c pc) : RowT W [a, b, c] g 0 := by
  unfold RowT
  refine ⟨⟨pa, ca, ⟨(cells_of h 0).trans rfl, (cells_of h 1).trans rfl, (cells_of h 2).trans rfl, (cells_of h 3).trans rfl, (cells_of h 4).trans rfl, (cells_of h 5).trans rfl⟩, ha⟩, ?_⟩
  unfold RowT
  refine ⟨⟨pb, cb, ⟨(cells_of h 6).trans rfl, (cells_of h 7).trans rfl, (cells_of h 8).trans rfl, (cells_of h 9).trans rfl, (cells_of h 10).trans rfl, (cells_of h 11).trans rfl⟩, hb⟩, ?_⟩
  unfold RowT
  refine ⟨⟨pc, cc, ⟨(cells_of h 12).trans rfl, (cells_of h 13).trans rfl, (cells_of h 14).trans rfl, (cells_of h 15).trans rfl, (cells_of h 16).trans rfl, (cells_of h 17).trans rfl⟩, hc⟩, ?_⟩
  unfold RowT
  trivial
theorem checks_valid {l : List Tm} (hD : ∀ t ∈ l, AllT DomA t) (h : checksErr vName numOk bitsOk l = 0) : ∀ t ∈ l, Valid t := by
  induction l with
  | nil => intro t ht; cases ht
  | cons u l ih =>
    unfold checksErr at h
    by_cases h0 : checkErr vName numOk bitsOk u = 0
    · rw [if_pos h0] at h
      intro t ht
      rcases List.mem_cons.1 ht with rfl | ht
      · exact ⟨hD _ (by simp), h0⟩
      · exact ih (fun t ht => hD t (by simp [ht])) h t ht
    · rw [if_neg h0] at h; exact absurd h h0
set_option maxRecDepth 100000 in
set_option maxHeartbeats 16000000 in
theorem oneOrder_yes (a b c : Tm) (pa pb pc : Option Addr) (ca cb cc : Nat) (w : World) (hU : Utf w) (ha : TmAt w a pa) (hb : TmAt w b pb) (hc : TmAt w c pc) (da : AllT DomA a) (db : AllT DomA b) (dc : AllT DomA c) :
    Calls Tryd.prog 5 #[a.val pa ca, b.val pb cb, c.val pc cc] w fun e w' => e = .returned (.bool true) ∧ Below w.heap.size w w' := by
  obtain ⟨W0, hW0⟩ : ∃ W0, W0 = ((w.alloc (tobj a pa ca)).alloc (tobj b pb cb)).alloc (tobj c pc cc) := ⟨_, rfl⟩
  have hB := hid (show Below w.heap.size w W0 by rw [hW0]; exact (((Below.refl w.heap.size w).alloc (Nat.le_refl _) _).alloc (by simp) _).alloc (by simp; omega) _)
  have HS3 := hid (show W0.heap[w.heap.size + 1 + 1]? = some (tobj c pc cc) by rw [hW0]; have h := heap_alloc_new ((w.alloc (tobj a pa ca)).alloc (tobj b pb cb)) (tobj c pc cc); rw [World.size_alloc, World.size_alloc] at h; exact h)
  have HS2 := hid (show W0.heap[w.heap.size + 1]? = some (tobj b pb cb) by rw [hW0]; have h := heap_alloc_new (w.alloc (tobj a pa ca)) (tobj b pb cb); rw [World.size_alloc] at h; exact (heap_alloc_old _ _ (by simp)).trans h)
  have HS1 := hid (show W0.heap[w.heap.size]? = some (tobj a pa ca) by rw [hW0]; exact (heap_alloc_old _ _ (by simp; omega)).trans ((heap_alloc_old (w.alloc (tobj a pa ca)) _ (by simp)).trans (heap_alloc_new w _)))
  have SX := hid (show ∀ W : World, Below W0.heap.size W0 W → (W.cell? ⟨w.heap.size, 0, none⟩ = some (.int .i64 a.kind) ∧ W.cell? ⟨w.heap.size, 1, none⟩ = some (.string a.name) ∧ W.cell? ⟨w.heap.size, 2, none⟩ = some (.string a.num) ∧ W.cell? ⟨w.heap.size, 3, none⟩ = some (.int .u64 a.bits) ∧ W.cell? ⟨w.heap.size, 4, none⟩ = some (.int .i64 a.var) ∧ W.cell? ⟨w.heap.size, 5, none⟩ = some (.slice pa a.args.length ca) ∧ W.cell? ⟨w.heap.size + 1, 0, none⟩ = some (.int .i64 b.kind) ∧ W.cell? ⟨w.heap.size + 1, 1, none⟩ = some (.string b.name) ∧ W.cell? ⟨w.heap.size + 1, 2, none⟩ = some (.string b.num) ∧ W.cell? ⟨w.heap.size + 1, 3, none⟩ = some (.int .u64 b.bits) ∧ W.cell? ⟨w.heap.size + 1, 4, none⟩ = some (.int .i64 b.var) ∧ W.cell? ⟨w.heap.size + 1, 5, none⟩ = some (.slice pb b.args.length cb) ∧ W.cell? ⟨w.heap.size + 1 + 1, 0, none⟩ = some (.int .i64 c.kind) ∧ W.cell? ⟨w.heap.size + 1 + 1, 1, none⟩ = some (.string c.name) ∧ W.cell? ⟨w.heap.size + 1 + 1, 2, none⟩ = some (.string c.num) ∧ W.cell? ⟨w.heap.size + 1 + 1, 3, none⟩ = some (.int .u64 c.bits) ∧ W.cell? ⟨w.heap.size + 1 + 1, 4, none⟩ = some (.int .i64 c.var) ∧ W.cell? ⟨w.heap.size + 1 + 1, 5, none⟩ = some (.slice pc c.args.length cc)) from fun W h =>
    have m1 := six_of (obj_keep HS1.out h)
    have m2 := six_of (obj_keep HS2.out h)
    have m3 := six_of (obj_keep HS3.out h)
    ⟨m1.c0, m1.c1, m1.c2, m1.c3, m1.c4, m1.c5, m2.c0, m2.c1, m2.c2, m2.c3, m2.c4, m2.c5, m3.c0, m3.c1, m3.c2, m3.c3, m3.c4, m3.c5⟩)
  have A := hid (awake_true W0 (hU.keep hB.out))
  obtain ⟨e, he⟩ : ∃ e, e = checksErr vName numOk bitsOk [a, b, c] := ⟨_, rfl⟩
  have FA := hid (show ∀ W, Below W0.heap.size W0 W → Calls Tryd.prog 11 #[.slice (some ⟨W.heap.size, 0, none⟩) 3 3] (W.alloc (.cells #[.int .i64 a.kind, .string a.name, .string a.num, .int .u64 a.bits, .int .i64 a.var, .slice pa a.args.length ca, .int .i64 b.kind, .string b.name, .string b.num, .int .u64 b.bits, .int .i64 b.var, .slice pb b.args.length cb, .int .i64 c.kind, .string c.name, .string c.num, .int .u64 c.bits, .int .i64 c.var, .slice pc c.args.length cc] 26)) fun r w' => r = .returned (.int .i64 e) ∧ Below W0.heap.size W0 w' from fun W h => by
    have h2 := (bl_alloc (x := (.cells #[.int .i64 a.kind, .string a.name, .string a.num, .int .u64 a.bits, .int .i64 a.var, .slice pa a.args.length ca, .int .i64 b.kind, .string b.name, .string b.num, .int .u64 b.bits, .int .i64 b.var, .slice pb b.args.length cb, .int .i64 c.kind, .string c.name, .string c.num, .int .u64 c.bits, .int .i64 c.var, .slice pc c.args.length cc] 26)) h)
    have hk := hB.out.trans (h2.mono hB.out.size)
    have F := first_any [a, b, c] (some ⟨W.heap.size, 0, none⟩) 3 _ (by unfold maxLen; simp) (.inr ⟨_, _, rfl, row_three (World.alloc_heap_new W _) (ha.keep hk) (hb.keep hk) (hc.keep hk)⟩) (by unfold AllR AllR AllR AllR; exact ⟨da, db, dc, trivial⟩)
    rw [← he] at F
    exact F.mono fun r w' ⟨g1, g2⟩ => ⟨g1, bl_call h2 g2⟩)
  by_cases h0 : e = 0
  · have V := checks_valid (l := [a, b, c]) (by intro t ht; simp at ht; rcases ht with rfl | rfl | rfl <;> assumption) (by rw [← he]; exact h0)
    have va := V a (by simp)
    have vb := V b (by simp)
    have vc := V c (by simp)
    subst h0
    have CAB := fun W (h : Below W0.heap.size W0 W) => compareT_any a b pa pb ca cb W (ha.keep (hB.out.trans (h.mono hB.out.size))) (hb.keep (hB.out.trans (h.mono hB.out.size))) va vb (hU.keep (hB.out.trans (h.mono hB.out.size)))
    have CBC := fun W (h : Below W0.heap.size W0 W) => compareT_any b c pb pc cb cc W (hb.keep (hB.out.trans (h.mono hB.out.size))) (hc.keep (hB.out.trans (h.mono hB.out.size))) vb vc (hU.keep (hB.out.trans (h.mono hB.out.size)))
    have CAC := fun W (h : Below W0.heap.size W0 W) => compareT_any a c pa pc ca cc W (ha.keep (hB.out.trans (h.mono hB.out.size))) (hc.keep (hB.out.trans (h.mono hB.out.size))) va vc (hU.keep (hB.out.trans (h.mono hB.out.size)))
    have CCA := fun W (h : Below W0.heap.size W0 W) => compareT_any c a pc pa cc ca W (hc.keep (hB.out.trans (h.mono hB.out.size))) (ha.keep (hB.out.trans (h.mono hB.out.size))) vc va (hU.keep (hB.out.trans (h.mono hB.out.size)))
    have SAB := fun W (h : Below W0.heap.size W0 W) => same_any (nodes a) a b pa pb ca cb W (Nat.le_refl _) (ha.keep (hB.out.trans (h.mono hB.out.size))) (hb.keep (hB.out.trans (h.mono hB.out.size)))
    have e1 := ordT_anti va.good vc.good
    have e2 := ordT_trans va.good vb.good vc.good
    have e3 := ordT_trans vc.good va.good vb.good
    have e4 := ordT_anti va.good vb.good
    have e5 := ordT_anti vb.good vc.good
    have e6 := ordT_trans vb.good vc.good va.good
    have e7 := ordT_trans vc.good vb.good va.good
    have ez : sameT a b = decide (ordT a b = 0) := by
      rw [Bool.eq_iff_iff, decide_eq_true_iff, sameT_iff, ordT_zero a b va.good vb.good]
    have r1 := ordT_range a b
    have r2 := ordT_range b c
    have r3 := ordT_range a c
    rw [e1] at CCA
    rw [ez] at SAB
    have HA := hid hW0
    have TB := hid trivial
    unfold tobj at hW0
    unfold Tm.val at CAB CBC CAC CCA SAB ⊢
    clear he V va vb vc ha hb hc da db dc hU HS1 HS2 HS3 HA ez
    rw [e1] at e3 e6 e7
    rw [e4] at e6 e7
    rw [e5] at e3 e7
    generalize ordT a b = x at *
    generalize ordT b c = y at *
    generalize ordT a c = z at *
    clear e1 e4 e5
    have hx : x = -1 ∨ x = 0 ∨ x = 1 := by omega
    have hy : y = -1 ∨ y = 0 ∨ y = 1 := by omega
    have hz : z = -1 ∨ z = 0 ∨ z = 1 := by omega
    have hgood : ¬ (x ≤ 0 ∧ y ≤ 0 ∧ z > 0) ∧ ¬ (x < 0 ∧ y ≤ 0 ∧ z ≥ 0) ∧ ¬ (x ≥ 0 ∧ y ≥ 0 ∧ z < 0) := by omega
    clear e2 e3 e6 e7 r1 r2 r3
    rcases hx with rfl | rfl | rfl <;> rcases hy with rfl | rfl | rfl <;> rcases hz with rfl | rfl | rfl
    all_goals first
      | (exfalso; omega)
      | (clear hgood
         have H1 := hid CAB
         have H2 := hid CBC
         have H3 := hid CAC
         have H4 := hid CCA
         have H5 := hid SAB
         clear CAB CBC CAC CCA SAB
         go_enter Tryd.func5, Tryd.ntmps5
         go_wp2_with (first
           | (go_at_call 6; rw [← hW0]; (with_reducible refine A.out.mono ?_); rintro r w1 ⟨rfl, hb1⟩; have K0 := hid hb1; obtain ⟨a0, a1, a2, a3, a4, a5, a6, a7, a8, a9, a10, a11, a12, a13, a14, a15, a16, a17⟩ := SX.out _ hb1; clear hb1)
           | (go_at_call 11; (with_reducible refine (FA.out _ K0.out).mono ?_); rintro r w2 ⟨rfl, hb2⟩; have K1 := hid hb2; obtain ⟨b0, b1, b2, b3, b4, b5, b6, b7, b8, b9, b10, b11, b12, b13, b14, b15, b16, b17⟩ := SX.out _ hb2; clear hb2 K0)
           | (go_at_call 12; have tok := K1; (with_reducible refine (H1.out _ K1.out).mono ?_); rintro r w3 ⟨rfl, hb3⟩; have K2 := hid (bl_call K1.out hb3); obtain ⟨c0, c1, c2, c3, c4, c5, c6, c7, c8, c9, c10, c11, c12, c13, c14, c15, c16, c17⟩ := SX.out _ K2.out; clear hb3 K1 tok)
           | (go_at_call 12; have tok := K2; (with_reducible refine (H2.out _ K2.out).mono ?_); rintro r w4 ⟨rfl, hb4⟩; have K3 := hid (bl_call K2.out hb4); obtain ⟨d0, d1, d2, d3, d4, d5, d6, d7, d8, d9, d10, d11, d12, d13, d14, d15, d16, d17⟩ := SX.out _ K3.out; clear hb4 K2 tok)
           | (go_at_call 12; have tok := K3; (with_reducible refine (H3.out _ K3.out).mono ?_); rintro r w5 ⟨rfl, hb5⟩; have K4 := hid (bl_call K3.out hb5); obtain ⟨e0, e1, e2, e3, e4, e5, e6, e7, e8, e9, e10, e11, e12, e13, e14, e15, e16, e17⟩ := SX.out _ K4.out; clear hb5 K3 tok)
           | (go_at_call 12; have tok := K4; (with_reducible refine (H4.out _ K4.out).mono ?_); rintro r w6 ⟨rfl, hb6⟩; have K5 := hid (bl_call K4.out hb6); obtain ⟨g0, g1, g2, g3, g4, g5, g6, g7, g8, g9, g10, g11, g12, g13, g14, g15, g16, g17⟩ := SX.out _ K5.out; clear hb6 K4 tok)
           | (go_at_call 13; (with_reducible refine (H5.out _ K5.out).mono ?_); rintro r w7 ⟨rfl, hb7⟩; have K6 := hid (bl_call K5.out hb7); clear hb7 K5))
         go_ret
         exact ⟨rfl, hB.out.trans (K6.out.mono hB.out.size)⟩)
      | fail
  · have hq : (e == 0) = false := beq_eq_false_iff_ne.2 h0
    have hq2 : (e != 0) = true := by simp [h0]
    unfold tobj at hW0
    unfold Tm.val
    clear he h0 ha hb hc da db dc hU HS1 HS2 HS3
    go_enter Tryd.func5, Tryd.ntmps5
    go_wp2_with (first
      | (go_at_call 6; rw [← hW0]; (with_reducible refine A.out.mono ?_); rintro r w1 ⟨rfl, hb1⟩; have K0 := hid hb1; obtain ⟨a0, a1, a2, a3, a4, a5, a6, a7, a8, a9, a10, a11, a12, a13, a14, a15, a16, a17⟩ := SX.out _ hb1; clear hb1)
      | (go_at_call 11; (with_reducible refine (FA.out _ K0.out).mono ?_); rintro r w2 ⟨rfl, hb2⟩; have K1 := hid hb2; clear hb2 K0))
    go_ret
    exact ⟨rfl, hB.out.trans (K1.out.mono hB.out.size)⟩
end Go.Proofs.YtpdclfihleoigaaDoor
