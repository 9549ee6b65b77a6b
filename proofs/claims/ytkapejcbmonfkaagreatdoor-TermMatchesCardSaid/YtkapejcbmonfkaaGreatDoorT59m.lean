/- Walk of the document's Same: are two trees the same? No condition but those that each theorem names. A list's elements and rest: plain; isCompound; trees that may be are copied as they are. No condition but those that each theorem names. Walk of the document's SameList: are two lists of trees the same? No condition but those that each theorem names. Walk: isCompound. No condition but those that the theorem names. Walk: append of one term to a list in memory of its own. No condition but those that each theorem names. Walk: marked writes over what a tree owns, and nothing else. No condition but those that each theorem names. Walk: again: a list of trees is written over by its owner, and another one is not touched. No condition but those that each theorem names. -/
import Derived.Test.YtkapejcbmonfkaaGreatDoorT41m
import Derived.Test.YtkapejcbmonfkaaGreatDoorT53m
namespace Go.Proofs.YtkapejcbmonfkaaGreatDoor
open Go.RowKit

/-- Are two nodes alike but for their arguments? -/
def likeT (t u : Tm) : Bool := (t.kind == u.kind) && (t.name.toList == u.name.toList) && (t.num.toList == u.num.toList) && (t.bits == u.bits) && (t.var == u.var) && ((t.args.length : Int) == (u.args.length : Int))
mutual
def sameT : Tm → Tm → Bool
  | .mk k n x b v l, u => likeT (.mk k n x b v l) u && sameL l u.args
def sameL : List Tm → List Tm → Bool
  | [], _ => true
  | _ :: _, [] => true
  | t :: l, u :: m => sameT t u && sameL l m
end
theorem sameT_eq (t u : Tm) : sameT t u = (likeT t u && sameL t.args u.args) := by cases t; rw [sameT]; rfl
theorem likeT_iff (t u : Tm) : likeT t u = true ↔ t.kind = u.kind ∧ t.name = u.name ∧ t.num = u.num ∧ t.bits = u.bits ∧ t.var = u.var ∧ t.args.length = u.args.length := by
  unfold likeT
  rw [names_eq, names_eq]
  simp only [Bool.and_eq_true, beq_iff_eq, decide_eq_true_eq]
  constructor
  · rintro ⟨⟨⟨⟨⟨h1, h2⟩, h3⟩, h4⟩, h5⟩, h6⟩; exact ⟨h1, h2, h3, h4, h5, by omega⟩
  · rintro ⟨h1, h2, h3, h4, h5, h6⟩; exact ⟨⟨⟨⟨⟨h1, h2⟩, h3⟩, h4⟩, h5⟩, by omega⟩
mutual
theorem sameT_iff : ∀ (t u : Tm), sameT t u = true ↔ t = u
  | .mk k n x b v l, u => by
    have hL := sameL_iff l u.args
    rw [sameT_eq, Bool.and_eq_true, likeT_iff]
    cases u with
    | mk k' n' x' b' v' l' =>
      simp only [Tm.kind, Tm.name, Tm.num, Tm.bits, Tm.var, Tm.args] at *
      constructor
      · rintro ⟨⟨rfl, rfl, rfl, rfl, rfl, h⟩, h2⟩
        rw [(hL h).1 h2]
      · intro h
        injection h with h1 h2 h3 h4 h5 h6
        subst h1 h2 h3 h4 h5 h6
        exact ⟨⟨rfl, rfl, rfl, rfl, rfl, rfl⟩, (hL rfl).2 rfl⟩
theorem sameL_iff : ∀ (l m : List Tm), l.length = m.length → (sameL l m = true ↔ l = m)
  | [], [], _ => by simp [sameL]
  | [], _ :: _, e => by simp at e
  | _ :: _, [], e => by simp at e
  | t :: l, u :: m, e => by
    have h1 := sameT_iff t u
    have h2 := sameL_iff l m (by simpa using e)
    show (sameT t u && sameL l m) = true ↔ _
    rw [Bool.and_eq_true, h1, h2]
    simp
end
theorem sameL_drop : ∀ (l m : List Tm) (k : Nat) (h : k < l.length) (h' : k < m.length), sameL (l.drop k) (m.drop k) = (sameT l[k] m[k] && sameL (l.drop (k + 1)) (m.drop (k + 1)))
  | [], _, k, h, _ => by simp at h
  | _ :: _, [], k, _, h => by simp at h
  | t :: l, u :: m, 0, _, _ => by simp [sameL]
  | t :: l, u :: m, k + 1, h, h' => by
    have := sameL_drop l m k (by simpa using h) (by simpa using h')
    simpa using this
set_option maxRecDepth 100000 in
set_option maxHeartbeats 8000000 in
theorem same_any (d : Nat) : ∀ (t u : Tm) (p q : Option Addr) (cp cq : Nat) (w : World), nodes t ≤ d → TmAt w t p → TmAt w u q →
    Calls Tryz.prog 25 #[t.val p cp, u.val q cq] w fun e w' => e = .returned (.bool (sameT t u)) ∧ Below w.heap.size w w' := by
  induction d with
  | zero => intro t u p q cp cq w h; have := nodes_pos t; omega
  | succ d ih =>
    intro t u p q cp cq w hd hT hU
    obtain ⟨W0, hW0⟩ : ∃ W0, W0 = (w.alloc (tobj t p cp)).alloc (tobj u q cq) := ⟨_, rfl⟩
    have hB := hid (show Below w.heap.size w W0 by rw [hW0]; exact ((Below.refl w.heap.size w).alloc (Nat.le_refl _) _).alloc (by simp) _)
    have HS2 := hid (show W0.heap[w.heap.size + 1]? = some (tobj u q cq) by rw [hW0]; have h := heap_alloc_new (w.alloc (tobj t p cp)) (tobj u q cq); rwa [World.size_alloc] at h)
    have HS1 := hid (show W0.heap[w.heap.size]? = some (tobj t p cp) by rw [hW0]; exact (heap_alloc_old (w.alloc (tobj t p cp)) _ (by simp)).trans (heap_alloc_new w _))
    have HT := hid (hT.keep hB.out)
    have HU := hid (hU.keep hB.out)
    have HNE := hid (fun k (h : k < t.args.length) => (show nodes t.args[k] ≤ d by have := nodes_lt h; omega))
    have hlt := hT.len
    have hlu := hU.len
    unfold maxLen at hlt hlu
    obtain ⟨x0, x1, x2, x3, x4, x5⟩ := six_of HS1.out
    obtain ⟨y0, y1, y2, y3, y4, y5⟩ := six_of HS2.out
    have SX := hid (show ∀ W : World, Below W0.heap.size W0 W → (W.cell? ⟨w.heap.size, 5, none⟩ = some (.slice p t.args.length cp) ∧ W.cell? ⟨w.heap.size + 1, 5, none⟩ = some (.slice q u.args.length cq)) from fun W h =>
      ⟨(six_of (obj_keep HS1.out h)).c5, (six_of (obj_keep HS2.out h)).c5⟩)
    obtain ⟨r, hr⟩ : ∃ r, r = sameT t u := ⟨_, rfl⟩
    rw [← hr]
    have HR := hid (hr.trans (sameT_eq t u))
    clear hr hT hU HS1 HS2
    unfold tobj at hW0
    unfold Tm.val at ih ⊢
    have IH := hid ih
    clear ih
    by_cases n0 : t.kind = u.kind
    rotate_left
    · have hl : likeT t u = false := by
        cases h : likeT t u with
        | false => rfl
        | true => exact absurd ((likeT_iff t u).1 h).1 n0
      have HF := hid (show r = false by rw [HR.out, hl]; rfl)
      have c0 : (t.kind == u.kind) = false := beq_eq_false_iff_ne.2 n0
      have k0 : (t.kind != u.kind) = true := by rw [bne, c0]; rfl
      clear HR HNE IH HT HU SX hl n0
      go_enter Tryz.func25, Tryz.ntmps25
      go_wp2_with fail
      go_ret
      exact ⟨by rw [HF.out]; rfl, ((Below.refl w.heap.size w).alloc (Nat.le_refl _) _).alloc (by simp) _⟩
    have E0 := hid n0
    clear n0
    rw [← E0.out] at y0 hW0 ⊢
    by_cases n1 : t.name = u.name
    rotate_left
    · have hl : likeT t u = false := by
        cases h : likeT t u with
        | false => rfl
        | true => exact absurd ((likeT_iff t u).1 h).2.1 n1
      have HF := hid (show r = false by rw [HR.out, hl]; rfl)
      have c1 : (t.name.toList == u.name.toList) = false := (names_eq _ _).trans (decide_eq_false n1)
      have k1 : (t.name.toList != u.name.toList) = true := by rw [bne, c1]; rfl
      clear HR HNE IH HT HU SX hl n1
      go_enter Tryz.func25, Tryz.ntmps25
      go_wp2_with fail
      go_ret
      exact ⟨by rw [HF.out]; rfl, ((Below.refl w.heap.size w).alloc (Nat.le_refl _) _).alloc (by simp) _⟩
    have E1 := hid n1
    clear n1
    rw [← E1.out] at y1 hW0 ⊢
    by_cases n2 : t.num = u.num
    rotate_left
    · have hl : likeT t u = false := by
        cases h : likeT t u with
        | false => rfl
        | true => exact absurd ((likeT_iff t u).1 h).2.2.1 n2
      have HF := hid (show r = false by rw [HR.out, hl]; rfl)
      have c2 : (t.num.toList == u.num.toList) = false := (names_eq _ _).trans (decide_eq_false n2)
      have k2 : (t.num.toList != u.num.toList) = true := by rw [bne, c2]; rfl
      clear HR HNE IH HT HU SX hl n2
      go_enter Tryz.func25, Tryz.ntmps25
      go_wp2_with fail
      go_ret
      exact ⟨by rw [HF.out]; rfl, ((Below.refl w.heap.size w).alloc (Nat.le_refl _) _).alloc (by simp) _⟩
    have E2 := hid n2
    clear n2
    rw [← E2.out] at y2 hW0 ⊢
    by_cases n3 : t.bits = u.bits
    rotate_left
    · have hl : likeT t u = false := by
        cases h : likeT t u with
        | false => rfl
        | true => exact absurd ((likeT_iff t u).1 h).2.2.2.1 n3
      have HF := hid (show r = false by rw [HR.out, hl]; rfl)
      have c3 : (t.bits == u.bits) = false := beq_eq_false_iff_ne.2 n3
      have k3 : (t.bits != u.bits) = true := by rw [bne, c3]; rfl
      clear HR HNE IH HT HU SX hl n3
      go_enter Tryz.func25, Tryz.ntmps25
      go_wp2_with fail
      go_ret
      exact ⟨by rw [HF.out]; rfl, ((Below.refl w.heap.size w).alloc (Nat.le_refl _) _).alloc (by simp) _⟩
    have E3 := hid n3
    clear n3
    rw [← E3.out] at y3 hW0 ⊢
    by_cases n4 : t.var = u.var
    rotate_left
    · have hl : likeT t u = false := by
        cases h : likeT t u with
        | false => rfl
        | true => exact absurd ((likeT_iff t u).1 h).2.2.2.2.1 n4
      have HF := hid (show r = false by rw [HR.out, hl]; rfl)
      have c4 : (t.var == u.var) = false := beq_eq_false_iff_ne.2 n4
      have k4 : (t.var != u.var) = true := by rw [bne, c4]; rfl
      clear HR HNE IH HT HU SX hl n4
      go_enter Tryz.func25, Tryz.ntmps25
      go_wp2_with fail
      go_ret
      exact ⟨by rw [HF.out]; rfl, ((Below.refl w.heap.size w).alloc (Nat.le_refl _) _).alloc (by simp) _⟩
    have E4 := hid n4
    clear n4
    rw [← E4.out] at y4 hW0 ⊢
    by_cases n5 : t.args.length = u.args.length
    rotate_left
    · have hl : likeT t u = false := by
        cases h : likeT t u with
        | false => rfl
        | true => exact absurd ((likeT_iff t u).1 h).2.2.2.2.2 n5
      have HF := hid (show r = false by rw [HR.out, hl]; rfl)
      have c5 : ((t.args.length : Int) == (u.args.length : Int)) = false := beq_eq_false_iff_ne.2 (by omega)
      have k5 : ((t.args.length : Int) != (u.args.length : Int)) = true := by rw [bne, c5]; rfl
      clear HR HNE IH HT HU SX hl n5
      go_enter Tryz.func25, Tryz.ntmps25
      go_wp2_with fail
      go_ret
      exact ⟨by rw [HF.out]; rfl, ((Below.refl w.heap.size w).alloc (Nat.le_refl _) _).alloc (by simp) _⟩
    have E5 := hid n5
    clear n5
    rw [← E5.out] at y5 hW0 ⊢
    have hlen := E5
    have HR2 := hid (show r = sameL (t.args.drop 0) (u.args.drop 0) by rw [HR.out, (likeT_iff t u).2 ⟨E0.out, E1.out, E2.out, E3.out, E4.out, E5.out⟩]; rfl)
    clear HR
    go_enter Tryz.func25, Tryz.ntmps25
    go_wp2_with fail
    rw [← hW0]
    have R0 := hid (Below.refl W0.heap.size W0)
    clear hW0 x0 x1 x2 x3 x4 x5 y0 y1 y2 y3 y4 y5
    go_loopw [5] (fun i wr => ∃ k : Nat, k ≤ t.args.length ∧ i = .int .i64 (k : Int) ∧ Hid (r = sameL (t.args.drop k) (u.args.drop k)) ∧ Hid (Below W0.heap.size W0 wr)) (fun i _ => t.args.length - (intOf i).toNat)
    case atStart => exact ⟨0, by omega, rfl, HR2, R0⟩
    case round =>
            clear HR2 R0
            obtain ⟨k, hk, rfl, hr, hBr⟩ := hrel
            obtain ⟨g5, k5⟩ := SX.out wr hBr.out
            by_cases hlt : k < t.args.length
            · have hlt2 : k < u.args.length := by rw [← hlen.out]; exact hlt
              have hk0 : (0 : Int) ≤ (k : Int) := by omega
              have hk1 : (k : Int) < (t.args.length : Int) := by omega
              have hk2 : (k : Int) < (u.args.length : Int) := by omega
              obtain ⟨b, o, rfl, e1, c1', hs1, ht1⟩ := (HT.out.keep hBr.out).get k hlt
              obtain ⟨b2, o2, rfl, e2, c2', hs2, ht2⟩ := (HU.out.keep hBr.out).get k hlt2
              have HCALL := hid (fun (W : World) (h : Below wr.heap.size wr W) => IH.out t.args[k] u.args[k] e1 e2 c1' c2' W (HNE.out k hlt) (ht1.keep h) (ht2.keep h))
              have HRK := hid (hr.out.trans (sameL_drop t.args u.args k hlt hlt2))
              have RR := hid (Below.refl wr.heap.size wr)
              clear hr ht1 ht2
              generalize t.args[k] = t1 at *
              generalize u.args[k] = u1 at *
              generalize sameT t1 u1 = z at *
              have SR := hid (show ∀ W : World, Below wr.heap.size wr W → (W.cell? ⟨w.heap.size, 5, none⟩ = some (.slice (some ⟨b, o, none⟩) t.args.length cp) ∧ W.cell? ⟨w.heap.size + 1, 5, none⟩ = some (.slice (some ⟨b2, o2, none⟩) u.args.length cq) ∧ W.cell? ⟨b, o + k * 6, none⟩ = some (.int .i64 t1.kind) ∧ W.cell? ⟨b, o + k * 6 + 1, none⟩ = some (.string t1.name) ∧ W.cell? ⟨b, o + k * 6 + 2, none⟩ = some (.string t1.num) ∧ W.cell? ⟨b, o + k * 6 + 3, none⟩ = some (.int .u64 t1.bits) ∧ W.cell? ⟨b, o + k * 6 + 4, none⟩ = some (.int .i64 t1.var) ∧ W.cell? ⟨b, o + k * 6 + 5, none⟩ = some (.slice e1 t1.args.length c1') ∧ W.cell? ⟨b2, o2 + k * 6, none⟩ = some (.int .i64 u1.kind) ∧ W.cell? ⟨b2, o2 + k * 6 + 1, none⟩ = some (.string u1.name) ∧ W.cell? ⟨b2, o2 + k * 6 + 2, none⟩ = some (.string u1.num) ∧ W.cell? ⟨b2, o2 + k * 6 + 3, none⟩ = some (.int .u64 u1.bits) ∧ W.cell? ⟨b2, o2 + k * 6 + 4, none⟩ = some (.int .i64 u1.var) ∧ W.cell? ⟨b2, o2 + k * 6 + 5, none⟩ = some (.slice e2 u1.args.length c2')) from fun W h =>
                have m1 := hs1.keep h
                have m2 := hs2.keep h
                have n := SX.out W (bl_call hBr.out h)
                ⟨n.1, n.2, m1.c0, m1.c1, m1.c2, m1.c3, m1.c4, m1.c5, m2.c0, m2.c1, m2.c2, m2.c3, m2.c4, m2.c5⟩)
              have sr := SR.out wr RR.out
              clear hs1 hs2
              cases z
              · have HRN := hid (show r = false from HRK.out)
                clear HRK
                go_wp2_with fail
                go_region_held3 (fun w' => w'.cell? ⟨w.heap.size, 5, none⟩ = some (.slice (some ⟨b, o, none⟩) t.args.length cp) ∧ w'.cell? ⟨w.heap.size + 1, 5, none⟩ = some (.slice (some ⟨b2, o2, none⟩) u.args.length cq) ∧ w'.cell? ⟨b, o + k * 6, none⟩ = some (.int .i64 t1.kind) ∧ w'.cell? ⟨b, o + k * 6 + 1, none⟩ = some (.string t1.name) ∧ w'.cell? ⟨b, o + k * 6 + 2, none⟩ = some (.string t1.num) ∧ w'.cell? ⟨b, o + k * 6 + 3, none⟩ = some (.int .u64 t1.bits) ∧ w'.cell? ⟨b, o + k * 6 + 4, none⟩ = some (.int .i64 t1.var) ∧ w'.cell? ⟨b, o + k * 6 + 5, none⟩ = some (.slice e1 t1.args.length c1') ∧ w'.cell? ⟨b2, o2 + k * 6, none⟩ = some (.int .i64 u1.kind) ∧ w'.cell? ⟨b2, o2 + k * 6 + 1, none⟩ = some (.string u1.name) ∧ w'.cell? ⟨b2, o2 + k * 6 + 2, none⟩ = some (.string u1.num) ∧ w'.cell? ⟨b2, o2 + k * 6 + 3, none⟩ = some (.int .u64 u1.bits) ∧ w'.cell? ⟨b2, o2 + k * 6 + 4, none⟩ = some (.int .i64 u1.var) ∧ w'.cell? ⟨b2, o2 + k * 6 + 5, none⟩ = some (.slice e2 u1.args.length c2'))
                  (first
                    | (with_reducible exact sr)
                    | (with_reducible exact SR.out _ (bl_drew RR.out))
                    | (with_reducible exact SR.out _ C2.out)
                    | fail)
                  ((first
                    | (go_at_call 25; (with_reducible refine (HCALL.out _ (bl_drew RR.out)).mono ?_); rintro e w2 ⟨rfl, hb2⟩; have C2 := hid (bl_call (bl_drew RR.out) hb2); clear hb2)))
                go_wp2
                go_ret
                exact ⟨by rw [HRN.out]; rfl, hB.out.trans ((bl_call hBr.out C2.out).mono hB.out.size)⟩
              · have HRN := hid (show r = sameL (t.args.drop (k + 1)) (u.args.drop (k + 1)) from HRK.out)
                clear HRK
                go_wp2_with fail
                go_region_held3 (fun w' => w'.cell? ⟨w.heap.size, 5, none⟩ = some (.slice (some ⟨b, o, none⟩) t.args.length cp) ∧ w'.cell? ⟨w.heap.size + 1, 5, none⟩ = some (.slice (some ⟨b2, o2, none⟩) u.args.length cq) ∧ w'.cell? ⟨b, o + k * 6, none⟩ = some (.int .i64 t1.kind) ∧ w'.cell? ⟨b, o + k * 6 + 1, none⟩ = some (.string t1.name) ∧ w'.cell? ⟨b, o + k * 6 + 2, none⟩ = some (.string t1.num) ∧ w'.cell? ⟨b, o + k * 6 + 3, none⟩ = some (.int .u64 t1.bits) ∧ w'.cell? ⟨b, o + k * 6 + 4, none⟩ = some (.int .i64 t1.var) ∧ w'.cell? ⟨b, o + k * 6 + 5, none⟩ = some (.slice e1 t1.args.length c1') ∧ w'.cell? ⟨b2, o2 + k * 6, none⟩ = some (.int .i64 u1.kind) ∧ w'.cell? ⟨b2, o2 + k * 6 + 1, none⟩ = some (.string u1.name) ∧ w'.cell? ⟨b2, o2 + k * 6 + 2, none⟩ = some (.string u1.num) ∧ w'.cell? ⟨b2, o2 + k * 6 + 3, none⟩ = some (.int .u64 u1.bits) ∧ w'.cell? ⟨b2, o2 + k * 6 + 4, none⟩ = some (.int .i64 u1.var) ∧ w'.cell? ⟨b2, o2 + k * 6 + 5, none⟩ = some (.slice e2 u1.args.length c2'))
                  (first
                    | (with_reducible exact sr)
                    | (with_reducible exact SR.out _ (bl_drew RR.out))
                    | (with_reducible exact SR.out _ C2.out)
                    | fail)
                  ((first
                    | (go_at_call 25; (with_reducible refine (HCALL.out _ (bl_drew RR.out)).mono ?_); rintro e w2 ⟨rfl, hb2⟩; have C2 := hid (bl_call (bl_drew RR.out) hb2); clear hb2)))
                go_wp2
                go_roundw
                case rel => exact ⟨k + 1, by omega, by go_num, HRN, hid (bl_call hBr.out C2.out)⟩
                case measure => simp [intOf]; omega
            · obtain rfl : k = t.args.length := by omega
              have HRN := hid (show r = true by rw [hr.out, List.drop_length]; simp [sameL])
              clear hr hlt
              go_wp2_with fail
              go_ret
              exact ⟨by rw [HRN.out]; rfl, hB.out.trans (hBr.out.mono hB.out.size)⟩
end Go.Proofs.YtkapejcbmonfkaaGreatDoor

namespace Go.Proofs.YtkapejcbmonfkaaGreatDoor
open Go.RowKit

/-- Is it a list's cell? -/
def isCons (t : Tm) : Bool := (t.kind == 5) && (t.name.toList == (⟨#[46]⟩ : ByteArray).toList) && ((t.args.length : Int) == 2)
def elemsN : Nat → Tm → List Tm × Tm
  | 0, t => ([], t)
  | d + 1, t => if isCons t = true then (match t.args with | [a, b] => (a :: (elemsN d b).1, (elemsN d b).2) | _ => ([], t)) else ([], t)
/-- A list's elements, and what stands at its end. -/
def elems (t : Tm) : List Tm × Tm := elemsN (nodes t) t
theorem AllT.of {D : Tm → Prop} {t : Tm} (h : D t) (ha : ∀ u ∈ t.args, AllT D u) : AllT D t := by
  cases t with
  | mk k n u b v l =>
    unfold AllT
    refine ⟨h, ?_⟩
    simp only [Tm.args] at ha
    clear h
    induction l with
    | nil => unfold AllR; trivial
    | cons x l ih => unfold AllR; exact ⟨ha x (by simp), ih fun y hy => ha y (by simp [hy])⟩
theorem Good.few {t : Tm} (h : Good t) : t.args.length ≤ 64 := by
  have hn := h.node
  unfold nodeErr at hn
  have hf : fieldsOk t = true := by
    cases e : fieldsOk t with
    | true => rfl
    | false => rw [e] at hn; simp at hn
  unfold fieldsOk at hf
  simp only [Bool.and_eq_true, decide_eq_true_eq] at hf
  have har := hf.2
  split at har
  · simp at har; omega
  · simp at har; simp [har]
theorem Good.copies : ∀ (d : Nat) (t : Tm), nodes t ≤ d → Good t → AllT CpOk t
  | 0, t, h, _ => by have := nodes_pos t; omega
  | d + 1, t, h, g => by
    have ok := g.ok
    refine AllT.of ⟨fun h1 => ⟨?_, ?_, ?_, ?_⟩, g.few⟩ fun u hu => Good.copies d u (by have := (g.arg u hu).2; omega) (g.arg u hu).1
    · rcases ok.name with h | h | h
      · omega
      · omega
      · exact h
    · exact ok.num.resolve_left (by omega)
    · exact ok.bits.resolve_left (by omega)
    · exact ok.args.resolve_left (by omega)
theorem Good.cp {t : Tm} (h : Good t) : AllT CpOk t := Good.copies (nodes t) t (Nat.le_refl _) h
end Go.Proofs.YtkapejcbmonfkaaGreatDoor

namespace Go.Proofs.YtkapejcbmonfkaaGreatDoor
open Go.RowKit

/-- A list of trees lies from somewhere on. -/
def ListAt (w : World) (l : List Tm) (p : Option Addr) : Prop := l = [] ∨ ∃ b o, p = some ⟨b, o, none⟩ ∧ RowT w l b o
theorem ListAt.keep {w w' : World} {l : List Tm} {p : Option Addr} (h : ListAt w l p) (hb : Below w.heap.size w w') : ListAt w' l p := by
  rcases h with h | ⟨b, o, e, h⟩
  · exact .inl h
  · exact .inr ⟨b, o, e, RowT.keep hb h⟩
theorem ListAt.get {w : World} {l : List Tm} {p : Option Addr} (h : ListAt w l p) (k : Nat) (hk : k < l.length) : ∃ b o, p = some ⟨b, o, none⟩ ∧ ∃ q cap, Six w b (o + k * 6) l[k] q cap ∧ TmAt w l[k] q := by
  rcases h with rfl | ⟨b, o, e, h⟩
  · simp at hk
  · exact ⟨b, o, e, h.get k hk⟩
end Go.Proofs.YtkapejcbmonfkaaGreatDoor

namespace Go.Proofs.YtkapejcbmonfkaaGreatDoor
open Go.RowKit

set_option maxRecDepth 100000 in
set_option maxHeartbeats 2000000 in
theorem isCompound_any (t : Tm) (p : Option Addr) (cap : Nat) (s : ByteArray) (n : Int) (w : World) (_hl : t.args.length ≤ maxLen) :
    Calls Tryz.prog 74 #[t.val p cap, .string s, .int .i64 n] w fun e w' => e = .returned (.bool ((t.kind == 5) && (t.name.toList == s.toList) && ((t.args.length : Int) == n))) ∧ Below w.heap.size w w' := by
  have hB := hid (show Below w.heap.size w (w.alloc (tobj t p cap)) from (Below.refl w.heap.size w).alloc (Nat.le_refl _) (tobj t p cap))
  unfold tobj at hB
  unfold Tm.val
  unfold maxLen at _hl
  obtain ⟨r, hr⟩ : ∃ r, r = ((t.kind == 5) && (t.name.toList == s.toList) && ((t.args.length : Int) == n)) := ⟨_, rfl⟩
  rw [← hr]
  have HR := hid hr
  clear hr
  by_cases h1 : t.kind = 5
  · rw [h1] at hB HR ⊢
    by_cases h2 : t.name = s
    · subst h2
      by_cases h3 : (t.args.length : Int) = n
      · have HF := hid (show r = true by rw [HR.out, h3]; simp)
        subst h3
        clear HR h1
        go_enter Tryz.func74, Tryz.ntmps74
        go_wp2
        go_ret
        exact ⟨by rw [HF.out]; rfl, hB.out⟩
      · have hc : ((t.args.length : Int) == n) = false := beq_eq_false_iff_ne.2 h3
        have HF := hid (show r = false by rw [HR.out, hc]; simp)
        clear HR h1 h3
        go_enter Tryz.func74, Tryz.ntmps74
        go_wp2
        go_ret
        exact ⟨by rw [HF.out]; rfl, hB.out⟩
    · have hb : (t.name.toList == s.toList) = false := (names_eq _ _).trans (decide_eq_false h2)
      have HF := hid (show r = false by rw [HR.out, hb]; simp)
      clear HR h1 h2
      go_enter Tryz.func74, Tryz.ntmps74
      go_wp2
      go_ret
      exact ⟨by rw [HF.out]; rfl, hB.out⟩
  · have ha : (t.kind == 5) = false := beq_eq_false_iff_ne.2 h1
    have HF := hid (show r = false by rw [HR.out, ha]; rfl)
    clear HR h1
    go_enter Tryz.func74, Tryz.ntmps74
    go_wp2
    go_ret
    exact ⟨by rw [HF.out]; rfl, hB.out⟩
end Go.Proofs.YtkapejcbmonfkaaGreatDoor

namespace Go.Proofs.YtkapejcbmonfkaaGreatDoor
open Go.RowKit

/-- A term's cells. -/
def cellsA (t : Tm) (q : Option Addr) (c : Nat) : Array Value := #[.int .i64 t.kind, .string t.name, .string t.num, .int .u64 t.bits, .int .i64 t.var, .slice q t.args.length c]
/-- What stands ahead of an append of one term: the list, the term, and the block of its cells, made just now. -/
structure AppT (W3 W : World) (B : Nat) (q : Option Addr) (k c : Nat) (L : Row) (S : List Nat) (t : Tm) (q2 : Option Addr) (c2 : Nat) (S1 : List Nat) : Prop where
  world : W = W3.alloc (.cells (cellsA t q2 c2) 25)
  list : MineL W3 B q k c L S
  term : MineT W3 t q2 c2 S1
  few : k ≤ 4000
  base : B ≤ W3.heap.size
  apart : ∀ x ∈ S, x ∉ S1
  own : ∀ x, (Value.slice q k c).ownBlock = some x → x ∉ S1
  low : ∀ x ∈ S1, B ≤ x
/-- What stands behind it. -/
structure AppD (W3 w5 : World) (B g k c' : Nat) (L : Row) (S : List Nat) (t : Tm) (q2 : Option Addr) (c2 : Nat) (S1 : List Nat) : Prop where
  list : MineL w5 B (some ⟨g, 0, none⟩) (k + 1) c' (L ++ [(t, q2, c2)]) (S ++ S1)
  below : Below B W3 w5
theorem AppT.done {W3 W w5 : World} {B : Nat} {q : Option Addr} {k c g c' : Nat} {L : Row} {S : List Nat} {t : Tm} {q2 : Option Addr} {c2 : Nat} {S1 : List Nat} (h : AppT W3 W B q k c L S t q2 c2 S1)
    (hown : w5.ownsRow B 25 6 (.slice (some ⟨g, 0, none⟩) (k + 1) c') (k + 1) (flat L ++ cellsT (t, q2, c2))) (hgrow : W.grownBy w5 (Value.slice q k c).ownBlock) (hat : (Value.slice q k c).ownBlock = some g ∨ g = W.heap.size) : AppD W3 w5 B g k c' L S t q2 c2 S1 := by
  have hB := h.base
  have hA : Below W3.heap.size W3 W := by rw [h.world]; exact (Below.refl _ _).alloc (Nat.le_refl _) _
  have hz : W.heap.size = W3.heap.size + 1 := by rw [h.world]; simp
  have hl := h.list.same (w' := W) fun x _ hx => hA.block x hx
  have ht := h.term.same (w' := W) fun x hx => hA.block x (h.term.lt x hx)
  refine ⟨hl.snoc (x := (t, q2, c2)) ht h.apart h.own h.low hown hgrow (hat.imp id fun h => by omega), ?_⟩
  exact (hA.mono hB).grown hgrow (by omega) fun x e => ownBlock_le hl.row e
theorem AppT.run {W3 W : World} {B : Nat} {q : Option Addr} {k c : Nat} {L : Row} {S : List Nat} {t : Tm} {q2 : Option Addr} {c2 : Nat} {S1 : List Nat} (h : AppT W3 W B q k c L S t q2 c2 S1) (ty : TypeId) :
    ∃ g c' w5, (Builtin.append_ #[23, 23] ty #[.slice q k c, .slice (some ⟨W3.heap.size, 0, none⟩) 1 1]).run Tryz.prog W = .ok (.slice (some ⟨g, 0, none⟩) (k + 1) c') w5 ∧ AppD W3 w5 B g k c' L S t q2 c2 S1 := by
  obtain ⟨i0, hi, hz0, hz1, hz2⟩ := info_parts infoTerm
  have hf := h.few
  have hA : Below W3.heap.size W3 W := by rw [h.world]; exact (Below.refl _ _).alloc (Nat.le_refl _) _
  have hz : W.heap.size = W3.heap.size + 1 := by rw [h.world]; simp
  have hl := h.list.same (w' := W) fun x _ hx => hA.block x hx
  have hn : W.heap[W3.heap.size]? = some (.cells (cellsA t q2 c2) 25 (0, 0)) := by rw [h.world]; exact World.alloc_heap_new W3 _
  have hb := h.base
  obtain ⟨g, c', w5, hr, h2, h3, h4, _⟩ := run_append_lies (P := Tryz.prog) W 23 ty B 25 i0 (.agg #[.int .i64 0, .string ⟨#[]⟩, .string ⟨#[]⟩, .int .u64 0, .int .i64 0, .slice none 0 0]) 6 80 Tryz.underlying23 hi hz0 hz1 hz2 rfl (by decide) (.slice q k c) k (flat L) hl.row ⟨W3.heap.size, 0, none⟩ 1 1 (cellsT (t, q2, c2)) rfl (World.news_of_block hn) (cellsT_one _) (by decide) (by unfold maxLen; omega) (by omega) (by omega) W.heap.size rfl
  exact ⟨g, c', w5, hr, h.done h2 h3 h4⟩
end Go.Proofs.YtkapejcbmonfkaaGreatDoor

namespace Go.Proofs.YtkapejcbmonfkaaGreatDoor
open Go.RowKit

/-- Nothing but some blocks has been written over. -/
structure Chg (S : List Nat) (w w' : World) : Prop where
  os : w'.os = w.os
  tape : w'.tape = w.tape
  output : w'.output = w.output
  size : w.heap.size ≤ w'.heap.size
  same : ∀ x, x < w.heap.size → x ∉ S → w'.heap[x]? = w.heap[x]?
theorem Chg.refl (S : List Nat) (w : World) : Chg S w w := ⟨rfl, rfl, rfl, Nat.le_refl _, fun _ _ _ => rfl⟩
theorem Chg.trans {S : List Nat} {A B C : World} (h : Chg S A B) (k : Chg S B C) : Chg S A C :=
  ⟨k.os.trans h.os, k.tape.trans h.tape, k.output.trans h.output, Nat.le_trans h.size k.size, fun x hx hn => (k.same x (Nat.lt_of_lt_of_le hx h.size) hn).trans (h.same x hx hn)⟩
theorem Chg.mono {S S' : List Nat} {w w' : World} (h : Chg S w w') (hs : ∀ x ∈ S, x ∈ S') : Chg S' w w' := ⟨h.os, h.tape, h.output, h.size, fun x hx hn => h.same x hx fun k => hn (hs x k)⟩
theorem Chg.of_below {S : List Nat} {w w' : World} (h : Below w.heap.size w w') : Chg S w w' := ⟨h.os, h.tape, h.output, h.size, fun x hx _ => h.block x hx⟩
theorem Chg.of_grown {S : List Nat} {w w' : World} {row : Option Nat} (h : w.grownBy w' row) (hr : ∀ x, row = some x → x ∈ S) : Chg S w w' := ⟨h.os, h.tape, h.output, h.size, fun x hx hn => h.block x hx fun e => hn (hr x e.symm)⟩
/-- A store into a block of one's own, or made since. -/
theorem Chg.set {S : List Nat} {w w' : World} (h : Chg S w w') (a : Addr) (v : Value) (ha : w.heap.size ≤ a.block ∨ a.block ∈ S) : Chg S w (w'.setCell a v) :=
  ⟨h.os, h.tape, h.output, by have := h.size; simpa using this, fun x hx hn => (Below.heap_setCell w' a v x (fun e => ha.elim (fun h => by omega) (fun h => hn (by rw [e]; exact h)))).trans (h.same x hx hn)⟩
theorem MineT.parts {w : World} {t : Tm} {p : Option Addr} {cap : Nat} {S : List Nat} (h : MineT w t p cap S) : t.args.length ≤ 4000 ∧ ((t.args = [] ∧ p = none ∧ cap = 0 ∧ S = []) ∨ ∃ b arr S', p = some ⟨b, 0, none⟩ ∧ S = b :: S' ∧ w.heap[b]? = some (.cells arr 25 (0, 0)) ∧ arr.size = cap * 6 ∧ (t.args.length ≤ cap ∧ cap ≤ maxLen) ∧ b ∉ S' ∧ MineR w t.args b 0 S') := by
  cases t; unfold MineT at h; exact h
theorem MineR.head {w : World} {l : List Tm} {b o : Nat} {S : List Nat} (k : Nat) (hk : k < l.length) (h : MineR w (l.drop k) b o S) : ∃ p cap S1 S2, S = S1 ++ S2 ∧ (∀ x ∈ S1, x ∉ S2) ∧ Six w b o l[k] p cap ∧ MineT w l[k] p cap S1 ∧ MineR w (l.drop (k + 1)) b (o + 6) S2 := by
  rw [List.drop_eq_getElem_cons hk] at h
  unfold MineR at h
  exact h
/-- append of some to a row whose block one owns, whatever it holds. -/
theorem wpList_app_row (W : World) {ops : Array Oper} {rest : List Oper} {o : Oper} {a : Act} {Q : Exit → Act → World → Prop} (hgd : o.guard = none) (s x : Operand)
    (ho : o.op = .call { callee := .builtin .append, args := #[s, x], argTypes := #[23, 23] })
    (h : ∃ (q : Option Addr) (n c : Nat) (b m : Nat) (cs : Array Value), a.eval s = .slice q n c ∧ a.eval x = .slice (some ⟨b, 0, none⟩) m m ∧ W.heap[b]? = some (.cells cs 25 (0, 0)) ∧ cs.size = m * 6 ∧ (∀ u ∈ cs.toList, u.oneCell' = true) ∧ 0 < m ∧ n + m ≤ 5000 ∧
      ((q = none ∧ n = 0 ∧ c = 0) ∨ ∃ g arr, q = some ⟨g, 0, none⟩ ∧ W.heap[g]? = some (.cells arr 25 (0, 0)) ∧ arr.size = c * 6 ∧ n ≤ c ∧ c ≤ maxLen) ∧
      ∀ g c' w5 arr', W.grownBy w5 (Value.slice q n c).ownBlock → ((Value.slice q n c).ownBlock = some g ∨ g = W.heap.size) → w5.heap[g]? = some (.cells arr' 25 (0, 0)) → arr'.size = c' * 6 → n + m ≤ c' → c' ≤ maxLen → wpList Tryz.prog ops Q rest (a.put o.dst (.slice (some ⟨g, 0, none⟩) (n + m) c')) w5) : wpList Tryz.prog ops Q (o :: rest) a W := by
  obtain ⟨q, n, c, b, m, cs, hs, hx, hb, hcs, h1, hm, hnm, hq, hk⟩ := h
  obtain ⟨i0, hi, hz0, hz1, hz2⟩ := info_parts infoTerm
  have hown : ∃ xs, W.ownsRow 0 25 6 (.slice q n c) n xs := by
    rcases hq with ⟨rfl, rfl, rfl⟩ | ⟨g, arr, rfl, hg, ha, hn, hc⟩
    · exact ⟨[], World.ownsRow_nil _ _ _ _⟩
    · exact ⟨arr.toList.take (n * 6), by simp; omega, .inr ⟨g, c, arr, rfl, Nat.zero_le _, hg, hn, hc, ha, rfl⟩⟩
  obtain ⟨xs, hown⟩ := hown
  obtain ⟨g, c', w5, hr, h2, h3, h4, _⟩ := run_append_lies (P := Tryz.prog) W 23 o.type 0 25 i0 (.agg #[.int .i64 0, .string ⟨#[]⟩, .string ⟨#[]⟩, .int .u64 0, .int .i64 0, .slice none 0 0]) 6 80 Tryz.underlying23 hi hz0 hz1 hz2 rfl (by decide) (.slice q n c) n xs hown ⟨b, 0, none⟩ m m cs.toList (by simpa using hcs) (World.news_of_block hb) h1 hm (by unfold maxLen; omega) (by omega) (Nat.zero_le _) W.heap.size rfl
  refine wpList_plain hgd fun K hK => ?_
  unfold Oper.wp execOp
  simp only [ho, resolve, invoke, builtin, Sem.run_bind, Sem.run_pure, Result.andThen_ok, List.map_toArray, List.map_cons, List.map_nil, hs, hx, hr]
  rcases h2.2 with ⟨e, _⟩ | ⟨g', cap', cur, e, _, hg, hnc, hcm, hcu, _⟩
  · simp at e
  · simp only [Value.slice.injEq, Option.some.injEq, Addr.mk.injEq, and_true, true_and] at e
    obtain ⟨rfl, rfl⟩ := e
    exact hK _ _ (hk g c' w5 cur h3 h4 hg hcu hnc hcm)
set_option maxRecDepth 100000 in
set_option maxHeartbeats 8000000 in
theorem marked_any (d : Nat) : ∀ (t : Tm) (q : Option Addr) (c : Nat) (S : List Nat) (m : ByteArray) (w : World), nodes t ≤ d → MineT w t q c S →
    Calls Tryz.prog 26 #[t.val q c, .string m] w fun e w' => (∃ v, e = .returned v) ∧ Chg S w w' := by
  induction d with
  | zero => intro t q c S m w h; have := nodes_pos t; omega
  | succ d ih =>
    intro t q c S m w hd hT
    have IH := hid ih
    have hSw := hid hT.lt
    have hB := hid (show Below w.heap.size w (w.alloc (tobj t q c)) from (Below.refl w.heap.size w).alloc (Nat.le_refl _) _)
    have P0 := hid (heap_alloc_new w (tobj t q c))
    obtain ⟨h4, hp⟩ := hT.parts
    have hlt : (t.args.length : Int) ≤ 4000 := by omega
    unfold Tm.val
    clear ih hT
    rcases hp with ⟨ha, rfl, rfl, rfl⟩ | ⟨b, arr, S', rfl, rfl, hb, hcs, hcap, hbS, hR⟩
    · have hz : t.args.length = 0 := by rw [ha]; rfl
      rw [hz]
      have HZ := hid hz
      obtain ⟨W0, hW0⟩ : ∃ W0, W0 = w.alloc (.cells #[.int .i64 t.kind, .string t.name, .string t.num, .int .u64 t.bits, .int .i64 t.var, .slice none 0 0] 25) := ⟨_, rfl⟩
      have HB0 := hid (show Below w.heap.size w W0 by rw [hW0]; exact (Below.refl w.heap.size w).alloc (Nat.le_refl _) _)
      have HP0 := hid (show W0.heap[w.heap.size]? = some (.cells #[.int .i64 t.kind, .string t.name, .string t.num, .int .u64 t.bits, .int .i64 t.var, .slice none 0 0] 25 (0, 0)) by rw [hW0]; exact heap_alloc_new w _)
      have HS0 := hid (show W0.heap.size = w.heap.size + 1 by rw [hW0]; simp)
      clear hz ha IH P0 hB hSw h4 hlt
      go_enter Tryz.func26, Tryz.ntmps26
      go_wp2_with fail
      refine wp_loop_rounds 1 ?_
      rw [rounds_succ]
      go_wp2_with (at_builtin; refine wpList_app_row _ rfl _ _ rfl ?_; rw [← hW0]; refine ⟨none, 0, 0, W0.heap.size, 2, #[.int .i64 0, .string m, .string ⟨#[]⟩, .int .u64 0, .int .i64 0, .slice none 0 0, .int .i64 0, .string m, .string ⟨#[]⟩, .int .u64 0, .int .i64 0, .slice none 0 0], rfl, by rw [HS0.out]; rfl, World.alloc_heap_new W0 _, rfl, by intro u hu; simp at hu; rcases hu with rfl | rfl | rfl | rfl | rfl | rfl | rfl | rfl | rfl | rfl | rfl | rfl <;> rfl, by decide, by decide, .inl ⟨rfl, rfl, rfl⟩, ?_⟩; intro g c' w5 arr' hgrow hat hg ha hn hc; have B5 := hid (show Chg [] w w5 from (Chg.of_below (HB0.out.alloc (by have := HS0.out; omega) _)).trans (Chg.of_grown hgrow (by intro x e; simp [Value.ownBlock] at e))); have R5 := hid (show w5.heap[w.heap.size]? = _ from (hgrow.block w.heap.size (by have := HS0.out; simp; omega) (by simp [Value.ownBlock])).trans ((heap_alloc_old W0 _ (by have := HS0.out; omega)).trans HP0.out)); clear hgrow hat hg ha hn hc; obtain ⟨⟨z0, z1, z2, z3, z4, z5⟩, ⟨f0, f1, f2, f3, f4, f5⟩⟩ := six_free R5.out)
      go_end0
      exact ⟨⟨_, rfl⟩, B5.out.set _ _ (.inl (Nat.le_refl _))⟩
    · obtain ⟨W0, hW0⟩ : ∃ W0, W0 = w.alloc (.cells #[.int .i64 t.kind, .string t.name, .string t.num, .int .u64 t.bits, .int .i64 t.var, .slice (some ⟨b, 0, none⟩) t.args.length c] 25) := ⟨_, rfl⟩
      have HB0 := hid (show Below w.heap.size w W0 by rw [hW0]; exact (Below.refl w.heap.size w).alloc (Nat.le_refl _) _)
      have HP0 := hid (show W0.heap[w.heap.size]? = some (tobj t (some ⟨b, 0, none⟩) c) by rw [hW0]; exact heap_alloc_new w _)
      have hbw : b < w.heap.size := hSw.out b (by simp)
      have HPB := hid ((HB0.out.block b hbw).trans hb)
      have HSB := hid hcs
      have HRR := hid (show MineR W0 (t.args.drop 0) b 0 S' from hR.same (HB0.out.block b hbw) fun x hx => HB0.out.block x (hSw.out x (by simp [hx])))
      have HC0 := hid (show Chg (b :: S') w W0 from Chg.of_below HB0.out)
      have hbn := hid hbS
      have HCAP := hid hcap
      clear hb hcs hcap hbS hR hB P0 h4
      go_enter Tryz.func26, Tryz.ntmps26
      go_wp2_with fail
      rw [← hW0]
      clear hW0
      go_loopw [4] (fun i wr => ∃ (k : Nat) (arr : Array Value) (S2 : List Nat), k ≤ t.args.length ∧ i = .int .i64 (k : Int) ∧ Hid (wr.heap[w.heap.size]? = some (tobj t (some ⟨b, 0, none⟩) c)) ∧ Hid (wr.heap[b]? = some (.cells arr 25 (0, 0))) ∧ Hid (arr.size = c * 6) ∧ Hid (MineR wr (t.args.drop k) b (k * 6) S2) ∧ Hid (∀ x ∈ S2, x ∈ S') ∧ Hid (Chg (b :: S') w wr)) (fun i _ => t.args.length - (intOf i).toNat)
      case atStart => exact ⟨0, arr, S', by omega, rfl, HP0, HPB, HSB, hid (by rw [Nat.zero_mul]; exact HRR.out), hid (fun x hx => hx), HC0⟩
      case round =>
        clear HP0 HPB HSB HRR HC0
        obtain ⟨k, arr, S2, hk, rfl, P0, PB, HSZ, HR, HSS, HCG⟩ := hrel
        obtain ⟨x0, x1, x2, x3, x4, x5⟩ := six_of P0.out
        by_cases hlk : k < t.args.length
        · have hk0 : (0 : Int) ≤ (k : Int) := by omega
          have hk1 : (k : Int) < (t.args.length : Int) := by omega
          obtain ⟨p1, c1, SA, SB, rfl, hd, hs1, hm1, hr1⟩ := MineR.head k hlk HR.out
          have HCALL := hid (IH.out t.args[k] p1 c1 SA m wr (by have := nodes_lt hlk; omega) hm1)
          have HD := hid hd
          have HR1 := hid hr1
          have HLT := hid (And.intro hm1.lt hr1.lt)
          clear hd hr1 hm1
          generalize t.args[k] = t1 at *
          unfold Tm.val at HCALL
          obtain ⟨g0, g1, g2, g3, g4, g5⟩ := hs1
          go_wp2_with (first
            | (go_at_call 26; (with_reducible refine HCALL.out.mono ?_); rintro e w2 ⟨⟨v, rfl⟩, hc2⟩; have C2 := hid hc2; have hbA : b ∉ SA := fun h => hbn.out (HSS.out b (by simp [h])); have hwA : w.heap.size ∉ SA := fun h => (by have := hSw.out _ (List.mem_cons_of_mem _ (HSS.out w.heap.size (by simp [h]))); omega); have Q0 := hid ((hc2.same _ (lt_of_block P0.out) hwA).trans P0.out); have QB := hid ((hc2.same _ (lt_of_block PB.out) hbA).trans PB.out); clear hc2 x0 x1 x2 x3 x4 x5 g0 g1 g2 g3 g4 g5; have x5 := (six_of Q0.out).c5; have ha6 : k * 6 + 6 ≤ arr.size := (by have := HSZ.out; have := HCAP.out.1; omega); have f2 : ∀ j, w2.frozen? ⟨b, j, none⟩ = false := fun j => (by simp [World.frozen?, QB.out]); have g2 : ∀ j, j < 6 → ∃ v, w2.cell? ⟨b, k * 6 + j, none⟩ = some v := fun j hj => ⟨arr[k * 6 + j], by rw [cells_of QB.out]; exact Array.getElem?_eq_getElem (by omega)⟩; obtain ⟨v0, y0'⟩ := g2 0 (by omega); have y0 : w2.cell? ⟨b, k * 6, none⟩ = some v0 := y0'; obtain ⟨v1, y1⟩ := g2 1 (by omega); obtain ⟨v2, y2⟩ := g2 2 (by omega); obtain ⟨v3, y3⟩ := g2 3 (by omega); obtain ⟨v4, y4⟩ := g2 4 (by omega); obtain ⟨v5, y5⟩ := g2 5 (by omega); have r0 := f2 (k * 6); have r1 := f2 (k * 6 + 1); have r2 := f2 (k * 6 + 2); have r3 := f2 (k * 6 + 3); have r4 := f2 (k * 6 + 4); have r5 := f2 (k * 6 + 5); have HA6 := hid ha6; clear f2 g2 y0' ha6)
            | fail)
          go_roundw
          case rel =>
            obtain ⟨W9, h9⟩ : ∃ W9, W9 = (((((w2.setCell ⟨b, k * 6, none⟩ (.int .i64 2)).setCell ⟨b, k * 6 + 1, none⟩ (.string m)).setCell ⟨b, k * 6 + 2, none⟩ (.string ⟨#[]⟩)).setCell ⟨b, k * 6 + 3, none⟩ (.int .u64 0)).setCell ⟨b, k * 6 + 4, none⟩ (.int .i64 0)).setCell ⟨b, k * 6 + 5, none⟩ (.slice none 0 0) := ⟨_, rfl⟩
            rw [← h9]
            obtain ⟨gr9, arr', e9, es, eo, -⟩ := put6 QB.out HA6.out _ _ _ _ _ _ W9 h9
            have hbB : b ∉ SB := fun h => hbn.out (HSS.out b (by simp [h]))
            have hold : ∀ x, x < w2.heap.size → x ≠ b → W9.heap[x]? = w2.heap[x]? := fun x hx hne => gr9.block x hx (fun e => hne (Option.some.inj e))
            refine ⟨k + 1, arr', SB, by omega, by go_num, hid ((hold _ (lt_of_block Q0.out) (by omega)).trans Q0.out), hid e9, hid (es.trans HSZ.out), hid ?_, hid (fun x hx => HSS.out x (by simp [hx])), hid ?_⟩
            · refine HR1.out.cells (fun j hj => ?_) fun x hx => ?_
              · rw [cells_of e9, eo _ (by omega), ← cells_of QB.out, show (k + 1) * 6 + j = k * 6 + 6 + j by omega]
                exact World.cell?_of_block (a := ⟨b, k * 6 + 6 + j, none⟩) (C2.out.same b (lt_of_block PB.out) (fun h => hbn.out (HSS.out b (by simp [h]))))
              · have hl := HLT.out.2 x hx
                exact (hold x (Nat.lt_of_lt_of_le hl C2.out.size) (fun e => hbB (e ▸ hx))).trans (C2.out.same x hl fun h => HD.out x h hx)
            · exact HCG.out.trans ((C2.out.mono fun x hx => List.mem_cons_of_mem _ (HSS.out x (by simp [hx]))).trans (Chg.of_grown gr9 (by intro x e; cases e; simp)))
          case measure => simp [intOf]; omega
        · obtain rfl : k = t.args.length := by omega
          have hbz := lt_of_block PB.out
          have hwz := lt_of_block P0.out
          go_wp2_with (at_builtin; refine wpList_app_row _ rfl _ _ rfl ?_; refine ⟨some ⟨b, 0, none⟩, t.args.length, c, wr.heap.size, 2, #[.int .i64 0, .string m, .string ⟨#[]⟩, .int .u64 0, .int .i64 0, .slice none 0 0, .int .i64 0, .string m, .string ⟨#[]⟩, .int .u64 0, .int .i64 0, .slice none 0 0], rfl, rfl, World.alloc_heap_new wr _, rfl, by intro u hu; simp at hu; rcases hu with rfl | rfl | rfl | rfl | rfl | rfl | rfl | rfl | rfl | rfl | rfl | rfl <;> rfl, by decide, by omega, .inr ⟨b, arr, rfl, (heap_alloc_old wr _ hbz).trans PB.out, HSZ.out, HCAP.out.1, HCAP.out.2⟩, ?_⟩; intro g c' w5 arr' hgrow hat hg ha hn hc; have B5 := hid (show Chg (b :: S') w w5 from HCG.out.trans ((Chg.of_below ((Below.refl _ _).alloc (Nat.le_refl _) _)).trans (Chg.of_grown hgrow (by intro x e; have : b = x := (by simpa [Value.ownBlock] using e); subst this; simp)))); have R5 := hid (show w5.heap[w.heap.size]? = _ from (hgrow.block w.heap.size (by rw [World.size_alloc]; omega) (fun e => by have : w.heap.size = b := (by simpa [Value.ownBlock] using e); omega)).trans ((heap_alloc_old wr _ hwz).trans P0.out)); clear hgrow hat hg ha hn hc x0 x1 x2 x3 x4 x5; obtain ⟨⟨z0, z1, z2, z3, z4, z5⟩, ⟨f0, f1, f2, f3, f4, f5⟩⟩ := six_free (show w5.heap[w.heap.size]? = some (.cells #[.int .i64 t.kind, .string t.name, .string t.num, .int .u64 t.bits, .int .i64 t.var, .slice (some ⟨b, 0, none⟩) t.args.length c] 25 (0, 0)) from R5.out))
          go_end0
          exact ⟨⟨_, rfl⟩, B5.out.set _ _ (.inl (Nat.le_refl _))⟩
end Go.Proofs.YtkapejcbmonfkaaGreatDoor

namespace Go.Proofs.YtkapejcbmonfkaaGreatDoor
open Go.RowKit

/-- A row of terms whose block one owns, whatever it holds. -/
def RowOk (w : World) (q : Option Addr) (n c : Nat) : Prop := (q = none ∧ n = 0 ∧ c = 0) ∨ ∃ g arr, q = some ⟨g, 0, none⟩ ∧ w.heap[g]? = some (.cells arr 25 (0, 0)) ∧ arr.size = c * 6 ∧ n ≤ c ∧ c ≤ maxLen
theorem RowOk.at_ {w : World} {q : Option Addr} {n c g : Nat} (h : RowOk w q n c) (e : (Value.slice q n c).ownBlock = some g) : q = some ⟨g, 0, none⟩ := by
  rcases h with ⟨rfl, rfl, rfl⟩ | ⟨g', arr, rfl, _⟩
  · simp [Value.ownBlock] at e
  · have : g' = g := by simpa [Value.ownBlock] using e
    rw [this]
/-- The blocks that a list owns. -/
def foot (q : Option Addr) (S : List Nat) : List Nat := match q with | some a => a.block :: S | none => S
/-- A list of terms in memory of its own. -/
structure ListM (w : World) (q : Option Addr) (n c : Nat) (l : List Tm) (S : List Nat) : Prop where
  len : n = l.length
  row : RowOk w q n c
  mine : ∀ g, q = some ⟨g, 0, none⟩ → g ∉ S ∧ MineR w l g 0 S
  lt : ∀ x ∈ foot q S, x < w.heap.size
theorem Chg.grown {S : List Nat} {w w1 w2 : World} {row : Option Nat} (h : Chg S w w1) (hg : w1.grownBy w2 row) (hr : ∀ x, row = some x → w.heap.size ≤ x ∨ x ∈ S) : Chg S w w2 :=
  ⟨hg.os.trans h.os, hg.tape.trans h.tape, hg.output.trans h.output, Nat.le_trans h.size hg.size, fun x hx hn => (hg.block x (Nat.lt_of_lt_of_le hx h.size) (fun e => by
    rcases hr x e.symm with k | k
    · omega
    · exact hn k)).trans (h.same x hx hn)⟩
end Go.Proofs.YtkapejcbmonfkaaGreatDoor
