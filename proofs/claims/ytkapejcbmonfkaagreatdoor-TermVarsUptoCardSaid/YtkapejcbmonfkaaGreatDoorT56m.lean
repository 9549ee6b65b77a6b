/- Walk of the document's Same: are two trees the same? No condition but those that each theorem names. A list's elements and rest: plain; isCompound; trees that may be are copied as they are. No condition but those that each theorem names. Walk of the document's SameList: are two lists of trees the same? No condition but those that each theorem names. Walk: isCompound. No condition but those that the theorem names. Walk: append of one term to a list in memory of its own. No condition but those that each theorem names. Walk: marked writes over what a tree owns, and nothing else. No condition but those that each theorem names. Walks of the document's answer: F, F2 of trees in memory of their own; Listed. No condition but those that each theorem names. Walks of the document's answer: List. No condition but those that each theorem names. Walk: again: a list of trees is written over by its owner, and another one is not touched. No condition but those that each theorem names. Walk: Elements of a term that may be, the program's. No condition but those that each theorem names. Walks: Elements of a term that may not be; the document's Elements. No condition but those that each theorem names. -/
import Derived.Test.YtkapejcbmonfkaaGreatDoorT41m
import Derived.Test.YtkapejcbmonfkaaGreatDoorT53m
import Derived.Test.YtkapejcbmonfkaaGreatDoorT19m
namespace Go.Proofs.YtkapejcbmonfkaaGreatDoor
open Go.RowKit

/-- Are two nodes alike but for their arguments? -/
def likeT (t u : Tm) : Bool := (t.kind == u.kind) && (t.name.toList == u.name.toList) && (t.num.toList == u.num.toList) && (t.bits == u.bits) && (t.var == u.var) && ((t.args.length : Int) == (u.args.length : Int))
mutual
def sameT : Tm → Tm → Bool
  | .mk k n x b v l, u => likeT (.mk k n x b v l) u && sameL l u.args
def sameL : List Tm → List Tm → Bool
  | [], _ => true
  | _ :: _, [] => true
  | t :: l, u :: m => sameT t u && sameL l m
end
theorem sameT_eq (t u : Tm) : sameT t u = (likeT t u && sameL t.args u.args) := by cases t; rw [sameT]; rfl
theorem likeT_iff (t u : Tm) : likeT t u = true ↔ t.kind = u.kind ∧ t.name = u.name ∧ t.num = u.num ∧ t.bits = u.bits ∧ t.var = u.var ∧ t.args.length = u.args.length := by
  unfold likeT
  rw [names_eq, names_eq]
  simp only [Bool.and_eq_true, beq_iff_eq, decide_eq_true_eq]
  constructor
  · rintro ⟨⟨⟨⟨⟨h1, h2⟩, h3⟩, h4⟩, h5⟩, h6⟩; exact ⟨h1, h2, h3, h4, h5, by omega⟩
  · rintro ⟨h1, h2, h3, h4, h5, h6⟩; exact ⟨⟨⟨⟨⟨h1, h2⟩, h3⟩, h4⟩, h5⟩, by omega⟩
mutual
theorem sameT_iff : ∀ (t u : Tm), sameT t u = true ↔ t = u
  | .mk k n x b v l, u => by
    have hL := sameL_iff l u.args
    rw [sameT_eq, Bool.and_eq_true, likeT_iff]
    cases u with
    | mk k' n' x' b' v' l' =>
      simp only [Tm.kind, Tm.name, Tm.num, Tm.bits, Tm.var, Tm.args] at *
      constructor
      · rintro ⟨⟨rfl, rfl, rfl, rfl, rfl, h⟩, h2⟩
        rw [(hL h).1 h2]
      · intro h
        injection h with h1 h2 h3 h4 h5 h6
        subst h1 h2 h3 h4 h5 h6
        exact ⟨⟨rfl, rfl, rfl, rfl, rfl, rfl⟩, (hL rfl).2 rfl⟩
theorem sameL_iff : ∀ (l m : List Tm), l.length = m.length → (sameL l m = true ↔ l = m)
  | [], [], _ => by simp [sameL]
  | [], _ :: _, e => by simp at e
  | _ :: _, [], e => by simp at e
  | t :: l, u :: m, e => by
    have h1 := sameT_iff t u
    have h2 := sameL_iff l m (by simpa using e)
    show (sameT t u && sameL l m) = true ↔ _
    rw [Bool.and_eq_true, h1, h2]
    simp
end
theorem sameL_drop : ∀ (l m : List Tm) (k : Nat) (h : k < l.length) (h' : k < m.length), sameL (l.drop k) (m.drop k) = (sameT l[k] m[k] && sameL (l.drop (k + 1)) (m.drop (k + 1)))
  | [], _, k, h, _ => by simp at h
  | _ :: _, [], k, _, h => by simp at h
  | t :: l, u :: m, 0, _, _ => by simp [sameL]
  | t :: l, u :: m, k + 1, h, h' => by
    have := sameL_drop l m k (by simpa using h) (by simpa using h')
    simpa using this
set_option maxRecDepth 100000 in
set_option maxHeartbeats 8000000 in
theorem same_any (d : Nat) : ∀ (t u : Tm) (p q : Option Addr) (cp cq : Nat) (w : World), nodes t ≤ d → TmAt w t p → TmAt w u q →
    Calls Tryz.prog 25 #[t.val p cp, u.val q cq] w fun e w' => e = .returned (.bool (sameT t u)) ∧ Below w.heap.size w w' := by
  induction d with
  | zero => intro t u p q cp cq w h; have := nodes_pos t; omega
  | succ d ih =>
    intro t u p q cp cq w hd hT hU
    obtain ⟨W0, hW0⟩ : ∃ W0, W0 = (w.alloc (tobj t p cp)).alloc (tobj u q cq) := ⟨_, rfl⟩
    have hB := hid (show Below w.heap.size w W0 by rw [hW0]; exact ((Below.refl w.heap.size w).alloc (Nat.le_refl _) _).alloc (by simp) _)
    have HS2 := hid (show W0.heap[w.heap.size + 1]? = some (tobj u q cq) by rw [hW0]; have h := heap_alloc_new (w.alloc (tobj t p cp)) (tobj u q cq); rwa [World.size_alloc] at h)
    have HS1 := hid (show W0.heap[w.heap.size]? = some (tobj t p cp) by rw [hW0]; exact (heap_alloc_old (w.alloc (tobj t p cp)) _ (by simp)).trans (heap_alloc_new w _))
    have HT := hid (hT.keep hB.out)
    have HU := hid (hU.keep hB.out)
    have HNE := hid (fun k (h : k < t.args.length) => (show nodes t.args[k] ≤ d by have := nodes_lt h; omega))
    have hlt := hT.len
    have hlu := hU.len
    unfold maxLen at hlt hlu
    obtain ⟨x0, x1, x2, x3, x4, x5⟩ := six_of HS1.out
    obtain ⟨y0, y1, y2, y3, y4, y5⟩ := six_of HS2.out
    have SX := hid (show ∀ W : World, Below W0.heap.size W0 W → (W.cell? ⟨w.heap.size, 5, none⟩ = some (.slice p t.args.length cp) ∧ W.cell? ⟨w.heap.size + 1, 5, none⟩ = some (.slice q u.args.length cq)) from fun W h =>
      ⟨(six_of (obj_keep HS1.out h)).c5, (six_of (obj_keep HS2.out h)).c5⟩)
    obtain ⟨r, hr⟩ : ∃ r, r = sameT t u := ⟨_, rfl⟩
    rw [← hr]
    have HR := hid (hr.trans (sameT_eq t u))
    clear hr hT hU HS1 HS2
    unfold tobj at hW0
    unfold Tm.val at ih ⊢
    have IH := hid ih
    clear ih
    by_cases n0 : t.kind = u.kind
    rotate_left
    · have hl : likeT t u = false := by
        cases h : likeT t u with
        | false => rfl
        | true => exact absurd ((likeT_iff t u).1 h).1 n0
      have HF := hid (show r = false by rw [HR.out, hl]; rfl)
      have c0 : (t.kind == u.kind) = false := beq_eq_false_iff_ne.2 n0
      have k0 : (t.kind != u.kind) = true := by rw [bne, c0]; rfl
      clear HR HNE IH HT HU SX hl n0
      go_enter Tryz.func25, Tryz.ntmps25
      go_wp2_with fail
      go_ret
      exact ⟨by rw [HF.out]; rfl, ((Below.refl w.heap.size w).alloc (Nat.le_refl _) _).alloc (by simp) _⟩
    have E0 := hid n0
    clear n0
    rw [← E0.out] at y0 hW0 ⊢
    by_cases n1 : t.name = u.name
    rotate_left
    · have hl : likeT t u = false := by
        cases h : likeT t u with
        | false => rfl
        | true => exact absurd ((likeT_iff t u).1 h).2.1 n1
      have HF := hid (show r = false by rw [HR.out, hl]; rfl)
      have c1 : (t.name.toList == u.name.toList) = false := (names_eq _ _).trans (decide_eq_false n1)
      have k1 : (t.name.toList != u.name.toList) = true := by rw [bne, c1]; rfl
      clear HR HNE IH HT HU SX hl n1
      go_enter Tryz.func25, Tryz.ntmps25
      go_wp2_with fail
      go_ret
      exact ⟨by rw [HF.out]; rfl, ((Below.refl w.heap.size w).alloc (Nat.le_refl _) _).alloc (by simp) _⟩
    have E1 := hid n1
    clear n1
    rw [← E1.out] at y1 hW0 ⊢
    by_cases n2 : t.num = u.num
    rotate_left
    · have hl : likeT t u = false := by
        cases h : likeT t u with
        | false => rfl
        | true => exact absurd ((likeT_iff t u).1 h).2.2.1 n2
      have HF := hid (show r = false by rw [HR.out, hl]; rfl)
      have c2 : (t.num.toList == u.num.toList) = false := (names_eq _ _).trans (decide_eq_false n2)
      have k2 : (t.num.toList != u.num.toList) = true := by rw [bne, c2]; rfl
      clear HR HNE IH HT HU SX hl n2
      go_enter Tryz.func25, Tryz.ntmps25
      go_wp2_with fail
      go_ret
      exact ⟨by rw [HF.out]; rfl, ((Below.refl w.heap.size w).alloc (Nat.le_refl _) _).alloc (by simp) _⟩
    have E2 := hid n2
    clear n2
    rw [← E2.out] at y2 hW0 ⊢
    by_cases n3 : t.bits = u.bits
    rotate_left
    · have hl : likeT t u = false := by
        cases h : likeT t u with
        | false => rfl
        | true => exact absurd ((likeT_iff t u).1 h).2.2.2.1 n3
      have HF := hid (show r = false by rw [HR.out, hl]; rfl)
      have c3 : (t.bits == u.bits) = false := beq_eq_false_iff_ne.2 n3
      have k3 : (t.bits != u.bits) = true := by rw [bne, c3]; rfl
      clear HR HNE IH HT HU SX hl n3
      go_enter Tryz.func25, Tryz.ntmps25
      go_wp2_with fail
      go_ret
      exact ⟨by rw [HF.out]; rfl, ((Below.refl w.heap.size w).alloc (Nat.le_refl _) _).alloc (by simp) _⟩
    have E3 := hid n3
    clear n3
    rw [← E3.out] at y3 hW0 ⊢
    by_cases n4 : t.var = u.var
    rotate_left
    · have hl : likeT t u = false := by
        cases h : likeT t u with
        | false => rfl
        | true => exact absurd ((likeT_iff t u).1 h).2.2.2.2.1 n4
      have HF := hid (show r = false by rw [HR.out, hl]; rfl)
      have c4 : (t.var == u.var) = false := beq_eq_false_iff_ne.2 n4
      have k4 : (t.var != u.var) = true := by rw [bne, c4]; rfl
      clear HR HNE IH HT HU SX hl n4
      go_enter Tryz.func25, Tryz.ntmps25
      go_wp2_with fail
      go_ret
      exact ⟨by rw [HF.out]; rfl, ((Below.refl w.heap.size w).alloc (Nat.le_refl _) _).alloc (by simp) _⟩
    have E4 := hid n4
    clear n4
    rw [← E4.out] at y4 hW0 ⊢
    by_cases n5 : t.args.length = u.args.length
    rotate_left
    · have hl : likeT t u = false := by
        cases h : likeT t u with
        | false => rfl
        | true => exact absurd ((likeT_iff t u).1 h).2.2.2.2.2 n5
      have HF := hid (show r = false by rw [HR.out, hl]; rfl)
      have c5 : ((t.args.length : Int) == (u.args.length : Int)) = false := beq_eq_false_iff_ne.2 (by omega)
      have k5 : ((t.args.length : Int) != (u.args.length : Int)) = true := by rw [bne, c5]; rfl
      clear HR HNE IH HT HU SX hl n5
      go_enter Tryz.func25, Tryz.ntmps25
      go_wp2_with fail
      go_ret
      exact ⟨by rw [HF.out]; rfl, ((Below.refl w.heap.size w).alloc (Nat.le_refl _) _).alloc (by simp) _⟩
    have E5 := hid n5
    clear n5
    rw [← E5.out] at y5 hW0 ⊢
    have hlen := E5
    have HR2 := hid (show r = sameL (t.args.drop 0) (u.args.drop 0) by rw [HR.out, (likeT_iff t u).2 ⟨E0.out, E1.out, E2.out, E3.out, E4.out, E5.out⟩]; rfl)
    clear HR
    go_enter Tryz.func25, Tryz.ntmps25
    go_wp2_with fail
    rw [← hW0]
    have R0 := hid (Below.refl W0.heap.size W0)
    clear hW0 x0 x1 x2 x3 x4 x5 y0 y1 y2 y3 y4 y5
    go_loopw [5] (fun i wr => ∃ k : Nat, k ≤ t.args.length ∧ i = .int .i64 (k : Int) ∧ Hid (r = sameL (t.args.drop k) (u.args.drop k)) ∧ Hid (Below W0.heap.size W0 wr)) (fun i _ => t.args.length - (intOf i).toNat)
    case atStart => exact ⟨0, by omega, rfl, HR2, R0⟩
    case round =>
            clear HR2 R0
            obtain ⟨k, hk, rfl, hr, hBr⟩ := hrel
            obtain ⟨g5, k5⟩ := SX.out wr hBr.out
            by_cases hlt : k < t.args.length
            · have hlt2 : k < u.args.length := by rw [← hlen.out]; exact hlt
              have hk0 : (0 : Int) ≤ (k : Int) := by omega
              have hk1 : (k : Int) < (t.args.length : Int) := by omega
              have hk2 : (k : Int) < (u.args.length : Int) := by omega
              obtain ⟨b, o, rfl, e1, c1', hs1, ht1⟩ := (HT.out.keep hBr.out).get k hlt
              obtain ⟨b2, o2, rfl, e2, c2', hs2, ht2⟩ := (HU.out.keep hBr.out).get k hlt2
              have HCALL := hid (fun (W : World) (h : Below wr.heap.size wr W) => IH.out t.args[k] u.args[k] e1 e2 c1' c2' W (HNE.out k hlt) (ht1.keep h) (ht2.keep h))
              have HRK := hid (hr.out.trans (sameL_drop t.args u.args k hlt hlt2))
              have RR := hid (Below.refl wr.heap.size wr)
              clear hr ht1 ht2
              generalize t.args[k] = t1 at *
              generalize u.args[k] = u1 at *
              generalize sameT t1 u1 = z at *
              have SR := hid (show ∀ W : World, Below wr.heap.size wr W → (W.cell? ⟨w.heap.size, 5, none⟩ = some (.slice (some ⟨b, o, none⟩) t.args.length cp) ∧ W.cell? ⟨w.heap.size + 1, 5, none⟩ = some (.slice (some ⟨b2, o2, none⟩) u.args.length cq) ∧ W.cell? ⟨b, o + k * 6, none⟩ = some (.int .i64 t1.kind) ∧ W.cell? ⟨b, o + k * 6 + 1, none⟩ = some (.string t1.name) ∧ W.cell? ⟨b, o + k * 6 + 2, none⟩ = some (.string t1.num) ∧ W.cell? ⟨b, o + k * 6 + 3, none⟩ = some (.int .u64 t1.bits) ∧ W.cell? ⟨b, o + k * 6 + 4, none⟩ = some (.int .i64 t1.var) ∧ W.cell? ⟨b, o + k * 6 + 5, none⟩ = some (.slice e1 t1.args.length c1') ∧ W.cell? ⟨b2, o2 + k * 6, none⟩ = some (.int .i64 u1.kind) ∧ W.cell? ⟨b2, o2 + k * 6 + 1, none⟩ = some (.string u1.name) ∧ W.cell? ⟨b2, o2 + k * 6 + 2, none⟩ = some (.string u1.num) ∧ W.cell? ⟨b2, o2 + k * 6 + 3, none⟩ = some (.int .u64 u1.bits) ∧ W.cell? ⟨b2, o2 + k * 6 + 4, none⟩ = some (.int .i64 u1.var) ∧ W.cell? ⟨b2, o2 + k * 6 + 5, none⟩ = some (.slice e2 u1.args.length c2')) from fun W h =>
                have m1 := hs1.keep h
                have m2 := hs2.keep h
                have n := SX.out W (bl_call hBr.out h)
                ⟨n.1, n.2, m1.c0, m1.c1, m1.c2, m1.c3, m1.c4, m1.c5, m2.c0, m2.c1, m2.c2, m2.c3, m2.c4, m2.c5⟩)
              have sr := SR.out wr RR.out
              clear hs1 hs2
              cases z
              · have HRN := hid (show r = false from HRK.out)
                clear HRK
                go_wp2_with fail
                go_region_held3 (fun w' => w'.cell? ⟨w.heap.size, 5, none⟩ = some (.slice (some ⟨b, o, none⟩) t.args.length cp) ∧ w'.cell? ⟨w.heap.size + 1, 5, none⟩ = some (.slice (some ⟨b2, o2, none⟩) u.args.length cq) ∧ w'.cell? ⟨b, o + k * 6, none⟩ = some (.int .i64 t1.kind) ∧ w'.cell? ⟨b, o + k * 6 + 1, none⟩ = some (.string t1.name) ∧ w'.cell? ⟨b, o + k * 6 + 2, none⟩ = some (.string t1.num) ∧ w'.cell? ⟨b, o + k * 6 + 3, none⟩ = some (.int .u64 t1.bits) ∧ w'.cell? ⟨b, o + k * 6 + 4, none⟩ = some (.int .i64 t1.var) ∧ w'.cell? ⟨b, o + k * 6 + 5, none⟩ = some (.slice e1 t1.args.length c1') ∧ w'.cell? ⟨b2, o2 + k * 6, none⟩ = some (.int .i64 u1.kind) ∧ w'.cell? ⟨b2, o2 + k * 6 + 1, none⟩ = some (.string u1.name) ∧ w'.cell? ⟨b2, o2 + k * 6 + 2, none⟩ = some (.string u1.num) ∧ w'.cell? ⟨b2, o2 + k * 6 + 3, none⟩ = some (.int .u64 u1.bits) ∧ w'.cell? ⟨b2, o2 + k * 6 + 4, none⟩ = some (.int .i64 u1.var) ∧ w'.cell? ⟨b2, o2 + k * 6 + 5, none⟩ = some (.slice e2 u1.args.length c2'))
                  (first
                    | (with_reducible exact sr)
                    | (with_reducible exact SR.out _ (bl_drew RR.out))
                    | (with_reducible exact SR.out _ C2.out)
                    | fail)
                  ((first
                    | (go_at_call 25; (with_reducible refine (HCALL.out _ (bl_drew RR.out)).mono ?_); rintro e w2 ⟨rfl, hb2⟩; have C2 := hid (bl_call (bl_drew RR.out) hb2); clear hb2)))
                go_wp2
                go_ret
                exact ⟨by rw [HRN.out]; rfl, hB.out.trans ((bl_call hBr.out C2.out).mono hB.out.size)⟩
              · have HRN := hid (show r = sameL (t.args.drop (k + 1)) (u.args.drop (k + 1)) from HRK.out)
                clear HRK
                go_wp2_with fail
                go_region_held3 (fun w' => w'.cell? ⟨w.heap.size, 5, none⟩ = some (.slice (some ⟨b, o, none⟩) t.args.length cp) ∧ w'.cell? ⟨w.heap.size + 1, 5, none⟩ = some (.slice (some ⟨b2, o2, none⟩) u.args.length cq) ∧ w'.cell? ⟨b, o + k * 6, none⟩ = some (.int .i64 t1.kind) ∧ w'.cell? ⟨b, o + k * 6 + 1, none⟩ = some (.string t1.name) ∧ w'.cell? ⟨b, o + k * 6 + 2, none⟩ = some (.string t1.num) ∧ w'.cell? ⟨b, o + k * 6 + 3, none⟩ = some (.int .u64 t1.bits) ∧ w'.cell? ⟨b, o + k * 6 + 4, none⟩ = some (.int .i64 t1.var) ∧ w'.cell? ⟨b, o + k * 6 + 5, none⟩ = some (.slice e1 t1.args.length c1') ∧ w'.cell? ⟨b2, o2 + k * 6, none⟩ = some (.int .i64 u1.kind) ∧ w'.cell? ⟨b2, o2 + k * 6 + 1, none⟩ = some (.string u1.name) ∧ w'.cell? ⟨b2, o2 + k * 6 + 2, none⟩ = some (.string u1.num) ∧ w'.cell? ⟨b2, o2 + k * 6 + 3, none⟩ = some (.int .u64 u1.bits) ∧ w'.cell? ⟨b2, o2 + k * 6 + 4, none⟩ = some (.int .i64 u1.var) ∧ w'.cell? ⟨b2, o2 + k * 6 + 5, none⟩ = some (.slice e2 u1.args.length c2'))
                  (first
                    | (with_reducible exact sr)
                    | (with_reducible exact SR.out _ (bl_drew RR.out))
                    | (with_reducible exact SR.out _ C2.out)
                    | fail)
                  ((first
                    | (go_at_call 25; (with_reducible refine (HCALL.out _ (bl_drew RR.out)).mono ?_); rintro e w2 ⟨rfl, hb2⟩; have C2 := hid (bl_call (bl_drew RR.out) hb2); clear hb2)))
                go_wp2
                go_roundw
                case rel => exact ⟨k + 1, by omega, by go_num, HRN, hid (bl_call hBr.out C2.out)⟩
                case measure => simp [intOf]; omega
            · obtain rfl : k = t.args.length := by omega
              have HRN := hid (show r = true by rw [hr.out, List.drop_length]; simp [sameL])
              clear hr hlt
              go_wp2_with fail
              go_ret
              exact ⟨by rw [HRN.out]; rfl, hB.out.trans (hBr.out.mono hB.out.size)⟩
end Go.Proofs.YtkapejcbmonfkaaGreatDoor

namespace Go.Proofs.YtkapejcbmonfkaaGreatDoor
open Go.RowKit

/-- Is it a list's cell? -/
def isCons (t : Tm) : Bool := (t.kind == 5) && (t.name.toList == (⟨#[46]⟩ : ByteArray).toList) && ((t.args.length : Int) == 2)
theorem isCons_len {t : Tm} (h : isCons t = true) : t.args.length = 2 := by
  unfold isCons at h
  simp only [Bool.and_eq_true, beq_iff_eq] at h
  omega
def elemsN : Nat → Tm → List Tm × Tm
  | 0, t => ([], t)
  | d + 1, t => if isCons t = true then (match t.args with | [a, b] => (a :: (elemsN d b).1, (elemsN d b).2) | _ => ([], t)) else ([], t)
/-- A list's elements, and what stands at its end. -/
def elems (t : Tm) : List Tm × Tm := elemsN (nodes t) t
theorem elemsN_same : ∀ (d d' : Nat) (t : Tm), nodes t ≤ d → nodes t ≤ d' → elemsN d t = elemsN d' t
  | 0, _, t, h, _ => by have := nodes_pos t; omega
  | _ + 1, 0, t, _, h => by have := nodes_pos t; omega
  | d + 1, d' + 1, t, h, h' => by
    unfold elemsN
    by_cases hc : isCons t = true
    · rw [if_pos hc, if_pos hc]
      have hl := isCons_len hc
      have hn := nodes_args t
      match e : t.args, hl with
      | [a, b], _ =>
        rw [e] at hn
        simp only [nodesL] at hn
        have := nodes_pos a
        simp only []
        rw [elemsN_same d d' b (by omega) (by omega)]
    · rw [if_neg hc, if_neg hc]
theorem elems_not {t : Tm} (h : isCons t = false) : elems t = ([], t) := by
  unfold elems
  have := nodes_pos t
  obtain ⟨d, hd⟩ : ∃ d, nodes t = d + 1 := ⟨nodes t - 1, by omega⟩
  rw [hd]
  unfold elemsN
  rw [if_neg (by simp [h])]
theorem elems_cons {t : Tm} (h : isCons t = true) (h0 : 0 < t.args.length) (h1 : 1 < t.args.length) : elems t = (t.args[0] :: (elems t.args[1]).1, (elems t.args[1]).2) := by
  have hl := isCons_len h
  have hn := nodes_args t
  obtain ⟨d, hd⟩ : ∃ d, nodes t = d + 1 := ⟨nodes t - 1, by have := nodes_pos t; omega⟩
  have hu : elems t = elemsN (d + 1) t := by unfold elems; rw [hd]
  rw [hu]
  unfold elemsN
  rw [if_pos h]
  revert h0 h1
  match e : t.args, hl with
  | [a, b], _ =>
    intro h0 h1
    rw [e] at hn
    simp only [nodesL] at hn
    have := nodes_pos a
    have := nodes_pos b
    simp only [List.getElem_cons_zero, List.getElem_cons_succ]
    unfold elems
    rw [elemsN_same d (nodes b) b (by omega) (Nat.le_refl _)]
/-- Some elements, and what is at the end, as a list. -/
def listT (l : List Tm) (e : Tm) : Tm := l.foldr (fun a b => .mk 5 ⟨#[46]⟩ ⟨#[]⟩ 0 0 [a, b]) e
theorem AllT.of {D : Tm → Prop} {t : Tm} (h : D t) (ha : ∀ u ∈ t.args, AllT D u) : AllT D t := by
  cases t with
  | mk k n u b v l =>
    unfold AllT
    refine ⟨h, ?_⟩
    simp only [Tm.args] at ha
    clear h
    induction l with
    | nil => unfold AllR; trivial
    | cons x l ih => unfold AllR; exact ⟨ha x (by simp), ih fun y hy => ha y (by simp [hy])⟩
theorem Good.few {t : Tm} (h : Good t) : t.args.length ≤ 64 := by
  have hn := h.node
  unfold nodeErr at hn
  have hf : fieldsOk t = true := by
    cases e : fieldsOk t with
    | true => rfl
    | false => rw [e] at hn; simp at hn
  unfold fieldsOk at hf
  simp only [Bool.and_eq_true, decide_eq_true_eq] at hf
  have har := hf.2
  split at har
  · simp at har; omega
  · simp at har; simp [har]
theorem Good.copies : ∀ (d : Nat) (t : Tm), nodes t ≤ d → Good t → AllT CpOk t
  | 0, t, h, _ => by have := nodes_pos t; omega
  | d + 1, t, h, g => by
    have ok := g.ok
    refine AllT.of ⟨fun h1 => ⟨?_, ?_, ?_, ?_⟩, g.few⟩ fun u hu => Good.copies d u (by have := (g.arg u hu).2; omega) (g.arg u hu).1
    · rcases ok.name with h | h | h
      · omega
      · omega
      · exact h
    · exact ok.num.resolve_left (by omega)
    · exact ok.bits.resolve_left (by omega)
    · exact ok.args.resolve_left (by omega)
theorem Good.cp {t : Tm} (h : Good t) : AllT CpOk t := Good.copies (nodes t) t (Nat.le_refl _) h
end Go.Proofs.YtkapejcbmonfkaaGreatDoor

namespace Go.Proofs.YtkapejcbmonfkaaGreatDoor
open Go.RowKit

/-- Are two lists of trees the same? -/
def eqL (l m : List Tm) : Bool := decide (l.length = m.length) && sameL l m
theorem eqL_iff (l m : List Tm) : eqL l m = true ↔ l = m := by
  unfold eqL
  rw [Bool.and_eq_true, decide_eq_true_eq]
  constructor
  · rintro ⟨h1, h2⟩; exact (sameL_iff l m h1).1 h2
  · rintro rfl; exact ⟨rfl, (sameL_iff l l rfl).2 rfl⟩
/-- A list of trees lies from somewhere on. -/
def ListAt (w : World) (l : List Tm) (p : Option Addr) : Prop := l = [] ∨ ∃ b o, p = some ⟨b, o, none⟩ ∧ RowT w l b o
theorem ListAt.keep {w w' : World} {l : List Tm} {p : Option Addr} (h : ListAt w l p) (hb : Below w.heap.size w w') : ListAt w' l p := by
  rcases h with h | ⟨b, o, e, h⟩
  · exact .inl h
  · exact .inr ⟨b, o, e, RowT.keep hb h⟩
theorem ListAt.get {w : World} {l : List Tm} {p : Option Addr} (h : ListAt w l p) (k : Nat) (hk : k < l.length) : ∃ b o, p = some ⟨b, o, none⟩ ∧ ∃ q cap, Six w b (o + k * 6) l[k] q cap ∧ TmAt w l[k] q := by
  rcases h with rfl | ⟨b, o, e, h⟩
  · simp at hk
  · exact ⟨b, o, e, h.get k hk⟩
set_option maxRecDepth 100000 in
set_option maxHeartbeats 8000000 in
theorem sameList_any (l m : List Tm) (p q : Option Addr) (cp cq : Nat) (w : World) (hl : ListAt w l p) (hm : ListAt w m q) (hll : l.length ≤ maxLen) (hlm : m.length ≤ maxLen) :
    Calls Tryz.prog 39 #[.slice p l.length cp, .slice q m.length cq] w fun e w' => e = .returned (.bool (eqL l m)) ∧ Below w.heap.size w w' := by
  have HL := hid hl
  have HM := hid hm
  unfold maxLen at hll hlm
  obtain ⟨r, hr⟩ : ∃ r, r = eqL l m := ⟨_, rfl⟩
  rw [← hr]
  have HR := hid hr
  clear hr hl hm
  by_cases hn : l.length = m.length
  rotate_left
  · have hF := hid (show r = false by rw [HR.out]; unfold eqL; rw [decide_eq_false hn]; rfl)
    have hq : ((l.length : Int) == (m.length : Int)) = false := beq_eq_false_iff_ne.2 (by omega)
    have hq2 : ((l.length : Int) != (m.length : Int)) = true := by rw [bne, hq]; rfl
    clear HR hn
    go_enter Tryz.func39, Tryz.ntmps39
    go_wp2
    go_ret
    exact ⟨by rw [hF.out]; rfl, Below.refl _ _⟩
  have hR2 := hid (show r = sameL (l.drop 0) (m.drop 0) by rw [HR.out]; unfold eqL; rw [decide_eq_true hn]; rfl)
  have HN := hid hn
  have hq : ((l.length : Int) == (m.length : Int)) = true := by rw [hn]; simp
  have hq2 : ((l.length : Int) != (m.length : Int)) = false := by rw [hn]; simp
  clear HR hn
  go_enter Tryz.func39, Tryz.ntmps39
  rw [← HN.out]
  clear hq hq2
  go_wp2_with fail
  have R0 := hid (Below.refl w.heap.size w)
  go_loopw [5] (fun i wr => ∃ k : Nat, k ≤ l.length ∧ i = .int .i64 (k : Int) ∧ Hid (r = sameL (l.drop k) (m.drop k)) ∧ Hid (Below w.heap.size w wr)) (fun i _ => l.length - (intOf i).toNat)
  case atStart => exact ⟨0, by omega, rfl, hR2, R0⟩
  case round =>
    clear hR2 R0
    obtain ⟨k, hk, rfl, hr, hBr⟩ := hrel
    by_cases hlt : k < l.length
    · have hlt2 : k < m.length := by rw [← HN.out]; exact hlt
      have hk0 : (0 : Int) ≤ (k : Int) := by omega
      have hk1 : (k : Int) < (l.length : Int) := by omega
      obtain ⟨b, o, rfl, e1, c1, hs1, ht1⟩ := (HL.out.keep hBr.out).get k hlt
      obtain ⟨b2, o2, rfl, e2, c2, hs2, ht2⟩ := (HM.out.keep hBr.out).get k hlt2
      have HCALL := hid (fun (W : World) (h : Below wr.heap.size wr W) => same_any (nodes l[k]) l[k] m[k] e1 e2 c1 c2 W (Nat.le_refl _) (ht1.keep h) (ht2.keep h))
      have HRK := hid (hr.out.trans (sameL_drop l m k hlt hlt2))
      have RR := hid (Below.refl wr.heap.size wr)
      clear hr ht1 ht2
      generalize l[k] = t1 at *
      generalize m[k] = u1 at *
      generalize sameT t1 u1 = z at *
      have SR := hid (show ∀ W : World, Below wr.heap.size wr W → (W.cell? ⟨b, o + k * 6, none⟩ = some (.int .i64 t1.kind) ∧ W.cell? ⟨b, o + k * 6 + 1, none⟩ = some (.string t1.name) ∧ W.cell? ⟨b, o + k * 6 + 2, none⟩ = some (.string t1.num) ∧ W.cell? ⟨b, o + k * 6 + 3, none⟩ = some (.int .u64 t1.bits) ∧ W.cell? ⟨b, o + k * 6 + 4, none⟩ = some (.int .i64 t1.var) ∧ W.cell? ⟨b, o + k * 6 + 5, none⟩ = some (.slice e1 t1.args.length c1) ∧ W.cell? ⟨b2, o2 + k * 6, none⟩ = some (.int .i64 u1.kind) ∧ W.cell? ⟨b2, o2 + k * 6 + 1, none⟩ = some (.string u1.name) ∧ W.cell? ⟨b2, o2 + k * 6 + 2, none⟩ = some (.string u1.num) ∧ W.cell? ⟨b2, o2 + k * 6 + 3, none⟩ = some (.int .u64 u1.bits) ∧ W.cell? ⟨b2, o2 + k * 6 + 4, none⟩ = some (.int .i64 u1.var) ∧ W.cell? ⟨b2, o2 + k * 6 + 5, none⟩ = some (.slice e2 u1.args.length c2)) from fun W h =>
        have m1 := hs1.keep h
        have m2 := hs2.keep h
        ⟨m1.c0, m1.c1, m1.c2, m1.c3, m1.c4, m1.c5, m2.c0, m2.c1, m2.c2, m2.c3, m2.c4, m2.c5⟩)
      have sr := SR.out wr RR.out
      unfold Tm.val at HCALL
      clear hs1 hs2
      cases z
      · have HRN := hid (show r = false from HRK.out)
        clear HRK
        go_wp2_with fail
        go_region_held3 (fun W => W.cell? ⟨b, o + k * 6, none⟩ = some (.int .i64 t1.kind) ∧ W.cell? ⟨b, o + k * 6 + 1, none⟩ = some (.string t1.name) ∧ W.cell? ⟨b, o + k * 6 + 2, none⟩ = some (.string t1.num) ∧ W.cell? ⟨b, o + k * 6 + 3, none⟩ = some (.int .u64 t1.bits) ∧ W.cell? ⟨b, o + k * 6 + 4, none⟩ = some (.int .i64 t1.var) ∧ W.cell? ⟨b, o + k * 6 + 5, none⟩ = some (.slice e1 t1.args.length c1) ∧ W.cell? ⟨b2, o2 + k * 6, none⟩ = some (.int .i64 u1.kind) ∧ W.cell? ⟨b2, o2 + k * 6 + 1, none⟩ = some (.string u1.name) ∧ W.cell? ⟨b2, o2 + k * 6 + 2, none⟩ = some (.string u1.num) ∧ W.cell? ⟨b2, o2 + k * 6 + 3, none⟩ = some (.int .u64 u1.bits) ∧ W.cell? ⟨b2, o2 + k * 6 + 4, none⟩ = some (.int .i64 u1.var) ∧ W.cell? ⟨b2, o2 + k * 6 + 5, none⟩ = some (.slice e2 u1.args.length c2))
          (first
            | (with_reducible exact sr)
            | (with_reducible exact SR.out _ (bl_drew RR.out))
            | (with_reducible exact SR.out _ C2.out)
            | fail)
          ((first
            | (go_at_call 25; (with_reducible refine (HCALL.out _ (bl_drew RR.out)).mono ?_); rintro e w2 ⟨rfl, hb2⟩; have C2 := hid (bl_call (bl_drew RR.out) hb2); clear hb2)))
        go_wp2
        go_ret
        exact ⟨by rw [HRN.out]; rfl, bl_call hBr.out C2.out⟩
      · have HRN := hid (show r = sameL (l.drop (k + 1)) (m.drop (k + 1)) from HRK.out)
        clear HRK
        go_wp2_with fail
        go_region_held3 (fun W => W.cell? ⟨b, o + k * 6, none⟩ = some (.int .i64 t1.kind) ∧ W.cell? ⟨b, o + k * 6 + 1, none⟩ = some (.string t1.name) ∧ W.cell? ⟨b, o + k * 6 + 2, none⟩ = some (.string t1.num) ∧ W.cell? ⟨b, o + k * 6 + 3, none⟩ = some (.int .u64 t1.bits) ∧ W.cell? ⟨b, o + k * 6 + 4, none⟩ = some (.int .i64 t1.var) ∧ W.cell? ⟨b, o + k * 6 + 5, none⟩ = some (.slice e1 t1.args.length c1) ∧ W.cell? ⟨b2, o2 + k * 6, none⟩ = some (.int .i64 u1.kind) ∧ W.cell? ⟨b2, o2 + k * 6 + 1, none⟩ = some (.string u1.name) ∧ W.cell? ⟨b2, o2 + k * 6 + 2, none⟩ = some (.string u1.num) ∧ W.cell? ⟨b2, o2 + k * 6 + 3, none⟩ = some (.int .u64 u1.bits) ∧ W.cell? ⟨b2, o2 + k * 6 + 4, none⟩ = some (.int .i64 u1.var) ∧ W.cell? ⟨b2, o2 + k * 6 + 5, none⟩ = some (.slice e2 u1.args.length c2))
          (first
            | (with_reducible exact sr)
            | (with_reducible exact SR.out _ (bl_drew RR.out))
            | (with_reducible exact SR.out _ C2.out)
            | fail)
          ((first
            | (go_at_call 25; (with_reducible refine (HCALL.out _ (bl_drew RR.out)).mono ?_); rintro e w2 ⟨rfl, hb2⟩; have C2 := hid (bl_call (bl_drew RR.out) hb2); clear hb2)))
        go_wp2
        go_roundw
        case rel => exact ⟨k + 1, by omega, by go_num, HRN, hid (bl_call hBr.out C2.out)⟩
        case measure => simp [intOf]; omega
    · obtain rfl : k = l.length := by omega
      have HRN := hid (show r = true by rw [hr.out, List.drop_length]; simp [sameL])
      clear hr hlt
      go_wp2_with fail
      go_ret
      exact ⟨by rw [HRN.out]; rfl, hBr.out⟩
end Go.Proofs.YtkapejcbmonfkaaGreatDoor

namespace Go.Proofs.YtkapejcbmonfkaaGreatDoor
open Go.RowKit

set_option maxRecDepth 100000 in
set_option maxHeartbeats 2000000 in
theorem isCompound_any (t : Tm) (p : Option Addr) (cap : Nat) (s : ByteArray) (n : Int) (w : World) (hl : t.args.length ≤ maxLen) :
    Calls Tryz.prog 74 #[t.val p cap, .string s, .int .i64 n] w fun e w' => e = .returned (.bool ((t.kind == 5) && (t.name.toList == s.toList) && ((t.args.length : Int) == n))) ∧ Below w.heap.size w w' := by
  have hB := hid (show Below w.heap.size w (w.alloc (tobj t p cap)) from (Below.refl w.heap.size w).alloc (Nat.le_refl _) (tobj t p cap))
  unfold tobj at hB
  unfold Tm.val
  unfold maxLen at hl
  obtain ⟨r, hr⟩ : ∃ r, r = ((t.kind == 5) && (t.name.toList == s.toList) && ((t.args.length : Int) == n)) := ⟨_, rfl⟩
  rw [← hr]
  have HR := hid hr
  clear hr
  by_cases h1 : t.kind = 5
  · rw [h1] at hB HR ⊢
    by_cases h2 : t.name = s
    · subst h2
      by_cases h3 : (t.args.length : Int) = n
      · have HF := hid (show r = true by rw [HR.out, h3]; simp)
        subst h3
        clear HR h1
        go_enter Tryz.func74, Tryz.ntmps74
        go_wp2
        go_ret
        exact ⟨by rw [HF.out]; rfl, hB.out⟩
      · have hc : ((t.args.length : Int) == n) = false := beq_eq_false_iff_ne.2 h3
        have HF := hid (show r = false by rw [HR.out, hc]; simp)
        clear HR h1 h3
        go_enter Tryz.func74, Tryz.ntmps74
        go_wp2
        go_ret
        exact ⟨by rw [HF.out]; rfl, hB.out⟩
    · have hb : (t.name.toList == s.toList) = false := (names_eq _ _).trans (decide_eq_false h2)
      have HF := hid (show r = false by rw [HR.out, hb]; simp)
      clear HR h1 h2
      go_enter Tryz.func74, Tryz.ntmps74
      go_wp2
      go_ret
      exact ⟨by rw [HF.out]; rfl, hB.out⟩
  · have ha : (t.kind == 5) = false := beq_eq_false_iff_ne.2 h1
    have HF := hid (show r = false by rw [HR.out, ha]; rfl)
    clear HR h1
    go_enter Tryz.func74, Tryz.ntmps74
    go_wp2
    go_ret
    exact ⟨by rw [HF.out]; rfl, hB.out⟩
end Go.Proofs.YtkapejcbmonfkaaGreatDoor

namespace Go.Proofs.YtkapejcbmonfkaaGreatDoor
open Go.RowKit

/-- A term's cells. -/
def cellsA (t : Tm) (q : Option Addr) (c : Nat) : Array Value := #[.int .i64 t.kind, .string t.name, .string t.num, .int .u64 t.bits, .int .i64 t.var, .slice q t.args.length c]
/-- What stands ahead of an append of one term: the list, the term, and the block of its cells, made just now. -/
structure AppT (W3 W : World) (B : Nat) (q : Option Addr) (k c : Nat) (L : Row) (S : List Nat) (t : Tm) (q2 : Option Addr) (c2 : Nat) (S1 : List Nat) : Prop where
  world : W = W3.alloc (.cells (cellsA t q2 c2) 25)
  list : MineL W3 B q k c L S
  term : MineT W3 t q2 c2 S1
  few : k ≤ 4000
  base : B ≤ W3.heap.size
  apart : ∀ x ∈ S, x ∉ S1
  own : ∀ x, (Value.slice q k c).ownBlock = some x → x ∉ S1
  low : ∀ x ∈ S1, B ≤ x
/-- What stands behind it. -/
structure AppD (W3 w5 : World) (B g k c' : Nat) (L : Row) (S : List Nat) (t : Tm) (q2 : Option Addr) (c2 : Nat) (S1 : List Nat) : Prop where
  list : MineL w5 B (some ⟨g, 0, none⟩) (k + 1) c' (L ++ [(t, q2, c2)]) (S ++ S1)
  below : Below B W3 w5
theorem AppT.done {W3 W w5 : World} {B : Nat} {q : Option Addr} {k c g c' : Nat} {L : Row} {S : List Nat} {t : Tm} {q2 : Option Addr} {c2 : Nat} {S1 : List Nat} (h : AppT W3 W B q k c L S t q2 c2 S1)
    (hown : w5.ownsRow B 25 6 (.slice (some ⟨g, 0, none⟩) (k + 1) c') (k + 1) (flat L ++ cellsT (t, q2, c2))) (hgrow : W.grownBy w5 (Value.slice q k c).ownBlock) (hat : (Value.slice q k c).ownBlock = some g ∨ g = W.heap.size) : AppD W3 w5 B g k c' L S t q2 c2 S1 := by
  have hB := h.base
  have hA : Below W3.heap.size W3 W := by rw [h.world]; exact (Below.refl _ _).alloc (Nat.le_refl _) _
  have hz : W.heap.size = W3.heap.size + 1 := by rw [h.world]; simp
  have hl := h.list.same (w' := W) fun x _ hx => hA.block x hx
  have ht := h.term.same (w' := W) fun x hx => hA.block x (h.term.lt x hx)
  refine ⟨hl.snoc (x := (t, q2, c2)) ht h.apart h.own h.low hown hgrow (hat.imp id fun h => by omega), ?_⟩
  exact (hA.mono hB).grown hgrow (by omega) fun x e => ownBlock_le hl.row e
theorem AppT.run {W3 W : World} {B : Nat} {q : Option Addr} {k c : Nat} {L : Row} {S : List Nat} {t : Tm} {q2 : Option Addr} {c2 : Nat} {S1 : List Nat} (h : AppT W3 W B q k c L S t q2 c2 S1) (ty : TypeId) :
    ∃ g c' w5, (Builtin.append_ #[23, 23] ty #[.slice q k c, .slice (some ⟨W3.heap.size, 0, none⟩) 1 1]).run Tryz.prog W = .ok (.slice (some ⟨g, 0, none⟩) (k + 1) c') w5 ∧ AppD W3 w5 B g k c' L S t q2 c2 S1 := by
  obtain ⟨i0, hi, hz0, hz1, hz2⟩ := info_parts infoTerm
  have hf := h.few
  have hA : Below W3.heap.size W3 W := by rw [h.world]; exact (Below.refl _ _).alloc (Nat.le_refl _) _
  have hz : W.heap.size = W3.heap.size + 1 := by rw [h.world]; simp
  have hl := h.list.same (w' := W) fun x _ hx => hA.block x hx
  have hn : W.heap[W3.heap.size]? = some (.cells (cellsA t q2 c2) 25 (0, 0)) := by rw [h.world]; exact World.alloc_heap_new W3 _
  have hb := h.base
  obtain ⟨g, c', w5, hr, h2, h3, h4, _⟩ := run_append_lies (P := Tryz.prog) W 23 ty B 25 i0 (.agg #[.int .i64 0, .string ⟨#[]⟩, .string ⟨#[]⟩, .int .u64 0, .int .i64 0, .slice none 0 0]) 6 80 Tryz.underlying23 hi hz0 hz1 hz2 rfl (by decide) (.slice q k c) k (flat L) hl.row ⟨W3.heap.size, 0, none⟩ 1 1 (cellsT (t, q2, c2)) rfl (World.news_of_block hn) (cellsT_one _) (by decide) (by unfold maxLen; omega) (by omega) (by omega) W.heap.size rfl
  exact ⟨g, c', w5, hr, h.done h2 h3 h4⟩
/-- At the list of a plain region's operations. -/
theorem wpList_appT (W : World) {ops : Array Oper} {rest : List Oper} {o : Oper} {a : Act} {Q : Exit → Act → World → Prop} (hgd : o.guard = none) (s x : Operand)
    (ho : o.op = .call { callee := .builtin .append, args := #[s, x], argTypes := #[23, 23] })
    (h : ∃ (W3 : World) (B : Nat) (q : Option Addr) (k c : Nat) (L : Row) (S : List Nat) (t : Tm) (q2 : Option Addr) (c2 : Nat) (S1 : List Nat), a.eval s = .slice q k c ∧ a.eval x = .slice (some ⟨W3.heap.size, 0, none⟩) 1 1 ∧ AppT W3 W B q k c L S t q2 c2 S1 ∧
      ∀ g c' w5, AppD W3 w5 B g k c' L S t q2 c2 S1 → wpList Tryz.prog ops Q rest (a.put o.dst (.slice (some ⟨g, 0, none⟩) (k + 1) c')) w5) : wpList Tryz.prog ops Q (o :: rest) a W := by
  obtain ⟨W3, B, q, k, c, L, S, t, q2, c2, S1, hs, hx, hA, hk⟩ := h
  refine wpList_plain hgd fun K hK => ?_
  obtain ⟨g, c', w5, hr, hd⟩ := hA.run o.type
  unfold Oper.wp execOp
  simp only [ho, resolve, invoke, builtin, Sem.run_bind, Sem.run_pure, Result.andThen_ok, List.map_toArray, List.map_cons, List.map_nil, hs, hx, hr]
  exact hK _ _ (hk g c' w5 hd)
end Go.Proofs.YtkapejcbmonfkaaGreatDoor

namespace Go.Proofs.YtkapejcbmonfkaaGreatDoor
open Go.RowKit

/-- Nothing but some blocks has been written over. -/
structure Chg (S : List Nat) (w w' : World) : Prop where
  os : w'.os = w.os
  tape : w'.tape = w.tape
  output : w'.output = w.output
  size : w.heap.size ≤ w'.heap.size
  same : ∀ x, x < w.heap.size → x ∉ S → w'.heap[x]? = w.heap[x]?
theorem Chg.refl (S : List Nat) (w : World) : Chg S w w := ⟨rfl, rfl, rfl, Nat.le_refl _, fun _ _ _ => rfl⟩
theorem Chg.trans {S : List Nat} {A B C : World} (h : Chg S A B) (k : Chg S B C) : Chg S A C :=
  ⟨k.os.trans h.os, k.tape.trans h.tape, k.output.trans h.output, Nat.le_trans h.size k.size, fun x hx hn => (k.same x (Nat.lt_of_lt_of_le hx h.size) hn).trans (h.same x hx hn)⟩
theorem Chg.mono {S S' : List Nat} {w w' : World} (h : Chg S w w') (hs : ∀ x ∈ S, x ∈ S') : Chg S' w w' := ⟨h.os, h.tape, h.output, h.size, fun x hx hn => h.same x hx fun k => hn (hs x k)⟩
theorem Chg.of_below {S : List Nat} {w w' : World} (h : Below w.heap.size w w') : Chg S w w' := ⟨h.os, h.tape, h.output, h.size, fun x hx _ => h.block x hx⟩
theorem Chg.of_grown {S : List Nat} {w w' : World} {row : Option Nat} (h : w.grownBy w' row) (hr : ∀ x, row = some x → x ∈ S) : Chg S w w' := ⟨h.os, h.tape, h.output, h.size, fun x hx hn => h.block x hx fun e => hn (hr x e.symm)⟩
/-- A store into a block of one's own, or made since. -/
theorem Chg.set {S : List Nat} {w w' : World} (h : Chg S w w') (a : Addr) (v : Value) (ha : w.heap.size ≤ a.block ∨ a.block ∈ S) : Chg S w (w'.setCell a v) :=
  ⟨h.os, h.tape, h.output, by have := h.size; simpa using this, fun x hx hn => (Below.heap_setCell w' a v x (fun e => ha.elim (fun h => by omega) (fun h => hn (by rw [e]; exact h)))).trans (h.same x hx hn)⟩
theorem MineT.parts {w : World} {t : Tm} {p : Option Addr} {cap : Nat} {S : List Nat} (h : MineT w t p cap S) : t.args.length ≤ 4000 ∧ ((t.args = [] ∧ p = none ∧ cap = 0 ∧ S = []) ∨ ∃ b arr S', p = some ⟨b, 0, none⟩ ∧ S = b :: S' ∧ w.heap[b]? = some (.cells arr 25 (0, 0)) ∧ arr.size = cap * 6 ∧ (t.args.length ≤ cap ∧ cap ≤ maxLen) ∧ b ∉ S' ∧ MineR w t.args b 0 S') := by
  cases t; unfold MineT at h; exact h
theorem MineR.head {w : World} {l : List Tm} {b o : Nat} {S : List Nat} (k : Nat) (hk : k < l.length) (h : MineR w (l.drop k) b o S) : ∃ p cap S1 S2, S = S1 ++ S2 ∧ (∀ x ∈ S1, x ∉ S2) ∧ Six w b o l[k] p cap ∧ MineT w l[k] p cap S1 ∧ MineR w (l.drop (k + 1)) b (o + 6) S2 := by
  rw [List.drop_eq_getElem_cons hk] at h
  unfold MineR at h
  exact h
/-- append of some to a row whose block one owns, whatever it holds. -/
theorem wpList_app_row (W : World) {ops : Array Oper} {rest : List Oper} {o : Oper} {a : Act} {Q : Exit → Act → World → Prop} (hgd : o.guard = none) (s x : Operand)
    (ho : o.op = .call { callee := .builtin .append, args := #[s, x], argTypes := #[23, 23] })
    (h : ∃ (q : Option Addr) (n c : Nat) (b m : Nat) (cs : Array Value), a.eval s = .slice q n c ∧ a.eval x = .slice (some ⟨b, 0, none⟩) m m ∧ W.heap[b]? = some (.cells cs 25 (0, 0)) ∧ cs.size = m * 6 ∧ (∀ u ∈ cs.toList, u.oneCell' = true) ∧ 0 < m ∧ n + m ≤ 5000 ∧
      ((q = none ∧ n = 0 ∧ c = 0) ∨ ∃ g arr, q = some ⟨g, 0, none⟩ ∧ W.heap[g]? = some (.cells arr 25 (0, 0)) ∧ arr.size = c * 6 ∧ n ≤ c ∧ c ≤ maxLen) ∧
      ∀ g c' w5 arr', W.grownBy w5 (Value.slice q n c).ownBlock → ((Value.slice q n c).ownBlock = some g ∨ g = W.heap.size) → w5.heap[g]? = some (.cells arr' 25 (0, 0)) → arr'.size = c' * 6 → n + m ≤ c' → c' ≤ maxLen → wpList Tryz.prog ops Q rest (a.put o.dst (.slice (some ⟨g, 0, none⟩) (n + m) c')) w5) : wpList Tryz.prog ops Q (o :: rest) a W := by
  obtain ⟨q, n, c, b, m, cs, hs, hx, hb, hcs, h1, hm, hnm, hq, hk⟩ := h
  obtain ⟨i0, hi, hz0, hz1, hz2⟩ := info_parts infoTerm
  have hown : ∃ xs, W.ownsRow 0 25 6 (.slice q n c) n xs := by
    rcases hq with ⟨rfl, rfl, rfl⟩ | ⟨g, arr, rfl, hg, ha, hn, hc⟩
    · exact ⟨[], World.ownsRow_nil _ _ _ _⟩
    · exact ⟨arr.toList.take (n * 6), by simp; omega, .inr ⟨g, c, arr, rfl, Nat.zero_le _, hg, hn, hc, ha, rfl⟩⟩
  obtain ⟨xs, hown⟩ := hown
  obtain ⟨g, c', w5, hr, h2, h3, h4, _⟩ := run_append_lies (P := Tryz.prog) W 23 o.type 0 25 i0 (.agg #[.int .i64 0, .string ⟨#[]⟩, .string ⟨#[]⟩, .int .u64 0, .int .i64 0, .slice none 0 0]) 6 80 Tryz.underlying23 hi hz0 hz1 hz2 rfl (by decide) (.slice q n c) n xs hown ⟨b, 0, none⟩ m m cs.toList (by simpa using hcs) (World.news_of_block hb) h1 hm (by unfold maxLen; omega) (by omega) (Nat.zero_le _) W.heap.size rfl
  refine wpList_plain hgd fun K hK => ?_
  unfold Oper.wp execOp
  simp only [ho, resolve, invoke, builtin, Sem.run_bind, Sem.run_pure, Result.andThen_ok, List.map_toArray, List.map_cons, List.map_nil, hs, hx, hr]
  rcases h2.2 with ⟨e, _⟩ | ⟨g', cap', cur, e, _, hg, hnc, hcm, hcu, _⟩
  · simp at e
  · simp only [Value.slice.injEq, Option.some.injEq, Addr.mk.injEq, and_true, true_and] at e
    obtain ⟨rfl, rfl⟩ := e
    exact hK _ _ (hk g c' w5 cur h3 h4 hg hcu hnc hcm)
set_option maxRecDepth 100000 in
set_option maxHeartbeats 8000000 in
theorem marked_any (d : Nat) : ∀ (t : Tm) (q : Option Addr) (c : Nat) (S : List Nat) (m : ByteArray) (w : World), nodes t ≤ d → MineT w t q c S →
    Calls Tryz.prog 26 #[t.val q c, .string m] w fun e w' => (∃ v, e = .returned v) ∧ Chg S w w' := by
  induction d with
  | zero => intro t q c S m w h; have := nodes_pos t; omega
  | succ d ih =>
    intro t q c S m w hd hT
    have IH := hid ih
    have hSw := hid hT.lt
    have hB := hid (show Below w.heap.size w (w.alloc (tobj t q c)) from (Below.refl w.heap.size w).alloc (Nat.le_refl _) _)
    have P0 := hid (heap_alloc_new w (tobj t q c))
    obtain ⟨h4, hp⟩ := hT.parts
    have hlt : (t.args.length : Int) ≤ 4000 := by omega
    unfold Tm.val
    clear ih hT
    rcases hp with ⟨ha, rfl, rfl, rfl⟩ | ⟨b, arr, S', rfl, rfl, hb, hcs, hcap, hbS, hR⟩
    · have hz : t.args.length = 0 := by rw [ha]; rfl
      rw [hz]
      have HZ := hid hz
      obtain ⟨W0, hW0⟩ : ∃ W0, W0 = w.alloc (.cells #[.int .i64 t.kind, .string t.name, .string t.num, .int .u64 t.bits, .int .i64 t.var, .slice none 0 0] 25) := ⟨_, rfl⟩
      have HB0 := hid (show Below w.heap.size w W0 by rw [hW0]; exact (Below.refl w.heap.size w).alloc (Nat.le_refl _) _)
      have HP0 := hid (show W0.heap[w.heap.size]? = some (.cells #[.int .i64 t.kind, .string t.name, .string t.num, .int .u64 t.bits, .int .i64 t.var, .slice none 0 0] 25 (0, 0)) by rw [hW0]; exact heap_alloc_new w _)
      have HS0 := hid (show W0.heap.size = w.heap.size + 1 by rw [hW0]; simp)
      clear hz ha IH P0 hB hSw h4 hlt
      go_enter Tryz.func26, Tryz.ntmps26
      go_wp2_with fail
      refine wp_loop_rounds 1 ?_
      rw [rounds_succ]
      go_wp2_with (at_builtin; refine wpList_app_row _ rfl _ _ rfl ?_; rw [← hW0]; refine ⟨none, 0, 0, W0.heap.size, 2, #[.int .i64 0, .string m, .string ⟨#[]⟩, .int .u64 0, .int .i64 0, .slice none 0 0, .int .i64 0, .string m, .string ⟨#[]⟩, .int .u64 0, .int .i64 0, .slice none 0 0], rfl, by rw [HS0.out]; rfl, World.alloc_heap_new W0 _, rfl, by intro u hu; simp at hu; rcases hu with rfl | rfl | rfl | rfl | rfl | rfl | rfl | rfl | rfl | rfl | rfl | rfl <;> rfl, by decide, by decide, .inl ⟨rfl, rfl, rfl⟩, ?_⟩; intro g c' w5 arr' hgrow hat hg ha hn hc; have B5 := hid (show Chg [] w w5 from (Chg.of_below (HB0.out.alloc (by have := HS0.out; omega) _)).trans (Chg.of_grown hgrow (by intro x e; simp [Value.ownBlock] at e))); have R5 := hid (show w5.heap[w.heap.size]? = _ from (hgrow.block w.heap.size (by have := HS0.out; simp; omega) (by simp [Value.ownBlock])).trans ((heap_alloc_old W0 _ (by have := HS0.out; omega)).trans HP0.out)); clear hgrow hat hg ha hn hc; obtain ⟨⟨z0, z1, z2, z3, z4, z5⟩, ⟨f0, f1, f2, f3, f4, f5⟩⟩ := six_free R5.out)
      go_end0
      exact ⟨⟨_, rfl⟩, B5.out.set _ _ (.inl (Nat.le_refl _))⟩
    · obtain ⟨W0, hW0⟩ : ∃ W0, W0 = w.alloc (.cells #[.int .i64 t.kind, .string t.name, .string t.num, .int .u64 t.bits, .int .i64 t.var, .slice (some ⟨b, 0, none⟩) t.args.length c] 25) := ⟨_, rfl⟩
      have HB0 := hid (show Below w.heap.size w W0 by rw [hW0]; exact (Below.refl w.heap.size w).alloc (Nat.le_refl _) _)
      have HP0 := hid (show W0.heap[w.heap.size]? = some (tobj t (some ⟨b, 0, none⟩) c) by rw [hW0]; exact heap_alloc_new w _)
      have hbw : b < w.heap.size := hSw.out b (by simp)
      have HPB := hid ((HB0.out.block b hbw).trans hb)
      have HSB := hid hcs
      have HRR := hid (show MineR W0 (t.args.drop 0) b 0 S' from hR.same (HB0.out.block b hbw) fun x hx => HB0.out.block x (hSw.out x (by simp [hx])))
      have HC0 := hid (show Chg (b :: S') w W0 from Chg.of_below HB0.out)
      have hbn := hid hbS
      have HCAP := hid hcap
      clear hb hcs hcap hbS hR hB P0 h4
      go_enter Tryz.func26, Tryz.ntmps26
      go_wp2_with fail
      rw [← hW0]
      clear hW0
      go_loopw [4] (fun i wr => ∃ (k : Nat) (arr : Array Value) (S2 : List Nat), k ≤ t.args.length ∧ i = .int .i64 (k : Int) ∧ Hid (wr.heap[w.heap.size]? = some (tobj t (some ⟨b, 0, none⟩) c)) ∧ Hid (wr.heap[b]? = some (.cells arr 25 (0, 0))) ∧ Hid (arr.size = c * 6) ∧ Hid (MineR wr (t.args.drop k) b (k * 6) S2) ∧ Hid (∀ x ∈ S2, x ∈ S') ∧ Hid (Chg (b :: S') w wr)) (fun i _ => t.args.length - (intOf i).toNat)
      case atStart => exact ⟨0, arr, S', by omega, rfl, HP0, HPB, HSB, hid (by rw [Nat.zero_mul]; exact HRR.out), hid (fun x hx => hx), HC0⟩
      case round =>
        clear HP0 HPB HSB HRR HC0
        obtain ⟨k, arr, S2, hk, rfl, P0, PB, HSZ, HR, HSS, HCG⟩ := hrel
        obtain ⟨x0, x1, x2, x3, x4, x5⟩ := six_of P0.out
        by_cases hlk : k < t.args.length
        · have hk0 : (0 : Int) ≤ (k : Int) := by omega
          have hk1 : (k : Int) < (t.args.length : Int) := by omega
          obtain ⟨p1, c1, SA, SB, rfl, hd, hs1, hm1, hr1⟩ := MineR.head k hlk HR.out
          have HCALL := hid (IH.out t.args[k] p1 c1 SA m wr (by have := nodes_lt hlk; omega) hm1)
          have HD := hid hd
          have HR1 := hid hr1
          have HLT := hid (And.intro hm1.lt hr1.lt)
          clear hd hr1 hm1
          generalize t.args[k] = t1 at *
          unfold Tm.val at HCALL
          obtain ⟨g0, g1, g2, g3, g4, g5⟩ := hs1
          go_wp2_with (first
            | (go_at_call 26; (with_reducible refine HCALL.out.mono ?_); rintro e w2 ⟨⟨v, rfl⟩, hc2⟩; have C2 := hid hc2; have hbA : b ∉ SA := fun h => hbn.out (HSS.out b (by simp [h])); have hwA : w.heap.size ∉ SA := fun h => (by have := hSw.out _ (List.mem_cons_of_mem _ (HSS.out w.heap.size (by simp [h]))); omega); have Q0 := hid ((hc2.same _ (lt_of_block P0.out) hwA).trans P0.out); have QB := hid ((hc2.same _ (lt_of_block PB.out) hbA).trans PB.out); clear hc2 x0 x1 x2 x3 x4 x5 g0 g1 g2 g3 g4 g5; have x5 := (six_of Q0.out).c5; have ha6 : k * 6 + 6 ≤ arr.size := (by have := HSZ.out; have := HCAP.out.1; omega); have f2 : ∀ j, w2.frozen? ⟨b, j, none⟩ = false := fun j => (by simp [World.frozen?, QB.out]); have g2 : ∀ j, j < 6 → ∃ v, w2.cell? ⟨b, k * 6 + j, none⟩ = some v := fun j hj => ⟨arr[k * 6 + j], by rw [cells_of QB.out]; exact Array.getElem?_eq_getElem (by omega)⟩; obtain ⟨v0, y0'⟩ := g2 0 (by omega); have y0 : w2.cell? ⟨b, k * 6, none⟩ = some v0 := y0'; obtain ⟨v1, y1⟩ := g2 1 (by omega); obtain ⟨v2, y2⟩ := g2 2 (by omega); obtain ⟨v3, y3⟩ := g2 3 (by omega); obtain ⟨v4, y4⟩ := g2 4 (by omega); obtain ⟨v5, y5⟩ := g2 5 (by omega); have r0 := f2 (k * 6); have r1 := f2 (k * 6 + 1); have r2 := f2 (k * 6 + 2); have r3 := f2 (k * 6 + 3); have r4 := f2 (k * 6 + 4); have r5 := f2 (k * 6 + 5); have HA6 := hid ha6; clear f2 g2 y0' ha6)
            | fail)
          go_roundw
          case rel =>
            obtain ⟨W9, h9⟩ : ∃ W9, W9 = (((((w2.setCell ⟨b, k * 6, none⟩ (.int .i64 2)).setCell ⟨b, k * 6 + 1, none⟩ (.string m)).setCell ⟨b, k * 6 + 2, none⟩ (.string ⟨#[]⟩)).setCell ⟨b, k * 6 + 3, none⟩ (.int .u64 0)).setCell ⟨b, k * 6 + 4, none⟩ (.int .i64 0)).setCell ⟨b, k * 6 + 5, none⟩ (.slice none 0 0) := ⟨_, rfl⟩
            rw [← h9]
            obtain ⟨gr9, arr', e9, es, eo, -⟩ := put6 QB.out HA6.out _ _ _ _ _ _ W9 h9
            have hbB : b ∉ SB := fun h => hbn.out (HSS.out b (by simp [h]))
            have hold : ∀ x, x < w2.heap.size → x ≠ b → W9.heap[x]? = w2.heap[x]? := fun x hx hne => gr9.block x hx (fun e => hne (Option.some.inj e))
            refine ⟨k + 1, arr', SB, by omega, by go_num, hid ((hold _ (lt_of_block Q0.out) (by omega)).trans Q0.out), hid e9, hid (es.trans HSZ.out), hid ?_, hid (fun x hx => HSS.out x (by simp [hx])), hid ?_⟩
            · refine HR1.out.cells (fun j hj => ?_) fun x hx => ?_
              · rw [cells_of e9, eo _ (by omega), ← cells_of QB.out, show (k + 1) * 6 + j = k * 6 + 6 + j by omega]
                exact World.cell?_of_block (a := ⟨b, k * 6 + 6 + j, none⟩) (C2.out.same b (lt_of_block PB.out) (fun h => hbn.out (HSS.out b (by simp [h]))))
              · have hl := HLT.out.2 x hx
                exact (hold x (Nat.lt_of_lt_of_le hl C2.out.size) (fun e => hbB (e ▸ hx))).trans (C2.out.same x hl fun h => HD.out x h hx)
            · exact HCG.out.trans ((C2.out.mono fun x hx => List.mem_cons_of_mem _ (HSS.out x (by simp [hx]))).trans (Chg.of_grown gr9 (by intro x e; cases e; simp)))
          case measure => simp [intOf]; omega
        · obtain rfl : k = t.args.length := by omega
          have hbz := lt_of_block PB.out
          have hwz := lt_of_block P0.out
          go_wp2_with (at_builtin; refine wpList_app_row _ rfl _ _ rfl ?_; refine ⟨some ⟨b, 0, none⟩, t.args.length, c, wr.heap.size, 2, #[.int .i64 0, .string m, .string ⟨#[]⟩, .int .u64 0, .int .i64 0, .slice none 0 0, .int .i64 0, .string m, .string ⟨#[]⟩, .int .u64 0, .int .i64 0, .slice none 0 0], rfl, rfl, World.alloc_heap_new wr _, rfl, by intro u hu; simp at hu; rcases hu with rfl | rfl | rfl | rfl | rfl | rfl | rfl | rfl | rfl | rfl | rfl | rfl <;> rfl, by decide, by omega, .inr ⟨b, arr, rfl, (heap_alloc_old wr _ hbz).trans PB.out, HSZ.out, HCAP.out.1, HCAP.out.2⟩, ?_⟩; intro g c' w5 arr' hgrow hat hg ha hn hc; have B5 := hid (show Chg (b :: S') w w5 from HCG.out.trans ((Chg.of_below ((Below.refl _ _).alloc (Nat.le_refl _) _)).trans (Chg.of_grown hgrow (by intro x e; have : b = x := (by simpa [Value.ownBlock] using e); subst this; simp)))); have R5 := hid (show w5.heap[w.heap.size]? = _ from (hgrow.block w.heap.size (by rw [World.size_alloc]; omega) (fun e => by have : w.heap.size = b := (by simpa [Value.ownBlock] using e); omega)).trans ((heap_alloc_old wr _ hwz).trans P0.out)); clear hgrow hat hg ha hn hc x0 x1 x2 x3 x4 x5; obtain ⟨⟨z0, z1, z2, z3, z4, z5⟩, ⟨f0, f1, f2, f3, f4, f5⟩⟩ := six_free (show w5.heap[w.heap.size]? = some (.cells #[.int .i64 t.kind, .string t.name, .string t.num, .int .u64 t.bits, .int .i64 t.var, .slice (some ⟨b, 0, none⟩) t.args.length c] 25 (0, 0)) from R5.out))
          go_end0
          exact ⟨⟨_, rfl⟩, B5.out.set _ _ (.inl (Nat.le_refl _))⟩
end Go.Proofs.YtkapejcbmonfkaaGreatDoor

namespace Go.Proofs.YtkapejcbmonfkaaGreatDoor
open Go.RowKit

theorem MineL.tree2 {w : World} {B : Nat} {q : Option Addr} {n c : Nat} {L : Row} {S : List Nat} (h : MineL w B q n c L S) (t : Tm) (ha : L.map (·.1) = t.args) (hl : n ≤ 4000) : ∃ S', MineT w t q c S' ∧ ∀ k ∈ S', k ∈ S ∨ q = some ⟨k, 0, none⟩ := by
  have hn := h.length
  cases t with
  | mk k s u b v l =>
    simp only [Tm.args] at ha
    subst ha
    rcases h.rowR with ⟨rfl, rfl, rfl, rfl, -⟩ | ⟨b', arr, rfl, h1, h2, h3, h4, h5, h6⟩
    · exact ⟨[], by unfold MineT; exact ⟨by simp, .inl ⟨rfl, rfl, rfl, rfl⟩⟩, fun k hk => by cases hk⟩
    · refine ⟨b' :: S, ?_, fun k hk => ?_⟩
      · unfold MineT
        exact ⟨by simp; omega, .inr ⟨b', arr, S, rfl, rfl, h3, h4, ⟨by simp; omega, h5.2⟩, h2, h6⟩⟩
      · rcases List.mem_cons.1 hk with rfl | hk
        · exact .inr rfl
        · exact .inl hk
set_option maxRecDepth 100000 in
set_option maxHeartbeats 4000000 in
theorem makeFM (s : ByteArray) (v : Value) (base : Nat) (L : Row) (S : List Nat) (w : World) (hl : 0 < L.length) (hv : w.ownsRow base 25 6 v L.length (flat L)) (hS : MineS w L S) (hmax : L.length ≤ 4000) :
    Calls Tryz.prog 41 #[.string s, v] w fun e w' => ∃ p cap S', e = .returned ((Tm.mk 5 s ⟨#[]⟩ 0 0 (L.map (·.1))).val p cap) ∧ MineT w' (Tm.mk 5 s ⟨#[]⟩ 0 0 (L.map (·.1))) p cap S' ∧ (∀ k ∈ S', k ∈ S ∨ w.heap.size ≤ k) ∧ Below w.heap.size w w' := by
  obtain ⟨W0, hW0⟩ : ∃ W0, W0 = (w.alloc (tobj (leaf 0 ⟨#[]⟩ ⟨#[]⟩ 0) none 0)).alloc (.cells #[] 25) := ⟨_, rfl⟩
  have hB := hid (show Below w.heap.size w W0 by rw [hW0]; exact ((Below.refl _ _).alloc (Nat.le_refl _) _).alloc (by simp) _)
  have HG := hid (show W0.heap[w.heap.size + 1]? = some (.cells #[] 25 (0, 0)) by rw [hW0]; have h := heap_alloc_new (w.alloc (tobj (leaf 0 ⟨#[]⟩ ⟨#[]⟩ 0) none 0)) (.cells #[] 25); rwa [World.size_alloc] at h)
  have HR := hid (show W0.heap[w.heap.size]? = some (.cells #[.int .i64 0, .string ⟨#[]⟩, .string ⟨#[]⟩, .int .u64 0, .int .i64 0, .slice none 0 0] 25 (0, 0)) by rw [hW0]; exact (heap_alloc_old (w.alloc (tobj (leaf 0 ⟨#[]⟩ ⟨#[]⟩ 0) none 0)) _ (by simp)).trans (heap_alloc_new w _))
  have HV := hid (row6_keep hv hB.out)
  have HS := hid hS
  unfold tobj leaf at hW0
  simp only [Tm.kind, Tm.name, Tm.num, Tm.bits, Tm.var, Tm.args, List.length_nil] at hW0
  clear hv hS
  go_enter Tryz.func41, Tryz.ntmps41
  go_wp2_with (at_builtin; rw [← hW0]; refine wpList_copy_row _ rfl _ _ rfl (w.heap.size + 1) rfl HG.out _ _ L hl rfl HV.out (by unfold maxLen; omega) (by omega) ?_; intro g' cap' w1 hown hg; have HO := hid hown; have G1 := hid hg; have R1 := hid (show w1.heap[w.heap.size]? = _ from (hg.block _ (lt_of_block HR.out) (by simp)).trans HR.out); obtain ⟨⟨z0, z1, z2, z3, z4, z5⟩, ⟨f0, f1, f2, f3, f4, f5⟩⟩ := six_free R1.out; clear hown hg)
  have hb1 : Below w.heap.size w w1 := hB.out.grown G1.out (by have := hB.out.size; omega) (fun q e => by cases e; omega)
  have e1 : (L.map (·.1)).length = L.length := List.length_map _
  have hg := set6_grown w1 w.heap.size (.int .i64 5) (.string s) (.string ⟨#[]⟩) (.int .u64 0) (.int .i64 0) (.slice (some ⟨g', 0, none⟩) L.length cap')
  have hg' : w.heap.size + 1 ≤ g' := (HO.out.lt g' rfl).1
  have ho := HO.out.kept hg (.inr (fun e => by have e2 : g' = w.heap.size := Option.some.inj e; omega))
  have hb9 := set6_below hb1 (Nat.le_refl _) (.int .i64 5) (.string s) (.string ⟨#[]⟩) (.int .u64 0) (.int .i64 0) (.slice (some ⟨g', 0, none⟩) L.length cap')
  have hML : MineL _ 0 (some ⟨g', 0, none⟩) L.length cap' L S := ⟨⟨ho.1, by
    rcases ho.2 with h | ⟨g, cap, cur, e, h1, h2⟩
    · exact .inl h
    · exact .inr ⟨g, cap, cur, e, Nat.zero_le _, h2⟩⟩, HS.out.same fun k hk => hb9.block k (HS.out.lt k hk), fun k hk hk2 => by
    have : g' = k := by simpa [Value.ownBlock] using hk
    have := HS.out.lt k hk2
    omega, fun k _ => Nat.zero_le _⟩
  obtain ⟨S', hM, hS'⟩ := hML.tree2 (Tm.mk 5 s ⟨#[]⟩ 0 0 (L.map (·.1))) rfl hmax
  refine bodyPost_ret (results_tm rfl _ _ w.heap.size (Tm.mk 5 s ⟨#[]⟩ 0 0 (L.map (·.1))) (some ⟨g', 0, none⟩) cap' (by rfl) (by unfold tobj; simp only [Tm.kind, Tm.name, Tm.num, Tm.bits, Tm.var, Tm.args]; rw [e1]; exact set6 R1.out _ _ _ _ _ _)) rfl ⟨_, _, S', rfl, hM, fun k hk => ?_, hb9⟩
  rcases hS' k hk with h | h
  · exact .inl h
  · right
    have : g' = k := by simpa using h
    omega
set_option maxRecDepth 100000 in
set_option maxHeartbeats 4000000 in
theorem f2_mine (s : ByteArray) (x y : Tm) (px py : Option Addr) (cx cy : Nat) (Sx Sy : List Nat) (w : World) (hx : MineT w x px cx Sx) (hy : MineT w y py cy Sy) (hd : ∀ k ∈ Sx, k ∉ Sy) :
    Calls Tryz.prog 100 #[.string s, x.val px cx, y.val py cy] w fun e w' => ∃ p cap S', e = .returned ((Tm.mk 5 s ⟨#[]⟩ 0 0 [x, y]).val p cap) ∧ MineT w' (Tm.mk 5 s ⟨#[]⟩ 0 0 [x, y]) p cap S' ∧ (∀ k ∈ S', k ∈ Sx ∨ k ∈ Sy ∨ w.heap.size ≤ k) ∧ Below w.heap.size w w' := by
  obtain ⟨W0, hW0⟩ : ∃ W0, W0 = ((((w.alloc (.cells (cellsA x px cx) 25)).alloc (.cells (cellsA y py cy) 25)).alloc (.cells #[.int .i64 0, .string ⟨#[]⟩, .string ⟨#[]⟩, .int .u64 0, .int .i64 0, .slice none 0 0] 25)).alloc (.cells ((cellsA x px cx) ++ (cellsA y py cy)) 25)) := ⟨_, rfl⟩
  have hs0 : W0.heap.size = w.heap.size + 4 := by rw [hW0]; simp
  have hB := hid (show Below w.heap.size w W0 by rw [hW0]; exact ((((Below.refl _ _).alloc (Nat.le_refl _) _).alloc (by simp) _).alloc (by simp; omega) _).alloc (by simp; omega) _)
  have HR := hid (show W0.heap[w.heap.size + 1 + 1]? = some (.cells #[.int .i64 0, .string ⟨#[]⟩, .string ⟨#[]⟩, .int .u64 0, .int .i64 0, .slice none 0 0] 25 (0, 0)) by
    rw [hW0]
    refine (heap_alloc_old (((w.alloc _).alloc _).alloc _) _ (by simp)).trans ?_
    have h := heap_alloc_new ((w.alloc (.cells (cellsA x px cx) 25)).alloc (.cells (cellsA y py cy) 25)) (.cells #[.int .i64 0, .string ⟨#[]⟩, .string ⟨#[]⟩, .int .u64 0, .int .i64 0, .slice none 0 0] 25)
    rwa [World.size_alloc, World.size_alloc] at h)
  have HN := hid (show W0.heap[w.heap.size + 1 + 1 + 1]? = some (.cells ((cellsA x px cx) ++ (cellsA y py cy)) 25 (0, 0)) by
    rw [hW0]
    have h := heap_alloc_new (((w.alloc (.cells (cellsA x px cx) 25)).alloc (.cells (cellsA y py cy) 25)).alloc (.cells #[.int .i64 0, .string ⟨#[]⟩, .string ⟨#[]⟩, .int .u64 0, .int .i64 0, .slice none 0 0] 25)) (.cells ((cellsA x px cx) ++ (cellsA y py cy)) 25)
    rwa [World.size_alloc, World.size_alloc, World.size_alloc] at h)
  have HS := hid (show MineS W0 [(x, px, cx), (y, py, cy)] (Sx ++ Sy) from ⟨Sx, Sy, rfl, hd, hx.same fun k hk => hB.out.block k (hx.lt k hk), Sy, [], by simp, by simp, hy.same fun k hk => hB.out.block k (hy.lt k hk), rfl⟩)
  have HO := hid (show W0.ownsRow 0 25 6 (.slice (some ⟨w.heap.size + 1 + 1 + 1, 0, none⟩) 2 2) 2 (flat [(x, px, cx), (y, py, cy)]) from ⟨rfl, .inr ⟨_, 2, _, rfl, Nat.zero_le _, HN.out, Nat.le_refl _, by unfold maxLen; omega, rfl, rfl⟩⟩)
  have CF := hid (show Calls Tryz.prog 41 #[.string s, .slice (some ⟨w.heap.size + 1 + 1 + 1, 0, none⟩) 2 2] W0 fun e w' => ∃ p cap S', e = .returned (.agg #[.int .i64 5, .string s, .string ⟨#[]⟩, .int .u64 0, .int .i64 0, .slice p 2 cap]) ∧ MineT w' (Tm.mk 5 s ⟨#[]⟩ 0 0 [x, y]) p cap S' ∧ (∀ k ∈ S', k ∈ Sx ++ Sy ∨ W0.heap.size ≤ k) ∧ Below W0.heap.size W0 w' from makeFM s _ 0 [(x, px, cx), (y, py, cy)] (Sx ++ Sy) W0 (by simp) HO.out HS.out (by simp))
  have HXY := hid (show (∀ k ∈ Sx, k < w.heap.size) ∧ (∀ k ∈ Sy, k < w.heap.size) from ⟨hx.lt, hy.lt⟩)
  have HV := hid (show ∀ p cap, (Tm.mk 5 s ⟨#[]⟩ 0 0 [x, y]).val p cap = .agg #[.int .i64 5, .string s, .string ⟨#[]⟩, .int .u64 0, .int .i64 0, .slice p 2 cap] from fun _ _ => rfl)
  have hW0' : W0 = ((((w.alloc (.cells #[.int .i64 x.kind, .string x.name, .string x.num, .int .u64 x.bits, .int .i64 x.var, .slice px x.args.length cx] 25)).alloc (.cells #[.int .i64 y.kind, .string y.name, .string y.num, .int .u64 y.bits, .int .i64 y.var, .slice py y.args.length cy] 25)).alloc (.cells #[.int .i64 0, .string ⟨#[]⟩, .string ⟨#[]⟩, .int .u64 0, .int .i64 0, .slice none 0 0] 25)).alloc (.cells #[.int .i64 x.kind, .string x.name, .string x.num, .int .u64 x.bits, .int .i64 x.var, .slice px x.args.length cx, .int .i64 y.kind, .string y.name, .string y.num, .int .u64 y.bits, .int .i64 y.var, .slice py y.args.length cy] 25)) := hW0
  unfold Tm.val
  clear hx hy hW0 hd
  go_enter Tryz.func100, Tryz.ntmps100
  go_wp2_with (first
    | (go_at_call 41; rw [← hW0']; (with_reducible refine CF.out.mono ?_); rintro e w2 ⟨p, cap, S', rfl, hm, hS', hb2⟩; have HM := hid hm; have HS' := hid hS'; have B2 := hid (hB.out.trans (hb2.mono hB.out.size)); have R2 := hid ((hb2.block _ (lt_of_block HR.out)).trans HR.out); clear hb2 hm hS' hW0'; obtain ⟨⟨z0, z1, z2, z3, z4, z5⟩, ⟨f0, f1, f2, f3, f4, f5⟩⟩ := six_free R2.out)
    | fail)
  have hg := set6_grown w2 (w.heap.size + 1 + 1) (.int .i64 5) (.string s) (.string ⟨#[]⟩) (.int .u64 0) (.int .i64 0) (.slice p 2 cap)
  refine bodyPost_ret (results_tm rfl _ _ (w.heap.size + 1 + 1) (Tm.mk 5 s ⟨#[]⟩ 0 0 [x, y]) p cap (by rfl) (set6 R2.out _ _ _ _ _ _)) rfl ⟨p, cap, S', rfl, HM.out.same fun k hk => hg.block k (HM.out.lt k hk) (fun e => ?_), fun k hk => ?_, set6_below B2.out (by omega) _ _ _ _ _ _⟩
  · have h1 := HS'.out k hk
    have e := Option.some.inj e
    rcases h1 with h | h
    · have := HS.out.lt k h
      rcases List.mem_append.1 h with h | h
      · have := HXY.out.1 k h; omega
      · have := HXY.out.2 k h; omega
    · omega
  · rcases HS'.out k hk with h | h
    · rcases List.mem_append.1 h with h | h
      · exact .inl h
      · exact .inr (.inl h)
    · exact .inr (.inr (by omega))
theorem f2_flat (s : ByteArray) (x y : Tm) (px py : Option Addr) (cx cy : Nat) (Sx Sy : List Nat) (w : World) (hx : MineT w x px cx Sx) (hy : MineT w y py cy Sy) (hd : ∀ k ∈ Sx, k ∉ Sy) :
    Calls Tryz.prog 100 #[.string s, .agg #[.int .i64 x.kind, .string x.name, .string x.num, .int .u64 x.bits, .int .i64 x.var, .slice px x.args.length cx], .agg #[.int .i64 y.kind, .string y.name, .string y.num, .int .u64 y.bits, .int .i64 y.var, .slice py y.args.length cy]] w fun e w' => ∃ p cap S', e = .returned (.agg #[.int .i64 5, .string s, .string ⟨#[]⟩, .int .u64 0, .int .i64 0, .slice p 2 cap]) ∧ MineT w' (Tm.mk 5 s ⟨#[]⟩ 0 0 [x, y]) p cap S' ∧ (∀ k ∈ S', k ∈ Sx ∨ k ∈ Sy ∨ w.heap.size ≤ k) ∧ Below w.heap.size w w' :=
  f2_mine s x y px py cx cy Sx Sy w hx hy hd
set_option maxRecDepth 100000 in
set_option maxHeartbeats 8000000 in
theorem listed_any (l : List Tm) (e : Tm) (pl pe : Option Addr) (cl ce : Nat) (w : World) (hl : ListAt w l pl) (he : TmAt w e pe) (hcl : ∀ k (h : k < l.length), AllT CpOk l[k]) (hce : AllT CpOk e) (hn : l.length ≤ 4000) :
    Calls Tryz.prog 73 #[.slice pl l.length cl, e.val pe ce] w fun x w' => ∃ q c S, x = .returned ((listT l e).val q c) ∧ MineT w' (listT l e) q c S ∧ (∀ k ∈ S, w.heap.size ≤ k) ∧ Below w.heap.size w w' := by
  have HL := hid hl
  have HCL := hid hcl
  obtain ⟨W0, hW0⟩ : ∃ W0, W0 = (w.alloc (tobj e pe ce)).alloc (tobj (leaf 0 ⟨#[]⟩ ⟨#[]⟩ 0) none 0) := ⟨_, rfl⟩
  have hs0 : W0.heap.size = w.heap.size + 2 := by rw [hW0]; simp
  have hB := hid (show Below w.heap.size w W0 by rw [hW0]; exact ((Below.refl w.heap.size w).alloc (Nat.le_refl _) _).alloc (by simp) _)
  have P1 := hid (show W0.heap[w.heap.size + 1]? = some (.cells #[.int .i64 0, .string ⟨#[]⟩, .string ⟨#[]⟩, .int .u64 0, .int .i64 0, .slice none 0 0] 25 (0, 0)) by
    rw [hW0]
    have h := heap_alloc_new (w.alloc (tobj e pe ce)) (tobj (leaf 0 ⟨#[]⟩ ⟨#[]⟩ 0) none 0)
    rwa [World.size_alloc] at h)
  have CO := hid (own_any (nodes e) e pe ce W0 (Nat.le_refl _) (he.keep hB.out) hce)
  have hW0' : W0 = (w.alloc (.cells #[.int .i64 e.kind, .string e.name, .string e.num, .int .u64 e.bits, .int .i64 e.var, .slice pe e.args.length ce] 25)).alloc (.cells #[.int .i64 0, .string ⟨#[]⟩, .string ⟨#[]⟩, .int .u64 0, .int .i64 0, .slice none 0 0] 25) := hW0
  have hlen : (l.length : Int) ≤ 4000 := by omega
  unfold Tm.val at CO ⊢
  clear hl he hcl hce hW0
  go_enter Tryz.func73, Tryz.ntmps73
  go_wp2_with (first
    | (go_at_call 22; rw [← hW0']; (with_reducible refine CO.out.mono ?_); rintro x w2 ⟨pa, cpa, SA, rfl, hm, hS, hb2⟩; have HM := hid hm; have HS := hid hS; have B2 := hid hb2; clear hb2 hm hS hW0' CO)
    | fail)
  obtain ⟨Kb, hK⟩ : ∃ Kb, Kb = w2.heap.size := ⟨_, rfl⟩
  obtain ⟨W3, hW3⟩ : ∃ W3, W3 = w2.alloc (.cells #[.int .i64 e.kind, .string e.name, .string e.num, .int .u64 e.bits, .int .i64 e.var, .slice pa e.args.length cpa] 25) := ⟨_, rfl⟩
  rw [← hW3, ← hK]
  have hKw : w.heap.size + 2 ≤ Kb := by have := B2.out.size; omega
  have BA := hid (show Below w2.heap.size w2 W3 by rw [hW3]; exact (Below.refl _ _).alloc (Nat.le_refl _) _)
  have Q1 := hid ((BA.out.block _ (by have := B2.out.size; omega)).trans ((B2.out.block _ (lt_of_block P1.out)).trans P1.out))
  have Q2 := hid (show W3.heap[Kb]? = some (tobj e pa cpa) by rw [hW3, hK]; exact heap_alloc_new w2 _)
  have QM := hid (HM.out.same fun x hx => BA.out.block x (HM.out.lt x hx))
  have QS := hid (show ∀ x ∈ SA, w.heap.size + 2 ≤ x ∧ x ≠ Kb from fun x hx => ⟨by have := HS.out x hx; omega, by have := HM.out.lt x hx; omega⟩)
  have B3 := hid (show Below w.heap.size w W3 from hB.out.trans ((B2.out.trans (BA.out.mono B2.out.size)).mono hB.out.size))
  have QL := hid (show e = listT (l.drop l.length) e by rw [List.drop_length]; rfl)
  clear hW3 hK BA HM HS B2 P1 hB hs0
  go_loopw [6] (fun i wr => ∃ (k : Nat) (z : Int) (acc : Tm) (pa : Option Addr) (cpa : Nat) (SA : List Nat), k ≤ l.length ∧ z = (k : Int) - 1 ∧ i = .int .i64 z ∧ Hid (wr.heap[w.heap.size + 1]? = some (.cells #[.int .i64 0, .string ⟨#[]⟩, .string ⟨#[]⟩, .int .u64 0, .int .i64 0, .slice none 0 0] 25 (0, 0))) ∧ Hid (wr.heap[Kb]? = some (tobj acc pa cpa)) ∧ Hid (MineT wr acc pa cpa SA) ∧ Hid (∀ x ∈ SA, w.heap.size + 2 ≤ x ∧ x ≠ Kb) ∧ Hid (acc = listT (l.drop k) e) ∧ Hid (Below w.heap.size w wr)) (fun i _ => (intOf i + 1).toNat)
  case atStart => exact ⟨l.length, _, e, pa, cpa, SA, Nat.le_refl _, rfl, rfl, Q1, Q2, QM, QS, QL, B3⟩
  case round =>
    clear Q1 Q2 QM QS QL B3
    obtain ⟨k1, z, acc, pa, cpa, SA, hk, hz, rfl, P1, P2, HMA, HSA, HLT, hBr⟩ := hrel
    cases k1 with
    | succ k =>
      obtain rfl : z = (k : Int) := by omega
      clear hz
      have hlk : k < l.length := hk
      have hk0 : (0 : Int) ≤ (k : Int) := by omega
      have hk1 : (k : Int) < (l.length : Int) := by omega
      obtain ⟨b, o, rfl, e1, c1, hs1, ht1⟩ := HL.out.get k hlk
      have HCALL := hid (fun (W : World) (h : Below w.heap.size w W) => own_any (nodes l[k]) l[k] e1 c1 W (Nat.le_refl _) (ht1.keep h) (HCL.out k hlk))
      have HTK := hid (show l.drop k = l[k] :: l.drop (k + 1) from List.drop_eq_getElem_cons hlk)
      clear ht1
      generalize l[k] = t1 at *
      unfold Tm.val at HCALL
      have SY := hid (show ∀ W : World, Below w.heap.size w W → W.cell? ⟨b, o + k * 6, none⟩ = some (.int .i64 t1.kind) ∧ W.cell? ⟨b, o + k * 6 + 1, none⟩ = some (.string t1.name) ∧ W.cell? ⟨b, o + k * 6 + 2, none⟩ = some (.string t1.num) ∧ W.cell? ⟨b, o + k * 6 + 3, none⟩ = some (.int .u64 t1.bits) ∧ W.cell? ⟨b, o + k * 6 + 4, none⟩ = some (.int .i64 t1.var) ∧ W.cell? ⟨b, o + k * 6 + 5, none⟩ = some (.slice e1 t1.args.length c1) from fun W h =>
        have m := hs1.keep h
        ⟨m.c0, m.c1, m.c2, m.c3, m.c4, m.c5⟩)
      have SX := hid (fun (W : World) (h : Below wr.heap.size wr W) => SY.out W (hBr.out.trans (h.mono hBr.out.size)))
      have BRD := hid (show Below wr.heap.size wr wr.drew from (Below.refl _ _).drew)
      have BD := hid (show Below w.heap.size w wr.drew from hBr.out.trans (BRD.out.mono hBr.out.size))
      clear hs1
      go_wp2_with fail
      have sd := SX.out wr.drew BRD.out
      refine wp_region_held_drew (S := fun W => W.cell? ⟨b, o + k * 6, none⟩ = some (.int .i64 t1.kind) ∧ W.cell? ⟨b, o + k * 6 + 1, none⟩ = some (.string t1.name) ∧ W.cell? ⟨b, o + k * 6 + 2, none⟩ = some (.string t1.num) ∧ W.cell? ⟨b, o + k * 6 + 3, none⟩ = some (.int .u64 t1.bits) ∧ W.cell? ⟨b, o + k * 6 + 4, none⟩ = some (.int .i64 t1.var) ∧ W.cell? ⟨b, o + k * 6 + 5, none⟩ = some (.slice e1 t1.args.length c1)) (by kernel_rfl) sd (fun hHeld => ?_)
      refine' wpAnyH_take (i := 0) (v := (.slice (some ⟨b, o, none⟩) l.length cl)) rfl (by decide +kernel) (by decide +kernel) (by decide +kernel) (fun _ _ _ h => h) (Or.inl ⟨by rfl, ?hyL1⟩) (by assumption) ?restL1
      case hyL1 => (intro w5 hSw; (try dsimp only at hSw); go_simp; try with_reducible rfl)
      case' restL1 => (try simp only [Act.put, List.setIfInBounds_toArray, List.set_cons_zero, List.set_cons_succ])
      refine' wpAnyH_take (i := 1) (v := (.int .i64 (k : Int))) rfl (by decide +kernel) (by decide +kernel) (by decide +kernel) (fun _ _ _ h => h) (Or.inl ⟨by rfl, ?hyL2⟩) (by assumption) ?restL2
      case hyL2 => (intro w5 hSw; (try dsimp only at hSw); go_simp; try with_reducible rfl)
      case' restL2 => (try simp only [Act.put, List.setIfInBounds_toArray, List.set_cons_zero, List.set_cons_succ])
      refine' wpAnyH_take (i := 2) (v := (.pointer (some ⟨b, o + k * 6, none⟩))) rfl (by decide +kernel) (by decide +kernel) (by decide +kernel) (fun _ _ _ h => h) (Or.inl ⟨by rfl, ?hyL3⟩) (by assumption) ?restL3
      case hyL3 => (intro w5 hSw; (try dsimp only at hSw); go_simp; try with_reducible rfl)
      case' restL3 => (try simp only [Act.put, List.setIfInBounds_toArray, List.set_cons_zero, List.set_cons_succ])
      refine' wpAnyH_take (i := 3) (v := (.agg #[.int .i64 t1.kind, .string t1.name, .string t1.num, .int .u64 t1.bits, .int .i64 t1.var, .slice e1 t1.args.length c1])) rfl (by decide +kernel) (by decide +kernel) (by decide +kernel) (fun _ _ _ h => h) (Or.inl ⟨by rfl, ?hyL4⟩) (by assumption) ?restL4
      case hyL4 => (intro w5 hSw; (try dsimp only at hSw); go_simp; try with_reducible rfl)
      case' restL4 => (try simp only [Act.put, List.setIfInBounds_toArray, List.set_cons_zero, List.set_cons_succ])
      refine wpAnyH_ready (rs := [4, 5]) (by decide +kernel) (by simp) ?_
      refine AllReadyH.cons rfl (fun K hK => ?_) ?_
      · go_simp
        (with_reducible refine (HCALL.out _ BD.out).mono ?_)
        rintro e w2 ⟨qa, ca, S1, rfl, hm, hS1, hb2⟩
        have HM1 := hid hm
        have HS1 := hid (show ∀ x ∈ S1, wr.heap.size ≤ x from hS1)
        have BR2 := hid (show Below wr.heap.size wr w2 from BRD.out.trans hb2)
        clear hm hS1 hb2
        have P2b := hid ((BR2.out.block _ (lt_of_block P2.out)).trans P2.out)
        refine hK.out _ _ (SX.out w2 BR2.out) (fun hHeld => ?_)
        clear hK K
        (try simp only [Act.put, List.setIfInBounds_toArray, List.set_cons_zero, List.set_cons_succ])
        refine wpAnyH_ready (rs := [5]) (by decide +kernel) (by simp) ?_
        refine AllReadyH.cons rfl (fun K hK => ?_) AllReadyH.nil
        have q := six_of (P2b.out)
        obtain ⟨q0, q1, q2, q3, q4, q5⟩ := q
        go_simp
        refine hK.out _ _ (SX.out w2 BR2.out) (fun hHeld => ?_)
        clear hK K q0 q1 q2 q3 q4 q5
        (try simp only [Act.put, List.setIfInBounds_toArray, List.set_cons_zero, List.set_cons_succ])
        refine wpAnyH_ready (rs := [6]) (by decide +kernel) (by simp) ?_
        refine AllReadyH.cons rfl (fun K hK => ?_) AllReadyH.nil
        have HF2 := f2_flat ⟨#[46]⟩ t1 acc qa pa ca cpa S1 SA w2 HM1.out (HMA.out.same fun x hx => BR2.out.block x (HMA.out.lt x hx)) (fun x hx h2 => by have := HS1.out x hx; have := HMA.out.lt x h2; omega)
        go_simp
        (with_reducible refine HF2.mono ?_)
        rintro e w3 ⟨qb, cb, S3, rfl, hm, hS3, hb3⟩
        have HM3 := hid hm
        have HS3 := hid hS3
        have BR3 := hid (show Below wr.heap.size wr w3 from BR2.out.trans (hb3.mono BR2.out.size))
        clear hm hS3 hb3 HF2
        have P2c := hid ((BR3.out.block _ (lt_of_block P2.out)).trans P2.out)
        refine hK.out _ _ (SX.out w3 BR3.out) (fun hHeld => ?_)
        clear hK K
        (try simp only [Act.put, List.setIfInBounds_toArray, List.set_cons_zero, List.set_cons_succ])
        refine wpAnyH_ready (rs := [7]) (by decide +kernel) (by simp) ?_
        refine AllReadyH.cons rfl (fun K hK => ?_) AllReadyH.nil
        obtain ⟨⟨z0, z1, z2, z3, z4, z5⟩, ⟨f0, f1, f2, f3, f4, f5⟩⟩ := six_free (show w3.heap[Kb]? = some (.cells #[.int .i64 acc.kind, .string acc.name, .string acc.num, .int .u64 acc.bits, .int .i64 acc.var, .slice pa acc.args.length cpa] 25 (0, 0)) from P2c.out)
        go_simp
        have hg := set6_grown w3 (Kb) (.int .i64 5) (.string ⟨#[46]⟩) (.string ⟨#[]⟩) (.int .u64 0) (.int .i64 0) (.slice qb 2 cb)
        have h6 := set6 P2c.out (.int .i64 5) (.string ⟨#[46]⟩) (.string ⟨#[]⟩) (.int .u64 0) (.int .i64 0) (.slice qb 2 cb)
        obtain ⟨W9, h9⟩ : ∃ W9, W9 = ((((((w3.setCell ⟨Kb, 0, none⟩ (.int .i64 5)).setCell ⟨Kb, 1, none⟩ (.string ⟨#[46]⟩)).setCell ⟨Kb, 2, none⟩ (.string ⟨#[]⟩)).setCell ⟨Kb, 3, none⟩ (.int .u64 0)).setCell ⟨Kb, 4, none⟩ (.int .i64 0)).setCell ⟨Kb, 5, none⟩ (.slice qb 2 cb)) := ⟨_, rfl⟩
        rw [← h9] at hg h6
        rw [← h9]
        have G9 := hid hg
        have H6 := hid h6
        have B9 := hid (show Below w.heap.size w W9 by rw [h9]; exact set6_below (hBr.out.trans (BR3.out.mono hBr.out.size)) (by omega) _ _ _ _ _ _)
        clear hg h6 h9 z0 z1 z2 z3 z4 z5 f0 f1 f2 f3 f4 f5
        refine hK.out _ _ (SY.out W9 B9.out) (fun hHeld => ?_)
        clear hK K hHeld
        (try simp only [Act.put, List.setIfInBounds_toArray, List.set_cons_zero, List.set_cons_succ])
        refine wpAnyH_done (by kernel_rfl) ?_ _
        clear sd
        go_wp2
        go_roundw
        case rel =>
          have hold : ∀ x, x < w3.heap.size → x ≠ Kb → W9.heap[x]? = w3.heap[x]? := fun x hx hne => G9.out.block x hx (fun e => hne (Option.some.inj e))
          refine ⟨k, (k : Int) - 1, .mk 5 ⟨#[46]⟩ ⟨#[]⟩ 0 0 [t1, acc], qb, cb, S3, by omega, rfl, rfl, hid ((hold _ (by have := BR3.out.size; have := lt_of_block P1.out; omega) (by omega)).trans ((BR3.out.block _ (lt_of_block P1.out)).trans P1.out)), H6, hid (HM3.out.same fun x hx => hold x (HM3.out.lt x hx) (fun e => ?_)), hid (fun x hx => ?_), hid ?_, B9⟩
          · rcases HS3.out x hx with h | h | h
            · have := HS1.out x h; have := lt_of_block P2.out; omega
            · exact (HSA.out x h).2 e
            · have := lt_of_block P2.out; have := BR2.out.size; omega
          · rcases HS3.out x hx with h | h | h
            · have := HS1.out x h; have := lt_of_block P2.out; omega
            · exact HSA.out x h
            · have := lt_of_block P2.out; have := BR2.out.size; omega
          · rw [HTK.out]; show Tm.mk _ _ _ _ _ [t1, acc] = .mk _ _ _ _ _ [t1, listT (l.drop (k + 1)) e]; rw [← HLT.out]
        case measure => simp [intOf]
      refine AllReadyH.cons rfl (fun K hK => ?_) AllReadyH.nil
      have q := six_of ((show wr.drew.heap[Kb]? = _ from P2.out))
      obtain ⟨q0, q1, q2, q3, q4, q5⟩ := q
      go_simp
      refine hK.out _ _ (sd) (fun hHeld => ?_)
      clear hK K q0 q1 q2 q3 q4 q5
      (try simp only [Act.put, List.setIfInBounds_toArray, List.set_cons_zero, List.set_cons_succ])
      refine wpAnyH_ready (rs := [4]) (by decide +kernel) (by simp) ?_
      refine AllReadyH.cons rfl (fun K hK => ?_) AllReadyH.nil
      go_simp
      (with_reducible refine (HCALL.out _ BD.out).mono ?_)
      rintro e w2 ⟨qa, ca, S1, rfl, hm, hS1, hb2⟩
      have HM1 := hid hm
      have HS1 := hid (show ∀ x ∈ S1, wr.heap.size ≤ x from hS1)
      have BR2 := hid (show Below wr.heap.size wr w2 from BRD.out.trans hb2)
      clear hm hS1 hb2
      have P2b := hid ((BR2.out.block _ (lt_of_block P2.out)).trans P2.out)
      refine hK.out _ _ (SX.out w2 BR2.out) (fun hHeld => ?_)
      clear hK K
      (try simp only [Act.put, List.setIfInBounds_toArray, List.set_cons_zero, List.set_cons_succ])
      refine wpAnyH_ready (rs := [6]) (by decide +kernel) (by simp) ?_
      refine AllReadyH.cons rfl (fun K hK => ?_) AllReadyH.nil
      have HF2 := f2_flat ⟨#[46]⟩ t1 acc qa pa ca cpa S1 SA w2 HM1.out (HMA.out.same fun x hx => BR2.out.block x (HMA.out.lt x hx)) (fun x hx h2 => by have := HS1.out x hx; have := HMA.out.lt x h2; omega)
      go_simp
      (with_reducible refine HF2.mono ?_)
      rintro e w3 ⟨qb, cb, S3, rfl, hm, hS3, hb3⟩
      have HM3 := hid hm
      have HS3 := hid hS3
      have BR3 := hid (show Below wr.heap.size wr w3 from BR2.out.trans (hb3.mono BR2.out.size))
      clear hm hS3 hb3 HF2
      have P2c := hid ((BR3.out.block _ (lt_of_block P2.out)).trans P2.out)
      refine hK.out _ _ (SX.out w3 BR3.out) (fun hHeld => ?_)
      clear hK K
      (try simp only [Act.put, List.setIfInBounds_toArray, List.set_cons_zero, List.set_cons_succ])
      refine wpAnyH_ready (rs := [7]) (by decide +kernel) (by simp) ?_
      refine AllReadyH.cons rfl (fun K hK => ?_) AllReadyH.nil
      obtain ⟨⟨z0, z1, z2, z3, z4, z5⟩, ⟨f0, f1, f2, f3, f4, f5⟩⟩ := six_free (show w3.heap[Kb]? = some (.cells #[.int .i64 acc.kind, .string acc.name, .string acc.num, .int .u64 acc.bits, .int .i64 acc.var, .slice pa acc.args.length cpa] 25 (0, 0)) from P2c.out)
      go_simp
      have hg := set6_grown w3 (Kb) (.int .i64 5) (.string ⟨#[46]⟩) (.string ⟨#[]⟩) (.int .u64 0) (.int .i64 0) (.slice qb 2 cb)
      have h6 := set6 P2c.out (.int .i64 5) (.string ⟨#[46]⟩) (.string ⟨#[]⟩) (.int .u64 0) (.int .i64 0) (.slice qb 2 cb)
      obtain ⟨W9, h9⟩ : ∃ W9, W9 = ((((((w3.setCell ⟨Kb, 0, none⟩ (.int .i64 5)).setCell ⟨Kb, 1, none⟩ (.string ⟨#[46]⟩)).setCell ⟨Kb, 2, none⟩ (.string ⟨#[]⟩)).setCell ⟨Kb, 3, none⟩ (.int .u64 0)).setCell ⟨Kb, 4, none⟩ (.int .i64 0)).setCell ⟨Kb, 5, none⟩ (.slice qb 2 cb)) := ⟨_, rfl⟩
      rw [← h9] at hg h6
      rw [← h9]
      have G9 := hid hg
      have H6 := hid h6
      have B9 := hid (show Below w.heap.size w W9 by rw [h9]; exact set6_below (hBr.out.trans (BR3.out.mono hBr.out.size)) (by omega) _ _ _ _ _ _)
      clear hg h6 h9 z0 z1 z2 z3 z4 z5 f0 f1 f2 f3 f4 f5
      refine hK.out _ _ (SY.out W9 B9.out) (fun hHeld => ?_)
      clear hK K hHeld
      (try simp only [Act.put, List.setIfInBounds_toArray, List.set_cons_zero, List.set_cons_succ])
      refine wpAnyH_done (by kernel_rfl) ?_ _
      clear sd
      go_wp2
      go_roundw
      case rel =>
        have hold : ∀ x, x < w3.heap.size → x ≠ Kb → W9.heap[x]? = w3.heap[x]? := fun x hx hne => G9.out.block x hx (fun e => hne (Option.some.inj e))
        refine ⟨k, (k : Int) - 1, .mk 5 ⟨#[46]⟩ ⟨#[]⟩ 0 0 [t1, acc], qb, cb, S3, by omega, rfl, rfl, hid ((hold _ (by have := BR3.out.size; have := lt_of_block P1.out; omega) (by omega)).trans ((BR3.out.block _ (lt_of_block P1.out)).trans P1.out)), H6, hid (HM3.out.same fun x hx => hold x (HM3.out.lt x hx) (fun e => ?_)), hid (fun x hx => ?_), hid ?_, B9⟩
        · rcases HS3.out x hx with h | h | h
          · have := HS1.out x h; have := lt_of_block P2.out; omega
          · exact (HSA.out x h).2 e
          · have := lt_of_block P2.out; have := BR2.out.size; omega
        · rcases HS3.out x hx with h | h | h
          · have := HS1.out x h; have := lt_of_block P2.out; omega
          · exact HSA.out x h
          · have := lt_of_block P2.out; have := BR2.out.size; omega
        · rw [HTK.out]; show Tm.mk _ _ _ _ _ [t1, acc] = .mk _ _ _ _ _ [t1, listT (l.drop (k + 1)) e]; rw [← HLT.out]
      case measure => simp [intOf]
    | zero =>
      obtain rfl : z = -1 := by omega
      obtain ⟨⟨z0, z1, z2, z3, z4, z5⟩, ⟨f0, f1, f2, f3, f4, f5⟩⟩ := six_free P1.out
      obtain ⟨y0, y1, y2, y3, y4, y5⟩ := six_of P2.out
      clear hz
      go_wp2
      have hg := set6_grown wr (w.heap.size + 1) (.int .i64 acc.kind) (.string acc.name) (.string acc.num) (.int .u64 acc.bits) (.int .i64 acc.var) (.slice pa acc.args.length cpa)
      have hacc : acc = listT l e := by have h := HLT.out; rwa [List.drop_zero] at h
      refine bodyPost_ret (results_tm rfl _ _ (w.heap.size + 1) acc pa cpa (by rfl) (set6 P1.out _ _ _ _ _ _)) rfl ⟨pa, cpa, SA, by rw [← hacc]; rfl, by rw [← hacc]; exact HMA.out.same fun x hx => hg.block x (HMA.out.lt x hx) (fun e => by have h := (HSA.out x hx).1; have e := Option.some.inj e; omega), fun x hx => by have := (HSA.out x hx).1; omega, set6_below hBr.out (by omega) _ _ _ _ _ _⟩
end Go.Proofs.YtkapejcbmonfkaaGreatDoor

namespace Go.Proofs.YtkapejcbmonfkaaGreatDoor
open Go.RowKit

/-- How many nodes a list has. -/
def tot (l : List Tm) (e : Tm) (k : Nat) : Nat := nodes e + (k + nodesL (l.take k))
theorem tot_zero (l : List Tm) (e : Tm) : tot l e 0 = nodes e := by unfold tot; simp [nodesL]
theorem tot_succ (l : List Tm) (e : Tm) (k : Nat) (h : k < l.length) : tot l e (k + 1) = tot l e k + 1 + nodes l[k] := by
  unfold tot
  rw [nodesL_take l k h]
  omega
theorem tot_mono (l : List Tm) (e : Tm) {j k : Nat} (h : j ≤ k) : tot l e j ≤ tot l e k := by
  unfold tot
  have : nodesL (l.take j) ≤ nodesL (l.take k) := by
    have h1 := nodesL_take_le (l.take k) j
    rw [List.take_take, Nat.min_eq_left h] at h1
    exact h1
  omega
theorem capped_cases (n : Nat) : (n ≤ 4000 ∧ capped n 4001 = (n : Int)) ∨ (4000 < n ∧ capped n 4001 = 4001) := by
  unfold capped
  by_cases h : n ≤ 4000
  · exact .inl ⟨h, by rw [if_pos (by omega)]⟩
  · right
    refine ⟨by omega, ?_⟩
    by_cases h2 : (n : Int) ≤ 4001
    · rw [if_pos h2]; omega
    · rw [if_neg h2]
/-- What is wrong with a list's parts. -/
def listErr (l : List Tm) (e : Tm) : Int := if checksErr vName numOk bitsOk l = 0 then (if checkErr vName numOk bitsOk e = 0 then (if 4000 < tot l e l.length then 24 else 0) else checkErr vName numOk bitsOk e) else checksErr vName numOk bitsOk l
set_option maxRecDepth 100000 in
set_option maxHeartbeats 8000000 in
theorem listR_bad1 (l : List Tm) (e : Tm) (pl pe : Option Addr) (cl ce : Nat) (w : World) (hl : ListAt w l pl) (he : TmAt w e pe) (hD : AllR DomA l) (hDe : AllT DomA e) (hlm : l.length ≤ maxLen) (h1 : checksErr vName numOk bitsOk l ≠ 0) :
    Calls Tryz.prog 29 #[.slice pl l.length cl, e.val pe ce] w fun x w' => x = .returned (.tuple #[(leaf 0 ⟨#[]⟩ ⟨#[]⟩ 0).val none 0, .int .i64 (checksErr vName numOk bitsOk l)]) ∧ Below w.heap.size w w' := by
  have HL := hid hl
  have HE := hid he
  obtain ⟨W0, hW0⟩ : ∃ W0, W0 = (w.alloc (.cells #[.int .i64 e.kind, .string e.name, .string e.num, .int .u64 e.bits, .int .i64 e.var, .slice pe e.args.length ce] 25)).alloc (.cells #[.int .i64 0, .string ⟨#[]⟩, .string ⟨#[]⟩, .int .u64 0, .int .i64 0, .slice none 0 0] 25) := ⟨_, rfl⟩
  have B0 := hid (show Below w.heap.size w W0 by rw [hW0]; exact ((Below.refl w.heap.size w).alloc (Nat.le_refl _) _).alloc (by simp) _)
  have E0 := hid (show W0.heap[w.heap.size]? = some (.cells #[.int .i64 e.kind, .string e.name, .string e.num, .int .u64 e.bits, .int .i64 e.var, .slice pe e.args.length ce] 25 (0, 0)) by rw [hW0]; exact (heap_alloc_old (w.alloc _) _ (by simp)).trans (heap_alloc_new w _))
  have Z0 := hid (show W0.heap[w.heap.size + 1]? = some (.cells #[.int .i64 0, .string ⟨#[]⟩, .string ⟨#[]⟩, .int .u64 0, .int .i64 0, .slice none 0 0] 25 (0, 0)) by
    rw [hW0]
    have h := heap_alloc_new (w.alloc (.cells #[.int .i64 e.kind, .string e.name, .string e.num, .int .u64 e.bits, .int .i64 e.var, .slice pe e.args.length ce] 25)) (.cells #[.int .i64 0, .string ⟨#[]⟩, .string ⟨#[]⟩, .int .u64 0, .int .i64 0, .slice none 0 0] 25)
    rwa [World.size_alloc] at h)
  have hW0' : W0 = (w.alloc (.cells #[.int .i64 e.kind, .string e.name, .string e.num, .int .u64 e.bits, .int .i64 e.var, .slice pe e.args.length ce] 25)).alloc (.cells #[.int .i64 0, .string ⟨#[]⟩, .string ⟨#[]⟩, .int .u64 0, .int .i64 0, .slice none 0 0] 25) := hW0
  clear hW0
  have CK := hid (fun (W : World) (h : Below w.heap.size w W) => checksR_any l pl cl W hlm (hl.keep h) hD)
  have CC := hid (fun (W : World) (h : Below w.heap.size w W) => checkR_any vName numOk bitsOk DomA e pe ce W (he.keep h) (oracleRA _) hDe)
  have CN := hid (fun (W : World) (h : Below w.heap.size w W) => nodesR_any e pe ce W (he.keep h))
  generalize checksErr vName numOk bitsOk l = v at *
  have hq : (v == 0) = false := beq_eq_false_iff_ne.2 h1
  have hq2 : (v != 0) = true := by simp [h1]
  unfold maxLen at hlm
  unfold Tm.val
  clear hl he hD hDe h1 CC CN
  go_enter Tryz.func29, Tryz.ntmps29
  go_wp2_with (first
    | (go_at_call 48; rw [← hW0']; (with_reducible refine (CK.out _ B0.out).mono ?_); rintro x w1 ⟨rfl, hb⟩; have B1 := hid (B0.out.trans (hb.mono B0.out.size)); have E1 := hid (obj_keep E0.out hb); have Z1 := hid ((hb.block _ (lt_of_block Z0.out)).trans Z0.out); clear hb E0 Z0; obtain ⟨⟨x0, x1, x2, x3, x4, x5⟩, _⟩ := six_free E1.out; clear hW0'; obtain ⟨⟨z0, z1, z2, z3, z4, z5⟩, ⟨f0, f1, f2, f3, f4, f5⟩⟩ := six_free Z1.out)
    | fail)
  have h6 := set6 Z1.out (.int .i64 0) (.string ⟨#[]⟩) (.string ⟨#[]⟩) (.int .u64 0) (.int .i64 0) (.slice none 0 0)
  have hg := set6_grown w1 (w.heap.size + 1) (.int .i64 0) (.string ⟨#[]⟩) (.string ⟨#[]⟩) (.int .u64 0) (.int .i64 0) (.slice none 0 0)
  exact bodyPost_ret (results_pair (b := w.heap.size + 1) (t := leaf 0 ⟨#[]⟩ ⟨#[]⟩ 0) (q := none) (cap := 0) rfl _ _ (.int .i64 v) ⟨by rfl, by rfl⟩ h6) rfl ⟨rfl, set6_below B1.out (by omega) _ _ _ _ _ _⟩
set_option maxRecDepth 100000 in
set_option maxHeartbeats 8000000 in
theorem listR_bad2 (l : List Tm) (e : Tm) (pl pe : Option Addr) (cl ce : Nat) (w : World) (hl : ListAt w l pl) (he : TmAt w e pe) (hD : AllR DomA l) (hDe : AllT DomA e) (hlm : l.length ≤ maxLen) (h1 : checksErr vName numOk bitsOk l = 0) (h2 : checkErr vName numOk bitsOk e ≠ 0) :
    Calls Tryz.prog 29 #[.slice pl l.length cl, e.val pe ce] w fun x w' => x = .returned (.tuple #[(leaf 0 ⟨#[]⟩ ⟨#[]⟩ 0).val none 0, .int .i64 (checkErr vName numOk bitsOk e)]) ∧ Below w.heap.size w w' := by
  have HL := hid hl
  have HE := hid he
  obtain ⟨W0, hW0⟩ : ∃ W0, W0 = (w.alloc (.cells #[.int .i64 e.kind, .string e.name, .string e.num, .int .u64 e.bits, .int .i64 e.var, .slice pe e.args.length ce] 25)).alloc (.cells #[.int .i64 0, .string ⟨#[]⟩, .string ⟨#[]⟩, .int .u64 0, .int .i64 0, .slice none 0 0] 25) := ⟨_, rfl⟩
  have B0 := hid (show Below w.heap.size w W0 by rw [hW0]; exact ((Below.refl w.heap.size w).alloc (Nat.le_refl _) _).alloc (by simp) _)
  have E0 := hid (show W0.heap[w.heap.size]? = some (.cells #[.int .i64 e.kind, .string e.name, .string e.num, .int .u64 e.bits, .int .i64 e.var, .slice pe e.args.length ce] 25 (0, 0)) by rw [hW0]; exact (heap_alloc_old (w.alloc _) _ (by simp)).trans (heap_alloc_new w _))
  have Z0 := hid (show W0.heap[w.heap.size + 1]? = some (.cells #[.int .i64 0, .string ⟨#[]⟩, .string ⟨#[]⟩, .int .u64 0, .int .i64 0, .slice none 0 0] 25 (0, 0)) by
    rw [hW0]
    have h := heap_alloc_new (w.alloc (.cells #[.int .i64 e.kind, .string e.name, .string e.num, .int .u64 e.bits, .int .i64 e.var, .slice pe e.args.length ce] 25)) (.cells #[.int .i64 0, .string ⟨#[]⟩, .string ⟨#[]⟩, .int .u64 0, .int .i64 0, .slice none 0 0] 25)
    rwa [World.size_alloc] at h)
  have hW0' : W0 = (w.alloc (.cells #[.int .i64 e.kind, .string e.name, .string e.num, .int .u64 e.bits, .int .i64 e.var, .slice pe e.args.length ce] 25)).alloc (.cells #[.int .i64 0, .string ⟨#[]⟩, .string ⟨#[]⟩, .int .u64 0, .int .i64 0, .slice none 0 0] 25) := hW0
  clear hW0
  have CK := hid (fun (W : World) (h : Below w.heap.size w W) => checksR_any l pl cl W hlm (hl.keep h) hD)
  have CC := hid (fun (W : World) (h : Below w.heap.size w W) => checkR_any vName numOk bitsOk DomA e pe ce W (he.keep h) (oracleRA _) hDe)
  have CN := hid (fun (W : World) (h : Below w.heap.size w W) => nodesR_any e pe ce W (he.keep h))
  rw [h1] at CK
  generalize checkErr vName numOk bitsOk e = v at *
  have hq : (v == 0) = false := beq_eq_false_iff_ne.2 h2
  have hq2 : (v != 0) = true := by simp [h2]
  unfold maxLen at hlm
  unfold Tm.val at CC
  unfold Tm.val
  clear hl he hD hDe h1 h2 CN
  go_enter Tryz.func29, Tryz.ntmps29
  go_wp2_with (first
    | (go_at_call 48; rw [← hW0']; (with_reducible refine (CK.out _ B0.out).mono ?_); rintro x w1 ⟨rfl, hb⟩; have B1 := hid (B0.out.trans (hb.mono B0.out.size)); have E1 := hid (obj_keep E0.out hb); have Z1 := hid ((hb.block _ (lt_of_block Z0.out)).trans Z0.out); clear hb E0 Z0; obtain ⟨⟨x0, x1, x2, x3, x4, x5⟩, _⟩ := six_free E1.out; clear hW0'; obtain ⟨⟨z0, z1, z2, z3, z4, z5⟩, ⟨f0, f1, f2, f3, f4, f5⟩⟩ := six_free Z1.out)
    | (go_at_call 31; (with_reducible refine (CC.out _ B1.out).mono ?_); rintro x w2 ⟨rfl, hb⟩; clear x0 x1 x2 x3 x4 x5; have B2 := hid (B1.out.trans (hb.mono B1.out.size)); have E2 := hid (obj_keep E1.out hb); have Z2 := hid ((hb.block _ (lt_of_block Z1.out)).trans Z1.out); clear hb E1 Z1; obtain ⟨⟨x0, x1, x2, x3, x4, x5⟩, _⟩ := six_free E2.out; clear z0 z1 z2 z3 z4 z5 f0 f1 f2 f3 f4 f5; obtain ⟨⟨z0, z1, z2, z3, z4, z5⟩, ⟨f0, f1, f2, f3, f4, f5⟩⟩ := six_free Z2.out)
    | fail)
  have h6 := set6 Z2.out (.int .i64 0) (.string ⟨#[]⟩) (.string ⟨#[]⟩) (.int .u64 0) (.int .i64 0) (.slice none 0 0)
  have hg := set6_grown w2 (w.heap.size + 1) (.int .i64 0) (.string ⟨#[]⟩) (.string ⟨#[]⟩) (.int .u64 0) (.int .i64 0) (.slice none 0 0)
  exact bodyPost_ret (results_pair (b := w.heap.size + 1) (t := leaf 0 ⟨#[]⟩ ⟨#[]⟩ 0) (q := none) (cap := 0) rfl _ _ (.int .i64 v) ⟨by rfl, by rfl⟩ h6) rfl ⟨rfl, set6_below B2.out (by omega) _ _ _ _ _ _⟩
set_option maxRecDepth 100000 in
set_option maxHeartbeats 16000000 in
theorem listR_bad3 (l : List Tm) (e : Tm) (pl pe : Option Addr) (cl ce : Nat) (w : World) (hl : ListAt w l pl) (he : TmAt w e pe) (hD : AllR DomA l) (hDe : AllT DomA e) (hlm : l.length ≤ maxLen) (h1 : checksErr vName numOk bitsOk l = 0) (h2 : checkErr vName numOk bitsOk e = 0) (h3 : 4000 < tot l e l.length) :
    Calls Tryz.prog 29 #[.slice pl l.length cl, e.val pe ce] w fun x w' => x = .returned (.tuple #[(leaf 0 ⟨#[]⟩ ⟨#[]⟩ 0).val none 0, .int .i64 24]) ∧ Below w.heap.size w w' := by
  have HL := hid hl
  have HE := hid he
  obtain ⟨W0, hW0⟩ : ∃ W0, W0 = (w.alloc (.cells #[.int .i64 e.kind, .string e.name, .string e.num, .int .u64 e.bits, .int .i64 e.var, .slice pe e.args.length ce] 25)).alloc (.cells #[.int .i64 0, .string ⟨#[]⟩, .string ⟨#[]⟩, .int .u64 0, .int .i64 0, .slice none 0 0] 25) := ⟨_, rfl⟩
  have B0 := hid (show Below w.heap.size w W0 by rw [hW0]; exact ((Below.refl w.heap.size w).alloc (Nat.le_refl _) _).alloc (by simp) _)
  have E0 := hid (show W0.heap[w.heap.size]? = some (.cells #[.int .i64 e.kind, .string e.name, .string e.num, .int .u64 e.bits, .int .i64 e.var, .slice pe e.args.length ce] 25 (0, 0)) by rw [hW0]; exact (heap_alloc_old (w.alloc _) _ (by simp)).trans (heap_alloc_new w _))
  have Z0 := hid (show W0.heap[w.heap.size + 1]? = some (.cells #[.int .i64 0, .string ⟨#[]⟩, .string ⟨#[]⟩, .int .u64 0, .int .i64 0, .slice none 0 0] 25 (0, 0)) by
    rw [hW0]
    have h := heap_alloc_new (w.alloc (.cells #[.int .i64 e.kind, .string e.name, .string e.num, .int .u64 e.bits, .int .i64 e.var, .slice pe e.args.length ce] 25)) (.cells #[.int .i64 0, .string ⟨#[]⟩, .string ⟨#[]⟩, .int .u64 0, .int .i64 0, .slice none 0 0] 25)
    rwa [World.size_alloc] at h)
  have hW0' : W0 = (w.alloc (.cells #[.int .i64 e.kind, .string e.name, .string e.num, .int .u64 e.bits, .int .i64 e.var, .slice pe e.args.length ce] 25)).alloc (.cells #[.int .i64 0, .string ⟨#[]⟩, .string ⟨#[]⟩, .int .u64 0, .int .i64 0, .slice none 0 0] 25) := hW0
  clear hW0
  have CK := hid (fun (W : World) (h : Below w.heap.size w W) => checksR_any l pl cl W hlm (hl.keep h) hD)
  have CC := hid (fun (W : World) (h : Below w.heap.size w W) => checkR_any vName numOk bitsOk DomA e pe ce W (he.keep h) (oracleRA _) hDe)
  have CN := hid (fun (W : World) (h : Below w.heap.size w W) => nodesR_any e pe ce W (he.keep h))
  rw [h1] at CK
  rw [h2] at CC
  have HTT := hid h3
  unfold maxLen at hlm
  obtain ⟨m0, hm0⟩ : ∃ m0, m0 = capped (nodes e) 4001 := ⟨_, rfl⟩
  unfold Tm.val at CC CN
  unfold Tm.val
  clear hl he hD hDe h1 h2 h3
  clear hm0
  go_enter Tryz.func29, Tryz.ntmps29
  go_wp2_with (first
    | (go_at_call 48; rw [← hW0']; (with_reducible refine (CK.out _ B0.out).mono ?_); rintro x w1 ⟨rfl, hb⟩; have B1 := hid (B0.out.trans (hb.mono B0.out.size)); have E1 := hid (obj_keep E0.out hb); have Z1 := hid ((hb.block _ (lt_of_block Z0.out)).trans Z0.out); clear hb E0 Z0; obtain ⟨⟨x0, x1, x2, x3, x4, x5⟩, _⟩ := six_free E1.out; clear hW0')
    | (go_at_call 31; (with_reducible refine (CC.out _ B1.out).mono ?_); rintro x w2 ⟨rfl, hb⟩; clear x0 x1 x2 x3 x4 x5; have B2 := hid (B1.out.trans (hb.mono B1.out.size)); have E2 := hid (obj_keep E1.out hb); have Z2 := hid ((hb.block _ (lt_of_block Z1.out)).trans Z1.out); clear hb E1 Z1; obtain ⟨⟨x0, x1, x2, x3, x4, x5⟩, _⟩ := six_free E2.out)
    | (go_at_call 72; (with_reducible refine (CN.out _ B2.out).mono ?_); rintro x w3 ⟨rfl, hb⟩; clear x0 x1 x2 x3 x4 x5; have B3 := hid (B2.out.trans (hb.mono B2.out.size)); have E3 := hid (obj_keep E2.out hb); have Z3 := hid ((hb.block _ (lt_of_block Z2.out)).trans Z2.out); clear hb E2 Z2; obtain ⟨⟨x0, x1, x2, x3, x4, x5⟩, _⟩ := six_free E3.out)
    | fail)
  go_loopw [7, 8] (fun n i wr => ∃ (k : Nat) (m : Int), k ≤ l.length ∧ i = .int .i64 (k : Int) ∧ n = .int .i64 m ∧ Hid ((m = (tot l e k : Int) ∧ tot l e k ≤ 4000) ∨ (4000 < m ∧ m ≤ 8100 ∧ 4000 < tot l e k)) ∧ Hid (Below w3.heap.size w3 wr)) (fun _ i _ => l.length - (intOf i).toNat)
  case atStart =>
    refine ⟨0, _, by omega, rfl, rfl, hid ?_, hid (Below.refl _ _)⟩
    rw [tot_zero]
    rcases capped_cases (nodes e) with ⟨h, h'⟩ | ⟨h, h'⟩ <;> rw [h'] <;> omega
  case round =>
    obtain ⟨k, m, hk, rfl, rfl, HT, hBr⟩ := hrel
    have hBw := hid (B3.out.trans (hBr.out.mono B3.out.size))
    by_cases hlk : k < l.length
    · have hk0 : (0 : Int) ≤ (k : Int) := by omega
      have hk1 : (k : Int) < (l.length : Int) := by omega
      by_cases hm : m ≤ 4000
      · have HA := hid (show m = (tot l e k : Int) ∧ tot l e k ≤ 4000 by rcases HT.out with h | h; exact h; omega)
        obtain ⟨b, o, rfl, e1, c1, hs1, ht1⟩ := (HL.out.keep hBw.out).get k hlk
        have hm0 : 0 ≤ m := by have := HA.out.1; omega
        have HTS := hid (tot_succ l e k hlk)
        have HCN := hid (nodesR_any l[k] e1 c1 wr ht1)
        clear ht1
        generalize l[k] = t1 at *
        obtain ⟨g0, g1, g2, g3, g4, g5⟩ := hs1
        obtain ⟨cn, hcn⟩ : ∃ cn, cn = capped (nodes t1) 4001 := ⟨_, rfl⟩
        rw [← hcn] at HCN
        have hcb : 0 ≤ cn ∧ cn ≤ 4001 := by rw [hcn]; rcases capped_cases (nodes t1) with ⟨h, h'⟩ | ⟨h, h'⟩ <;> rw [h'] <;> omega
        have HCC := hid hcn
        clear hcn
        unfold Tm.val at HCN
        go_wp2_with (first
          | (go_at_call 72; (with_reducible refine HCN.out.mono ?_); rintro x w5 ⟨rfl, hb5⟩; have B5 := hid hb5; clear hb5)
          | fail)
        go_roundw
        case rel =>
          refine ⟨k + 1, m + 1 + cn, by omega, by go_num, rfl, hid ?_, hid (hBr.out.trans (B5.out.mono hBr.out.size))⟩
          rw [HTS.out, HCC.out]
          have h1 := HA.out
          rcases capped_cases (nodes t1) with ⟨h, h'⟩ | ⟨h, h'⟩ <;> rw [h'] <;> omega
        case measure => simp [intOf]; omega
      · have HA := hid (show 4000 < m ∧ m ≤ 8100 ∧ 4000 < tot l e k by rcases HT.out with h | h; omega; exact h)
        have hm2 : (4000 : Int) < m := by omega
        have HF := hid (tot_mono l e (Nat.le_of_lt hlk))
        have Z4 := hid ((hBr.out.block _ (lt_of_block Z3.out)).trans Z3.out)
        obtain ⟨⟨z0, z1, z2, z3, z4, z5⟩, ⟨f0, f1, f2, f3, f4, f5⟩⟩ := six_free Z4.out
        go_wp2_with fail
        have h6 := set6 Z4.out (.int .i64 0) (.string ⟨#[]⟩) (.string ⟨#[]⟩) (.int .u64 0) (.int .i64 0) (.slice none 0 0)
        exact bodyPost_ret (results_pair (b := w.heap.size + 1) (t := leaf 0 ⟨#[]⟩ ⟨#[]⟩ 0) (q := none) (cap := 0) rfl _ _ (.int .i64 24) ⟨by rfl, by rfl⟩ h6) rfl ⟨rfl, set6_below hBw.out (by omega) _ _ _ _ _ _⟩
    · obtain rfl : k = l.length := by omega
      by_cases hm : m ≤ 4000
      · have HA := hid (show m = (tot l e l.length : Int) ∧ tot l e l.length ≤ 4000 by rcases HT.out with h | h; exact h; omega)
        exact absurd HTT.out (by have := HA.out; omega)
      · have HA := hid (show 4000 < m ∧ m ≤ 8100 ∧ 4000 < tot l e l.length by rcases HT.out with h | h; omega; exact h)
        have hm2 : (4000 : Int) < m := by omega
        have HF := hid (Nat.le_refl (tot l e l.length))
        have Z4 := hid ((hBr.out.block _ (lt_of_block Z3.out)).trans Z3.out)
        obtain ⟨⟨z0, z1, z2, z3, z4, z5⟩, ⟨f0, f1, f2, f3, f4, f5⟩⟩ := six_free Z4.out
        go_wp2_with fail
        have h6 := set6 Z4.out (.int .i64 0) (.string ⟨#[]⟩) (.string ⟨#[]⟩) (.int .u64 0) (.int .i64 0) (.slice none 0 0)
        exact bodyPost_ret (results_pair (b := w.heap.size + 1) (t := leaf 0 ⟨#[]⟩ ⟨#[]⟩ 0) (q := none) (cap := 0) rfl _ _ (.int .i64 24) ⟨by rfl, by rfl⟩ h6) rfl ⟨rfl, set6_below hBw.out (by omega) _ _ _ _ _ _⟩
set_option maxRecDepth 100000 in
set_option maxHeartbeats 16000000 in
theorem listR_good (l : List Tm) (e : Tm) (pl pe : Option Addr) (cl ce : Nat) (w : World) (hl : ListAt w l pl) (he : TmAt w e pe) (hD : AllR DomA l) (hDe : AllT DomA e) (hlm : l.length ≤ maxLen) (h1 : checksErr vName numOk bitsOk l = 0) (h2 : checkErr vName numOk bitsOk e = 0) (h3 : tot l e l.length ≤ 4000) (hcl : ∀ k (h : k < l.length), AllT CpOk l[k]) (hce : AllT CpOk e) :
    Calls Tryz.prog 29 #[.slice pl l.length cl, e.val pe ce] w fun x w' => ∃ q c S, x = .returned (.tuple #[(listT l e).val q c, .int .i64 0]) ∧ MineT w' (listT l e) q c S ∧ (∀ k ∈ S, w.heap.size ≤ k) ∧ Below w.heap.size w w' := by
  have HL := hid hl
  have HE := hid he
  obtain ⟨W0, hW0⟩ : ∃ W0, W0 = (w.alloc (.cells #[.int .i64 e.kind, .string e.name, .string e.num, .int .u64 e.bits, .int .i64 e.var, .slice pe e.args.length ce] 25)).alloc (.cells #[.int .i64 0, .string ⟨#[]⟩, .string ⟨#[]⟩, .int .u64 0, .int .i64 0, .slice none 0 0] 25) := ⟨_, rfl⟩
  have B0 := hid (show Below w.heap.size w W0 by rw [hW0]; exact ((Below.refl w.heap.size w).alloc (Nat.le_refl _) _).alloc (by simp) _)
  have E0 := hid (show W0.heap[w.heap.size]? = some (.cells #[.int .i64 e.kind, .string e.name, .string e.num, .int .u64 e.bits, .int .i64 e.var, .slice pe e.args.length ce] 25 (0, 0)) by rw [hW0]; exact (heap_alloc_old (w.alloc _) _ (by simp)).trans (heap_alloc_new w _))
  have Z0 := hid (show W0.heap[w.heap.size + 1]? = some (.cells #[.int .i64 0, .string ⟨#[]⟩, .string ⟨#[]⟩, .int .u64 0, .int .i64 0, .slice none 0 0] 25 (0, 0)) by
    rw [hW0]
    have h := heap_alloc_new (w.alloc (.cells #[.int .i64 e.kind, .string e.name, .string e.num, .int .u64 e.bits, .int .i64 e.var, .slice pe e.args.length ce] 25)) (.cells #[.int .i64 0, .string ⟨#[]⟩, .string ⟨#[]⟩, .int .u64 0, .int .i64 0, .slice none 0 0] 25)
    rwa [World.size_alloc] at h)
  have hW0' : W0 = (w.alloc (.cells #[.int .i64 e.kind, .string e.name, .string e.num, .int .u64 e.bits, .int .i64 e.var, .slice pe e.args.length ce] 25)).alloc (.cells #[.int .i64 0, .string ⟨#[]⟩, .string ⟨#[]⟩, .int .u64 0, .int .i64 0, .slice none 0 0] 25) := hW0
  clear hW0
  have CK := hid (fun (W : World) (h : Below w.heap.size w W) => checksR_any l pl cl W hlm (hl.keep h) hD)
  have CC := hid (fun (W : World) (h : Below w.heap.size w W) => checkR_any vName numOk bitsOk DomA e pe ce W (he.keep h) (oracleRA _) hDe)
  have CN := hid (fun (W : World) (h : Below w.heap.size w W) => nodesR_any e pe ce W (he.keep h))
  have CL := hid (fun (W : World) (h : Below w.heap.size w W) => listed_any l e pl pe cl ce W (hl.keep h) (he.keep h) hcl hce (by unfold tot at h3; omega))
  rw [h1] at CK
  rw [h2] at CC
  have HTT := hid h3
  unfold maxLen at hlm
  obtain ⟨m0, hm0⟩ : ∃ m0, m0 = capped (nodes e) 4001 := ⟨_, rfl⟩
  unfold Tm.val at CC CN CL
  unfold Tm.val
  clear hl he hD hDe h1 h2 h3
  clear hm0
  go_enter Tryz.func29, Tryz.ntmps29
  go_wp2_with (first
    | (go_at_call 48; rw [← hW0']; (with_reducible refine (CK.out _ B0.out).mono ?_); rintro x w1 ⟨rfl, hb⟩; have B1 := hid (B0.out.trans (hb.mono B0.out.size)); have E1 := hid (obj_keep E0.out hb); have Z1 := hid ((hb.block _ (lt_of_block Z0.out)).trans Z0.out); clear hb E0 Z0; obtain ⟨⟨x0, x1, x2, x3, x4, x5⟩, _⟩ := six_free E1.out; clear hW0')
    | (go_at_call 31; (with_reducible refine (CC.out _ B1.out).mono ?_); rintro x w2 ⟨rfl, hb⟩; clear x0 x1 x2 x3 x4 x5; have B2 := hid (B1.out.trans (hb.mono B1.out.size)); have E2 := hid (obj_keep E1.out hb); have Z2 := hid ((hb.block _ (lt_of_block Z1.out)).trans Z1.out); clear hb E1 Z1; obtain ⟨⟨x0, x1, x2, x3, x4, x5⟩, _⟩ := six_free E2.out)
    | (go_at_call 72; (with_reducible refine (CN.out _ B2.out).mono ?_); rintro x w3 ⟨rfl, hb⟩; clear x0 x1 x2 x3 x4 x5; have B3 := hid (B2.out.trans (hb.mono B2.out.size)); have E3 := hid (obj_keep E2.out hb); have Z3 := hid ((hb.block _ (lt_of_block Z2.out)).trans Z2.out); clear hb E2 Z2; obtain ⟨⟨x0, x1, x2, x3, x4, x5⟩, _⟩ := six_free E3.out)
    | fail)
  go_loopw [7, 8] (fun n i wr => ∃ (k : Nat) (m : Int), k ≤ l.length ∧ i = .int .i64 (k : Int) ∧ n = .int .i64 m ∧ Hid ((m = (tot l e k : Int) ∧ tot l e k ≤ 4000) ∨ (4000 < m ∧ m ≤ 8100 ∧ 4000 < tot l e k)) ∧ Hid (Below w3.heap.size w3 wr)) (fun _ i _ => l.length - (intOf i).toNat)
  case atStart =>
    refine ⟨0, _, by omega, rfl, rfl, hid ?_, hid (Below.refl _ _)⟩
    rw [tot_zero]
    rcases capped_cases (nodes e) with ⟨h, h'⟩ | ⟨h, h'⟩ <;> rw [h'] <;> omega
  case round =>
    obtain ⟨k, m, hk, rfl, rfl, HT, hBr⟩ := hrel
    have hBw := hid (B3.out.trans (hBr.out.mono B3.out.size))
    by_cases hlk : k < l.length
    · have hk0 : (0 : Int) ≤ (k : Int) := by omega
      have hk1 : (k : Int) < (l.length : Int) := by omega
      by_cases hm : m ≤ 4000
      · have HA := hid (show m = (tot l e k : Int) ∧ tot l e k ≤ 4000 by rcases HT.out with h | h; exact h; omega)
        obtain ⟨b, o, rfl, e1, c1, hs1, ht1⟩ := (HL.out.keep hBw.out).get k hlk
        have hm0 : 0 ≤ m := by have := HA.out.1; omega
        have HTS := hid (tot_succ l e k hlk)
        have HCN := hid (nodesR_any l[k] e1 c1 wr ht1)
        clear ht1
        generalize l[k] = t1 at *
        obtain ⟨g0, g1, g2, g3, g4, g5⟩ := hs1
        obtain ⟨cn, hcn⟩ : ∃ cn, cn = capped (nodes t1) 4001 := ⟨_, rfl⟩
        rw [← hcn] at HCN
        have hcb : 0 ≤ cn ∧ cn ≤ 4001 := by rw [hcn]; rcases capped_cases (nodes t1) with ⟨h, h'⟩ | ⟨h, h'⟩ <;> rw [h'] <;> omega
        have HCC := hid hcn
        clear hcn
        unfold Tm.val at HCN
        go_wp2_with (first
          | (go_at_call 72; (with_reducible refine HCN.out.mono ?_); rintro x w5 ⟨rfl, hb5⟩; have B5 := hid hb5; clear hb5)
          | fail)
        go_roundw
        case rel =>
          refine ⟨k + 1, m + 1 + cn, by omega, by go_num, rfl, hid ?_, hid (hBr.out.trans (B5.out.mono hBr.out.size))⟩
          rw [HTS.out, HCC.out]
          have h1 := HA.out
          rcases capped_cases (nodes t1) with ⟨h, h'⟩ | ⟨h, h'⟩ <;> rw [h'] <;> omega
        case measure => simp [intOf]; omega
      · have HA := hid (show 4000 < m ∧ m ≤ 8100 ∧ 4000 < tot l e k by rcases HT.out with h | h; omega; exact h)
        have hm2 : (4000 : Int) < m := by omega
        have HF := hid (tot_mono l e (Nat.le_of_lt hlk))
        exact absurd HTT.out (by have := HA.out; have := HF.out; omega)
    · obtain rfl : k = l.length := by omega
      by_cases hm : m ≤ 4000
      · have HA := hid (show m = (tot l e l.length : Int) ∧ tot l e l.length ≤ 4000 by rcases HT.out with h | h; exact h; omega)
        have E4 := hid (obj_keep E3.out hBr.out)
        have Z4 := hid ((hBr.out.block _ (lt_of_block Z3.out)).trans Z3.out)
        clear x0 x1 x2 x3 x4 x5
        obtain ⟨⟨x0, x1, x2, x3, x4, x5⟩, _⟩ := six_free E4.out
        have hm3 : ¬ (4000 : Int) < m := by omega
        have CL2 := hid (CL.out wr hBw.out)
        go_wp2_with (first
          | (go_at_call 73; (with_reducible refine CL2.out.mono ?_); rintro x w6 ⟨q, c, S, rfl, hm, hS, hb6⟩; have HM := hid hm; have HS := hid hS; have B6 := hid hb6; have Z6 := hid ((hb6.block _ (lt_of_block Z4.out)).trans Z4.out); clear hb6 hm hS; obtain ⟨⟨z0, z1, z2, z3, z4, z5⟩, ⟨f0, f1, f2, f3, f4, f5⟩⟩ := six_free Z6.out)
          | fail)
        have h6 := set6 Z6.out (.int .i64 (listT l e).kind) (.string (listT l e).name) (.string (listT l e).num) (.int .u64 (listT l e).bits) (.int .i64 (listT l e).var) (.slice q (listT l e).args.length c)
        have hg := set6_grown w6 (w.heap.size + 1) (.int .i64 (listT l e).kind) (.string (listT l e).name) (.string (listT l e).num) (.int .u64 (listT l e).bits) (.int .i64 (listT l e).var) (.slice q (listT l e).args.length c)
        have hz4 := lt_of_block Z4.out
        exact bodyPost_ret (results_pair (b := w.heap.size + 1) (t := listT l e) (q := q) (cap := c) rfl _ _ (.int .i64 0) ⟨by rfl, by rfl⟩ h6) rfl ⟨q, c, S, rfl, HM.out.same fun x hx => hg.block x (HM.out.lt x hx) (fun e => by have := HS.out x hx; have := Option.some.inj e; omega), fun x hx => by have := HS.out x hx; omega, set6_below (hBw.out.trans (B6.out.mono hBw.out.size)) (by omega) _ _ _ _ _ _⟩
      · have HA := hid (show 4000 < m ∧ m ≤ 8100 ∧ 4000 < tot l e l.length by rcases HT.out with h | h; omega; exact h)
        have hm2 : (4000 : Int) < m := by omega
        have HF := hid (Nat.le_refl (tot l e l.length))
        exact absurd HTT.out (by have := HA.out; have := HF.out; omega)
end Go.Proofs.YtkapejcbmonfkaaGreatDoor

namespace Go.Proofs.YtkapejcbmonfkaaGreatDoor
open Go.RowKit

/-- A row of terms whose block one owns, whatever it holds. -/
def RowOk (w : World) (q : Option Addr) (n c : Nat) : Prop := (q = none ∧ n = 0 ∧ c = 0) ∨ ∃ g arr, q = some ⟨g, 0, none⟩ ∧ w.heap[g]? = some (.cells arr 25 (0, 0)) ∧ arr.size = c * 6 ∧ n ≤ c ∧ c ≤ maxLen
theorem RowOk.at_ {w : World} {q : Option Addr} {n c g : Nat} (h : RowOk w q n c) (e : (Value.slice q n c).ownBlock = some g) : q = some ⟨g, 0, none⟩ := by
  rcases h with ⟨rfl, rfl, rfl⟩ | ⟨g', arr, rfl, _⟩
  · simp [Value.ownBlock] at e
  · have : g' = g := by simpa [Value.ownBlock] using e
    rw [this]
/-- The blocks that a list owns. -/
def foot (q : Option Addr) (S : List Nat) : List Nat := match q with | some a => a.block :: S | none => S
/-- A list of terms in memory of its own. -/
structure ListM (w : World) (q : Option Addr) (n c : Nat) (l : List Tm) (S : List Nat) : Prop where
  len : n = l.length
  row : RowOk w q n c
  mine : ∀ g, q = some ⟨g, 0, none⟩ → g ∉ S ∧ MineR w l g 0 S
  lt : ∀ x ∈ foot q S, x < w.heap.size
theorem MineL.listM {w : World} {B : Nat} {q : Option Addr} {n c : Nat} {L : Row} {S : List Nat} (h : MineL w B q n c L S) : ListM w q n c (L.map (·.1)) S := by
  refine ⟨by rw [List.length_map, h.length], ?_, fun g hg => ?_, fun x hx => ?_⟩
  · rcases h.rowR with ⟨_, h1, h2, _, h3⟩ | ⟨b, arr, h1, _, h2, h3, h4, h5, _⟩
    · exact .inl ⟨h1, h3, h2⟩
    · exact .inr ⟨b, arr, h1, h3, h4, h5.1, h5.2⟩
  · rcases h.rowR with ⟨_, h1, _⟩ | ⟨b, arr, h1, _, h2, h3, h4, h5, h6⟩
    · rw [h1] at hg; cases hg
    · rw [h1] at hg
      cases hg
      exact ⟨h2, h6⟩
  · unfold foot at hx
    cases q with
    | none => exact h.own.lt x hx
    | some a =>
      rcases List.mem_cons.1 hx with rfl | hx
      · exact ownBlock_lt h.row rfl
      · exact h.own.lt x hx
theorem Chg.grown {S : List Nat} {w w1 w2 : World} {row : Option Nat} (h : Chg S w w1) (hg : w1.grownBy w2 row) (hr : ∀ x, row = some x → w.heap.size ≤ x ∨ x ∈ S) : Chg S w w2 :=
  ⟨hg.os.trans h.os, hg.tape.trans h.tape, hg.output.trans h.output, Nat.le_trans h.size hg.size, fun x hx hn => (hg.block x (Nat.lt_of_lt_of_le hx h.size) (fun e => by
    rcases hr x e.symm with k | k
    · omega
    · exact hn k)).trans (h.same x hx hn)⟩
set_option maxRecDepth 100000 in
set_option maxHeartbeats 8000000 in
theorem again_any (l lb lw : List Tm) (q pb pw : Option Addr) (n c cb cw : Nat) (S : List Nat) (w : World) (hA : ListM w q n c l S) (hln : n ≤ 4000) (hlb : lb.length ≤ maxLen) (hlw : lw.length ≤ maxLen)
    (hb : ∀ W, Chg (foot q S) w W → ListAt W lb pb) (hw : ∀ W, Chg (foot q S) w W → ListAt W lw pw) (ha : ListAt w l q) :
    Calls Tryz.prog 19 #[.slice q n c, .slice pb lb.length cb, .slice pw lw.length cw] w fun e w' => e = .returned (.bool (eqL l lw && eqL lb lw)) ∧ Chg (foot q S) w w' := by
  have HB := hid hb
  have HW := hid hw
  have HL := hid hA.len
  have HM := hid hA.mine
  have HR := hid hA.row
  have HLT := hid hA.lt
  have hn : (n : Int) ≤ 4000 := by omega
  have CA := hid (show Calls Tryz.prog 39 #[.slice q n c, .slice pw lw.length cw] w fun e w' => e = .returned (.bool (eqL l lw)) ∧ Below w.heap.size w w' by
    have h := sameList_any l lw q pw c cw w ha (hw w (Chg.refl _ _)) (by have := HL.out; unfold maxLen; omega) hlw
    rwa [← HL.out] at h)
  have CB := hid (fun W (h : Chg (foot q S) w W) => sameList_any lb lw pb pw cb cw W (hb W h) (hw W h) hlb hlw)
  generalize eqL l lw = r1 at *
  generalize eqL lb lw = r2 at *
  clear hA hb hw ha hlb hlw
  obtain ⟨FA, hFA⟩ : ∃ FA, FA = foot q S := ⟨_, rfl⟩
  rw [← hFA] at HB HW HLT CB ⊢
  have HF := hid hFA
  clear hFA
  go_enter Tryz.func19, Tryz.ntmps19
  go_wp2_with (first
    | (go_at_call 39; (with_reducible refine CA.out.mono ?_); rintro e w1 ⟨rfl, hb1⟩; have B1 := hid hb1; clear hb1 CA)
    | fail)
  have C1 := hid (show Chg FA w w1 from Chg.of_below B1.out)
  have R1 := hid (show RowOk w1 q n c by
    rcases HR.out with h | ⟨g, arr, e, h1, h2⟩
    · exact .inl h
    · exact .inr ⟨g, arr, e, (B1.out.block g (lt_of_block h1)).trans h1, h2⟩)
  have M1 := hid (show ∀ g, q = some ⟨g, 0, none⟩ → ∃ S2, MineR w1 (l.drop 0) g (0 * 6) S2 ∧ ∀ x ∈ S2, x ∈ S from fun g e => ⟨S, by
    rw [Nat.zero_mul]
    have hg : g < w.heap.size := HLT.out g (by rw [HF.out, e]; simp [foot])
    exact (HM.out g e).2.same (B1.out.block g hg) fun x hx => B1.out.block x (HLT.out x (by rw [HF.out, e]; simp [foot, hx])), fun x hx => hx⟩)
  go_loopw [8] (fun i wr => ∃ (k : Nat), k ≤ n ∧ i = .int .i64 (k : Int) ∧ Hid (RowOk wr q n c) ∧ Hid (∀ g, q = some ⟨g, 0, none⟩ → ∃ S2, MineR wr (l.drop k) g (k * 6) S2 ∧ ∀ x ∈ S2, x ∈ S) ∧ Hid (Chg FA w wr)) (fun i _ => n - (intOf i).toNat)
  case atStart => exact ⟨0, by omega, rfl, R1, M1, C1⟩
  case round =>
    clear R1 M1 C1
    obtain ⟨k, hk, rfl, R1, M1, C1⟩ := hrel
    by_cases hlk : k < n
    · have hk0 : (0 : Int) ≤ (k : Int) := by omega
      have hk1 : (k : Int) < (n : Int) := by omega
      rcases R1.out with ⟨-, h0, -⟩ | ⟨g, arr, rfl, hg, hsz, hnc, hcm⟩
      · omega
      obtain ⟨S2, hR, hS2⟩ := M1.out g rfl
      have hkl : k < l.length := by have := HL.out; omega
      obtain ⟨p1, c1, SA, SB, rfl, hd, hs1, hm1, hr1⟩ := MineR.head k hkl hR
      have hgS := hid (HM.out g rfl).1
      have HCALL := hid (marked_any (nodes l[k]) l[k] p1 c1 SA ⟨#[109, 105, 110, 101]⟩ wr (Nat.le_refl _) hm1)
      have HD := hid hd
      have HR1 := hid hr1
      have HTL := hid (And.intro hm1.lt hr1.lt)
      have HSS := hid hS2
      have PB := hid hg
      have HSZ := hid hsz
      have HNC := hid (And.intro hnc hcm)
      clear hd hr1 hm1 hR hS2 hg hsz hnc hcm
      generalize l[k] = t1 at *
      unfold Tm.val at HCALL
      obtain ⟨g0, g1, g2, g3, g4, g5⟩ := hs1
      go_wp2_with (first
        | (go_at_call 26; (with_reducible refine HCALL.out.mono ?_); rintro e w2 ⟨⟨v, rfl⟩, hc2⟩; have C2 := hid hc2; have hbA : g ∉ SA := (fun h => hgS.out (HSS.out g (by simp [h]))); have QB := hid ((hc2.same _ (lt_of_block PB.out) hbA).trans PB.out); clear hc2 g0 g1 g2 g3 g4 g5; have ha6 : k * 6 + 6 ≤ arr.size := (by have := HSZ.out; have := HNC.out.1; omega); have f2 : ∀ j, w2.frozen? ⟨g, j, none⟩ = false := fun j => (by simp [World.frozen?, QB.out]); have g2 : ∀ j, j < 6 → ∃ v, w2.cell? ⟨g, k * 6 + j, none⟩ = some v := fun j hj => ⟨arr[k * 6 + j], by rw [cells_of QB.out]; exact Array.getElem?_eq_getElem (by omega)⟩; obtain ⟨v0, y0'⟩ := g2 0 (by omega); have y0 : w2.cell? ⟨g, k * 6, none⟩ = some v0 := y0'; obtain ⟨v1, y1⟩ := g2 1 (by omega); obtain ⟨v2, y2⟩ := g2 2 (by omega); obtain ⟨v3, y3⟩ := g2 3 (by omega); obtain ⟨v4, y4⟩ := g2 4 (by omega); obtain ⟨v5, y5⟩ := g2 5 (by omega); have r0 := f2 (k * 6); have r1 := f2 (k * 6 + 1); have r2 := f2 (k * 6 + 2); have r3 := f2 (k * 6 + 3); have r4 := f2 (k * 6 + 4); have r5 := f2 (k * 6 + 5); have HA6 := hid ha6; clear f2 g2 y0' ha6)
        | fail)
      go_roundw
      case rel =>
        obtain ⟨W9, h9⟩ : ∃ W9, W9 = (((((w2.setCell ⟨g, k * 6, none⟩ (.int .i64 (-1))).setCell ⟨g, k * 6 + 1, none⟩ (.string ⟨#[]⟩)).setCell ⟨g, k * 6 + 2, none⟩ (.string ⟨#[]⟩)).setCell ⟨g, k * 6 + 3, none⟩ (.int .u64 0)).setCell ⟨g, k * 6 + 4, none⟩ (.int .i64 0)).setCell ⟨g, k * 6 + 5, none⟩ (.slice none 0 0) := ⟨_, rfl⟩
        rw [← h9]
        obtain ⟨gr9, arr', e9, es, eo, -⟩ := put6 QB.out HA6.out _ _ _ _ _ _ W9 h9
        have hold : ∀ x, x < w2.heap.size → x ≠ g → W9.heap[x]? = w2.heap[x]? := fun x hx hne => gr9.block x hx (fun e => hne (Option.some.inj e))
        refine ⟨k + 1, by omega, by go_num, hid (.inr ⟨g, arr', rfl, e9, es.trans HSZ.out, HNC.out.1, HNC.out.2⟩), hid (fun g' e => ?_), hid ?_⟩
        · cases e
          refine ⟨SB, HR1.out.cells (fun j hj => ?_) fun x hx => ?_, fun x hx => HSS.out x (by simp [hx])⟩
          · rw [cells_of e9, eo _ (by omega), ← cells_of QB.out, show (k + 1) * 6 + j = k * 6 + 6 + j by omega]
            exact World.cell?_of_block (a := ⟨g, k * 6 + 6 + j, none⟩) (C2.out.same g (lt_of_block PB.out) (fun h => hgS.out (HSS.out g (by simp [h]))))
          · have hl := HTL.out.2 x hx
            exact (hold x (Nat.lt_of_lt_of_le hl C2.out.size) (fun e => hgS.out (HSS.out g (by rw [← e]; simp [hx])))).trans (C2.out.same x hl fun h => HD.out x h hx)
        · have hin : ∀ x ∈ SA, x ∈ FA := fun x hx => by rw [HF.out]; exact List.mem_cons_of_mem _ (HSS.out x (by simp [hx]))
          exact (C1.out.trans (C2.out.mono hin)).grown gr9 (fun x e => by cases e; right; rw [HF.out]; simp [foot])
      case measure => simp [intOf]; omega
    · obtain rfl : k = n := by omega
      clear M1
      go_wp2_with fail
      have R1' := hid (show RowOk wr q (k + 0) c from R1.out)
      have O1 := hid (show ∀ g, q = some ⟨g, 0, none⟩ → w.heap.size ≤ g ∨ g ∈ FA from fun g e => .inr (by rw [HF.out, e]; simp [foot]))
      obtain ⟨ws, rfl⟩ : ∃ ws : World, ws = wr := ⟨_, rfl⟩
      go_loopw [0, 9] (fun a i wr => ∃ (j : Nat) (q' : Option Addr) (c' : Nat), j ≤ 5 ∧ i = .int .i64 (j : Int) ∧ a = .slice q' (k + j) c' ∧ Hid (RowOk wr q' (k + j) c') ∧ Hid (∀ g, q' = some ⟨g, 0, none⟩ → w.heap.size ≤ g ∨ g ∈ FA) ∧ Hid (Chg FA w wr)) (fun _ i _ => 5 - (intOf i).toNat)
      case atStart => exact ⟨0, q, c, by omega, rfl, rfl, R1', O1, C1⟩
      case round =>
        clear R1' O1 C1 R1
        obtain ⟨j, q', c', hj, rfl, rfl, R1, O1, C1⟩ := hrel
        by_cases hj5 : j < 5
        · have hj0 : (j : Int) < 5 := by omega
          go_wp2_with (at_builtin; refine wpList_app_row _ rfl _ _ rfl ?_; refine ⟨q', k + j, c', wr.heap.size, 1, #[.int .i64 (-2), .string ⟨#[]⟩, .string ⟨#[]⟩, .int .u64 0, .int .i64 0, .slice none 0 0], rfl, rfl, World.alloc_heap_new wr _, rfl, by intro u hu; simp at hu; rcases hu with rfl | rfl | rfl | rfl | rfl | rfl <;> rfl, by decide, by omega, ?_, ?_⟩; exact (R1.out.imp id (fun ⟨g, arr, e, h1, h2⟩ => ⟨g, arr, e, (heap_alloc_old wr _ (lt_of_block h1)).trans h1, h2⟩)); intro g c5 w5 arr' hgrow hat hg ha hn hc; have C5 := hid (show Chg FA w w5 from (C1.out.trans (Chg.of_below ((Below.refl wr.heap.size wr).alloc (Nat.le_refl _) _))).grown hgrow (fun x e => O1.out x (R1.out.at_ e))); have R5 := hid (show RowOk w5 (some ⟨g, 0, none⟩) (k + (j + 1)) c5 from .inr ⟨g, arr', rfl, hg, ha, by omega, hc⟩); have O5 := hid (show ∀ g', (some (⟨g, 0, none⟩ : Addr)) = some ⟨g', 0, none⟩ → w.heap.size ≤ g' ∨ g' ∈ FA from fun g' e => (by cases e; exact hat.elim (fun h => O1.out g (R1.out.at_ h)) (fun h => .inl (by rw [h, World.size_alloc]; have := C1.out.size; omega)))); clear hgrow hat hg ha hn hc)
          go_roundw
          case rel => exact ⟨j + 1, some ⟨g, 0, none⟩, c5, by omega, by go_num, rfl, R5, O5, C5⟩
          case measure => simp [intOf]; omega
        · obtain rfl : j = 5 := by omega
          have CC := hid (CB.out wr C1.out)
          clear CB
          cases r1
          · go_wp2_with fail
            go_ret
            exact ⟨rfl, C1.out⟩
          · go_wp2_with (go_at_call 39; (with_reducible refine CC.out.mono ?_); rintro e w6 ⟨rfl, hb6⟩; have B6 := hid hb6; clear hb6)
            go_ret
            exact ⟨rfl, C1.out.trans (Chg.of_below B6.out)⟩
end Go.Proofs.YtkapejcbmonfkaaGreatDoor

namespace Go.Proofs.YtkapejcbmonfkaaGreatDoor
open Go.RowKit

/-- A slice's length. -/
def lenS : Value → Nat | .slice _ n _ => n | _ => 0
theorem results_mid {fn : Func} {a p u : Tmp} {b : Nat} {t : Tm} {q : Option Addr} {cap : Nat} (h : fn.results = #[.tmp a, .cell p 25, .tmp u]) (tmps : Array Value) (W : World) (x y : Value) (hp : tmps.getD a undef = x ∧ tmps.getD p undef = .pointer (some ⟨b, 0, none⟩) ∧ tmps.getD u undef = y) (hg : W.heap[b]? = some (tobj t q cap)) :
    (results fn tmps).run Tryz.prog W = .ok (.tuple #[x, t.val q cap, y]) W := by
  have hl := run_loadVar_row (P := Tryz.prog) W b 25 25 _ _ _ hg Tryz.underlying25 rfl (by kernel_rfl)
  obtain ⟨h1, h2, h3⟩ := hp
  have h1' : tmps[a]?.getD undef = x := by simpa using h1
  have h2' : tmps[p]?.getD undef = .pointer (some ⟨b, 0, none⟩) := by simpa using h2
  have h3' : tmps[u]?.getD undef = y := by simpa using h3
  simp [results, h, h1', h2', h3', asAddr, Sem.run_bind, Result.andThen, hl, Tm.val]
/-- Some elements and a rest, in memory of their own. -/
structure ElemsAt (B : Nat) (w' : World) (t : Tm) (v : Value) (y : Value) (L : Row) (S S2 : List Nat) : Prop where
  list : ∃ q k c, v = .slice q k c ∧ MineL w' B q k c L S ∧ (∀ x ∈ S2, (Value.slice q k c).ownBlock ≠ some x)
  rest : ∃ r c, y = (elems t).2.val r c ∧ MineT w' (elems t).2 r c S2
  apart : ∀ x ∈ S, x ∉ S2
  low : ∀ x ∈ S2, B ≤ x
  same : L.map (·.1) = (elems t).1
set_option maxRecDepth 100000 in
set_option maxHeartbeats 8000000 in
theorem elements_good (t : Tm) (p : Option Addr) (cap : Nat) (w : World) (hT : TmAt w t p) (hV : Valid t) (hX : Utf w) :
    Calls Tryz.prog 30 #[t.val p cap] w fun e w' => ∃ v y L S S2, e = .returned (.tuple #[v, y, .int .i64 0]) ∧ ElemsAt w.heap.size w' t v y L S S2 ∧ Below w.heap.size w w' := by
  obtain ⟨W0, hW0⟩ : ∃ W0, W0 = (w.alloc (.cells #[.int .i64 t.kind, .string t.name, .string t.num, .int .u64 t.bits, .int .i64 t.var, .slice p t.args.length cap] 25)).alloc (.cells #[.int .i64 0, .string ⟨#[]⟩, .string ⟨#[]⟩, .int .u64 0, .int .i64 0, .slice none 0 0] 25) := ⟨_, rfl⟩
  have hB := hid (show Below w.heap.size w W0 by rw [hW0]; exact ((Below.refl w.heap.size w).alloc (Nat.le_refl _) _).alloc (by simp) _)
  have P0 := hid (show W0.heap[w.heap.size]? = some (tobj t p cap) by rw [hW0]; exact (heap_alloc_old (w.alloc _) _ (by simp)).trans (heap_alloc_new w _))
  have P1 := hid (show W0.heap[w.heap.size + 1]? = some (.cells #[.int .i64 0, .string ⟨#[]⟩, .string ⟨#[]⟩, .int .u64 0, .int .i64 0, .slice none 0 0] 25 (0, 0)) by
    rw [hW0]
    have h := heap_alloc_new (w.alloc (.cells #[.int .i64 t.kind, .string t.name, .string t.num, .int .u64 t.bits, .int .i64 t.var, .slice p t.args.length cap] 25)) (.cells #[.int .i64 0, .string ⟨#[]⟩, .string ⟨#[]⟩, .int .u64 0, .int .i64 0, .slice none 0 0] 25)
    rwa [World.size_alloc] at h)
  have hlt := hT.len
  unfold maxLen at hlt
  have CK := hid (show Calls Tryz.prog 45 #[t.val p cap] W0 fun e w' => e = .returned (.int .i64 0) ∧ Below W0.heap.size W0 w' by
    have h := check_any vName numOk bitsOk DomA t p cap W0 (hT.keep hB.out) (oracleA _ (hX.keep hB.out)) hV.1
    rwa [hV.2] at h)
  have HT := hid hT
  have HC := hid hV.good.cp
  have HF := hid (show nodes t ≤ 4000 by
    have h := hV.2
    unfold checkErr at h
    split at h
    · cases h
    · omega)
  obtain ⟨i0, hi, hz0, hz1, hz2⟩ := info_parts infoTerm
  unfold Tm.val at CK ⊢
  clear hT hV hX
  go_enter Tryz.func30, Tryz.ntmps30
  go_wp2_with (first
    | (go_at_call 45; rw [← hW0]; (with_reducible refine CK.out.mono ?_); rintro e w1 ⟨rfl, hb1⟩; have Q0 := hid (obj_keep P0.out hb1); have Q1 := hid ((hb1.block _ (lt_of_block P1.out)).trans P1.out); have B1 := hid (hB.out.trans (hb1.mono hB.out.size)); clear hb1 CK P0 P1 hB hW0)
    | fail)
  go_loopw [6] (fun x wr => ∃ (k : Nat) (L : Row) (S : List Nat) (q : Option Addr) (c : Nat) (u : Tm) (pu : Option Addr) (cu : Nat), x = .slice q k c ∧ Hid (wr.heap[w.heap.size]? = some (tobj u pu cu)) ∧ Hid (wr.heap[w.heap.size + 1]? = some (.cells #[.int .i64 0, .string ⟨#[]⟩, .string ⟨#[]⟩, .int .u64 0, .int .i64 0, .slice none 0 0] 25 (0, 0))) ∧ Hid (MineL wr (w.heap.size + 2) q k c L S) ∧ Hid (TmAt w u pu) ∧ Hid (AllT CpOk u) ∧ Hid (k + nodes u ≤ nodes t) ∧ Hid (elems t = (L.map (·.1) ++ (elems u).1, (elems u).2)) ∧ Hid (Below w.heap.size w wr)) (fun x _ => nodes t - lenS x)
  case atStart => exact ⟨0, [], [], none, 0, t, p, cap, rfl, Q0, Q1, hid (MineL.nil _ _), HT, HC, hid (by omega), hid (by simp), B1⟩
  case round =>
    clear Q0 Q1 B1 HT HC
    obtain ⟨k, L, S, q, c, u, pu, cu, rfl, P0, P1, HML, HT, HC, HN, HE, hBr⟩ := hrel
    obtain ⟨x0, x1, x2, x3, x4, x5⟩ := six_of P0.out
    have hlu := HT.out.len
    unfold maxLen at hlu
    have IC := hid (fun W => isCompound_any u pu cu ⟨#[46]⟩ 2 W HT.out.len)
    unfold Tm.val at IC
    obtain ⟨z, hz⟩ : ∃ z, z = isCons u := ⟨_, rfl⟩
    have HZ := hid hz
    have IC2 := hid (show ∀ W, Calls Tryz.prog 74 #[.agg #[.int .i64 u.kind, .string u.name, .string u.num, .int .u64 u.bits, .int .i64 u.var, .slice pu u.args.length cu], .string ⟨#[46]⟩, .int .i64 2] W fun e w' => e = .returned (.bool z) ∧ Below W.heap.size W w' from fun W => by rw [HZ.out]; exact IC.out W)
    clear IC hz
    cases z
    · have HE2 := hid (HE.out.trans (by rw [elems_not HZ.out.symm]))
      have CF := hid (fun W (h : Below w.heap.size w W) => copyOf_any u pu cu W (HT.out.keep h) HC.out)
      have HV := hid (show ∀ q c, u.val q c = .agg #[.int .i64 u.kind, .string u.name, .string u.num, .int .u64 u.bits, .int .i64 u.var, .slice q u.args.length c] from fun _ _ => rfl)
      unfold Tm.val at CF
      go_wp2_with (first
        | (go_at_call 74; (with_reducible refine (IC2.out _).mono ?_); rintro e w2 ⟨rfl, hb2⟩; have B2 := hid (hBr.out.trans (hb2.mono hBr.out.size)); have BR2 := hid hb2; have Q0 := hid (obj_keep P0.out hb2); clear hb2 x0 x1 x2 x3 x4 x5; obtain ⟨x0, x1, x2, x3, x4, x5⟩ := six_of Q0.out)
        | (go_at_call 68; (with_reducible refine (CF.out _ B2.out).mono ?_); rintro e w3 ⟨q2, c2, S2, rfl, hm, hS1, hb3⟩; have HM1 := hid hm; have HS1 := hid hS1; have BR3 := hid (BR2.out.trans (hb3.mono BR2.out.size)); have B3 := hid (B2.out.trans (hb3.mono B2.out.size)); have R1 := hid ((BR3.out.block _ (lt_of_block P1.out)).trans P1.out); clear hb3 hm hS1; obtain ⟨⟨z0, z1, z2, z3, z4, z5⟩, ⟨f0, f1, f2, f3, f4, f5⟩⟩ := six_free R1.out)
        | fail)
      have h1 := set6 R1.out (.int .i64 u.kind) (.string u.name) (.string u.num) (.int .u64 u.bits) (.int .i64 u.var) (.slice q2 u.args.length c2)
      have hg := set6_grown w3 (w.heap.size + 1) (.int .i64 u.kind) (.string u.name) (.string u.num) (.int .u64 u.bits) (.int .i64 u.var) (.slice q2 u.args.length c2)
      have hlw := lt_of_block P1.out
      have hz2 := BR2.out.size
      refine bodyPost_ret (results_mid (b := w.heap.size + 1) (t := u) (q := q2) (cap := c2) rfl _ _ (.slice q k c) (.int .i64 0) ⟨by rfl, by rfl, by rfl⟩ h1) rfl ⟨_, _, L, S, S2, rfl, ⟨⟨q, k, c, rfl, ?_, ?_⟩, ⟨q2, c2, by rw [HE2.out], by rw [HE2.out]; exact HM1.out.same fun x hx => hg.block x (HM1.out.lt x hx) (fun e => by have := HS1.out x hx; have := Option.some.inj e; omega)⟩, ?_, ?_, by rw [HE2.out]; simp⟩, set6_below B3.out (by omega) _ _ _ _ _ _⟩
      · have h := HML.out.same (w' := w3) fun x _ hx => BR3.out.block x hx
        have h := h.same fun x h1 h2 => hg.block x h2 (fun e => by have := Option.some.inj e; omega)
        exact h.base (by omega)
      · intro x hx e
        have := HS1.out x hx
        have := ownBlock_lt HML.out.row e
        omega
      · intro x hx h2
        have := HS1.out x h2
        have := HML.out.own.lt x hx
        omega
      · intro x hx
        have := HS1.out x hx
        omega
    · have hl2 := isCons_len HZ.out.symm
      obtain ⟨b, o, rfl, e0, c0, hs0, ht0⟩ := HT.out.get 0 (by omega)
      obtain ⟨b', o', hbo, e1, c1, hs1, ht1⟩ := HT.out.get 1 (by omega)
      simp only [Option.some.injEq, Addr.mk.injEq, and_true] at hbo
      obtain ⟨rfl, rfl⟩ := hbo
      have HE2 := hid (HE.out.trans (by rw [elems_cons HZ.out.symm (by omega) (by omega)]))
      have HC0 := hid (HC.out.arg 0 (by omega))
      have HC1 := hid (HC.out.arg 1 (by omega))
      have HN1 := hid (show nodes u.args[0] + nodes u.args[1] + 1 ≤ nodes u by
        have h := nodes_args u
        have h1 : nodesL (u.args.take 1) = nodesL (u.args.take 0) + nodes u.args[0] := nodesL_take u.args 0 (by omega)
        have h2 : nodesL (u.args.take 2) = nodesL (u.args.take 1) + nodes u.args[1] := nodesL_take u.args 1 (by omega)
        have h3 := nodesL_take_le u.args 2
        omega)
      rw [Nat.zero_mul, Nat.add_zero] at hs0
      rw [Nat.one_mul] at hs1
      have HT0 := hid ht0
      have HT1 := hid ht1
      have HS0 := hid hs0
      have HS1 := hid hs1
      clear ht0 ht1 hs0 hs1 HZ HE
      generalize u.args[0] = t0 at *
      generalize u.args[1] = t1 at *
      have hk0 : (0 : Int) < (u.args.length : Int) := by omega
      have hk1 : (1 : Int) < (u.args.length : Int) := by omega
      have HL2 := hid hl2
      clear hl2
      have SX := hid (show ∀ W, Below w.heap.size w W → Six W b o t0 e0 c0 ∧ Six W b (o + 6) t1 e1 c1 from fun W h => ⟨HS0.out.keep h, HS1.out.keep h⟩)
      have CF := hid (fun W (h : Below w.heap.size w W) => copyOf_any t0 e0 c0 W (HT0.out.keep h) HC0.out)
      have AP := hid (fun (W : World) (h : Below wr.heap.size wr W) => HML.out.same (w' := W) fun x _ hx => h.block x hx)
      unfold Tm.val at CF
      go_wp2_with (first
        | (go_at_call 74; (with_reducible refine (IC2.out _).mono ?_); rintro e w2 ⟨rfl, hb2⟩; have B2 := hid (hBr.out.trans (hb2.mono hBr.out.size)); have BR2 := hid hb2; have Q0 := hid (obj_keep P0.out hb2); obtain ⟨⟨g0, g1, g2, g3, g4, g5⟩, ⟨n0, n1, n2, n3, n4, n5⟩⟩ := SX.out w2 B2.out; have g6 := (six_of Q0.out).c5; clear hb2)
        | (go_at_call 68; (with_reducible refine (CF.out _ B2.out).mono ?_); rintro e w3 ⟨q2, c2, S1, rfl, hm, hS1, hb3⟩; have HM1 := hid hm; have HS1 := hid hS1; have BR3 := hid (BR2.out.trans (hb3.mono BR2.out.size)); have B3 := hid (B2.out.trans (hb3.mono B2.out.size)); have R0 := hid (obj_keep Q0.out hb3); have HZ3 := hid (show w2.heap.size ≤ w3.heap.size from hb3.size); clear hb3 hm hS1)
        | (at_builtin; refine wpList_appT _ rfl _ _ rfl ?_; refine ⟨w3, w.heap.size + 2, q, k, c, L, S, t0, q2, c2, S1, rfl, rfl, ⟨rfl, AP.out w3 BR3.out, HM1.out, by have := HN.out; have := HF.out; omega, by have := lt_of_block R0.out; have := lt_of_block P1.out; have := BR3.out.size; omega, fun x hx h1 => by have := HS1.out x h1; have := HML.out.own.lt x hx; have := BR2.out.size; omega, fun x hx h1 => by have := HS1.out x h1; have := ownBlock_lt HML.out.row hx; have := BR2.out.size; omega, fun x hx => by have := HS1.out x hx; have := BR2.out.size; have := lt_of_block P1.out; omega⟩, ?_⟩; intro g c' w5 hd; have ML5 := hid hd.list; have HB5 := hid hd.below; have hlw := lt_of_block P1.out; have R5 := hid ((HB5.out.block w.heap.size (by omega)).trans R0.out); have P15 := hid ((HB5.out.block (w.heap.size + 1) (by omega)).trans ((BR3.out.block _ hlw).trans P1.out)); have B5 := hid (show Below w.heap.size w w5 from B3.out.trans (HB5.out.mono (by omega))); clear hd g0 g1 g2 g3 g4 g5 n0 n1 n2 n3 n4 n5 g6 x0 x1 x2 x3 x4 x5; obtain ⟨-, ⟨l0, l1, l2, l3, l4, l5⟩⟩ := SX.out w5 B5.out; obtain ⟨⟨y0, y1, y2, y3, y4, y5⟩, ⟨f0, f1, f2, f3, f4, f5⟩⟩ := six_free (show w5.heap[w.heap.size]? = some (.cells #[.int .i64 u.kind, .string u.name, .string u.num, .int .u64 u.bits, .int .i64 u.var, .slice (some ⟨b, o, none⟩) u.args.length cu] 25 (0, 0)) from R5.out)))
      go_roundw
      case rel =>
        have hg := set6_grown w5 w.heap.size (.int .i64 t1.kind) (.string t1.name) (.string t1.num) (.int .u64 t1.bits) (.int .i64 t1.var) (.slice e1 t1.args.length c1)
        refine ⟨k + 1, L ++ [(t0, q2, c2)], S ++ S1, some ⟨g, 0, none⟩, c', t1, e1, c1, rfl, hid (set6 R5.out _ _ _ _ _ _), hid ((hg.block _ (lt_of_block P15.out) (fun e => by have := Option.some.inj e; omega)).trans P15.out), hid (ML5.out.same fun x h1 h2 => hg.block x h2 (fun e => by have := Option.some.inj e; omega)), HT1, HC1, hid (by have := HN.out; have := HN1.out; have := nodes_pos t0; omega), hid (by rw [HE2.out]; simp), hid (set6_below B5.out (Nat.le_refl _) _ _ _ _ _ _)⟩
      case measure =>
        have h1 := HN.out
        have h2 := HN1.out
        show nodes t - (k + 1) < nodes t - k
        omega
end Go.Proofs.YtkapejcbmonfkaaGreatDoor

namespace Go.Proofs.YtkapejcbmonfkaaGreatDoor
open Go.RowKit

set_option maxRecDepth 100000 in
set_option maxHeartbeats 8000000 in
theorem elements_bad (t : Tm) (p : Option Addr) (cap : Nat) (w : World) (hT : TmAt w t p) (hD : AllT DomA t) (hE : checkErr vName numOk bitsOk t ≠ 0) (hX : Utf w) :
    Calls Tryz.prog 30 #[t.val p cap] w fun e w' => e = .returned (.tuple #[.slice none 0 0, (leaf 0 ⟨#[]⟩ ⟨#[]⟩ 0).val none 0, .int .i64 (checkErr vName numOk bitsOk t)]) ∧ Below w.heap.size w w' := by
  obtain ⟨W0, hW0⟩ : ∃ W0, W0 = (w.alloc (.cells #[.int .i64 t.kind, .string t.name, .string t.num, .int .u64 t.bits, .int .i64 t.var, .slice p t.args.length cap] 25)).alloc (.cells #[.int .i64 0, .string ⟨#[]⟩, .string ⟨#[]⟩, .int .u64 0, .int .i64 0, .slice none 0 0] 25) := ⟨_, rfl⟩
  have hB := hid (show Below w.heap.size w W0 by rw [hW0]; exact ((Below.refl w.heap.size w).alloc (Nat.le_refl _) _).alloc (by simp) _)
  have P1 := hid (show W0.heap[w.heap.size + 1]? = some (.cells #[.int .i64 0, .string ⟨#[]⟩, .string ⟨#[]⟩, .int .u64 0, .int .i64 0, .slice none 0 0] 25 (0, 0)) by
    rw [hW0]
    have h := heap_alloc_new (w.alloc (.cells #[.int .i64 t.kind, .string t.name, .string t.num, .int .u64 t.bits, .int .i64 t.var, .slice p t.args.length cap] 25)) (.cells #[.int .i64 0, .string ⟨#[]⟩, .string ⟨#[]⟩, .int .u64 0, .int .i64 0, .slice none 0 0] 25)
    rwa [World.size_alloc] at h)
  have CK := hid (check_any vName numOk bitsOk DomA t p cap W0 (hT.keep hB.out) (oracleA _ (hX.keep hB.out)) hD)
  generalize checkErr vName numOk bitsOk t = z at *
  have hq : (z == 0) = false := beq_eq_false_iff_ne.2 hE
  have hq2 : (z != 0) = true := by simp [hE]
  unfold Tm.val at CK
  unfold Tm.val
  clear hT hD hE hX
  go_enter Tryz.func30, Tryz.ntmps30
  go_wp2_with (first
    | (go_at_call 45; rw [← hW0]; (with_reducible refine CK.out.mono ?_); rintro e w1 ⟨rfl, hb1⟩; have Q1 := hid ((hb1.block _ (lt_of_block P1.out)).trans P1.out); have B1 := hid (hB.out.trans (hb1.mono hB.out.size)); clear hb1 CK P1 hB hW0; obtain ⟨⟨z0, z1, z2, z3, z4, z5⟩, ⟨f0, f1, f2, f3, f4, f5⟩⟩ := six_free Q1.out)
    | fail)
  have h1 := set6 Q1.out (.int .i64 0) (.string ⟨#[]⟩) (.string ⟨#[]⟩) (.int .u64 0) (.int .i64 0) (.slice none 0 0)
  exact bodyPost_ret (results_mid (b := w.heap.size + 1) (t := leaf 0 ⟨#[]⟩ ⟨#[]⟩ 0) (q := none) (cap := 0) rfl _ _ (.slice none 0 0) (.int .i64 z) ⟨by rfl, by rfl, by rfl⟩ h1) rfl ⟨rfl, set6_below B1.out (by omega) _ _ _ _ _ _⟩
theorem results_two {fn : Func} {a p : Tmp} {b : Nat} {t : Tm} {q : Option Addr} {cap : Nat} (h : fn.results = #[.tmp a, .cell p 25]) (tmps : Array Value) (W : World) (x : Value) (hp : tmps.getD a undef = x ∧ tmps.getD p undef = .pointer (some ⟨b, 0, none⟩)) (hg : W.heap[b]? = some (tobj t q cap)) :
    (results fn tmps).run Tryz.prog W = .ok (.tuple #[x, t.val q cap]) W := by
  have hl := run_loadVar_row (P := Tryz.prog) W b 25 25 _ _ _ hg Tryz.underlying25 rfl (by kernel_rfl)
  obtain ⟨h1, h2⟩ := hp
  have h1' : tmps[a]?.getD undef = x := by simpa using h1
  have h2' : tmps[p]?.getD undef = .pointer (some ⟨b, 0, none⟩) := by simpa using h2
  simp [results, h, h1', h2', asAddr, Sem.run_bind, Result.andThen, hl, Tm.val]
theorem elems_end {w wr w3 : World} {t u : Tm} {q q2 : Option Addr} {k c c2 : Nat} {L : Row} {S S2 : List Nat} (HE2 : elems t = (L.map (·.1) ++ [], u)) (HML : MineL wr (w.heap.size + 2) q k c L S) (HM1 : MineT w3 u q2 c2 S2) (HS1 : ∀ x ∈ S2, wr.heap.size ≤ x) (BR3 : Below wr.heap.size wr w3) (B3 : Below w.heap.size w w3) (hlw : w.heap.size + 1 < wr.heap.size) :
    ∃ v y L S S2, Ending.returned (.tuple #[.slice q k c, u.val q2 c2]) = .returned (.tuple #[v, y]) ∧ ElemsAt w.heap.size ((((((w3.setCell ⟨w.heap.size + 1, 0, none⟩ (.int .i64 u.kind)).setCell ⟨w.heap.size + 1, 1, none⟩ (.string u.name)).setCell ⟨w.heap.size + 1, 2, none⟩ (.string u.num)).setCell ⟨w.heap.size + 1, 3, none⟩ (.int .u64 u.bits)).setCell ⟨w.heap.size + 1, 4, none⟩ (.int .i64 u.var)).setCell ⟨w.heap.size + 1, 5, none⟩ (.slice q2 u.args.length c2)) t v y L S S2 ∧
      Below w.heap.size w ((((((w3.setCell ⟨w.heap.size + 1, 0, none⟩ (.int .i64 u.kind)).setCell ⟨w.heap.size + 1, 1, none⟩ (.string u.name)).setCell ⟨w.heap.size + 1, 2, none⟩ (.string u.num)).setCell ⟨w.heap.size + 1, 3, none⟩ (.int .u64 u.bits)).setCell ⟨w.heap.size + 1, 4, none⟩ (.int .i64 u.var)).setCell ⟨w.heap.size + 1, 5, none⟩ (.slice q2 u.args.length c2)) := by
  have hg := set6_grown w3 (w.heap.size + 1) (.int .i64 u.kind) (.string u.name) (.string u.num) (.int .u64 u.bits) (.int .i64 u.var) (.slice q2 u.args.length c2)
  refine ⟨_, _, L, S, S2, rfl, ⟨⟨q, k, c, rfl, ?_, ?_⟩, ⟨q2, c2, by rw [HE2], by rw [HE2]; exact HM1.same fun x hx => hg.block x (HM1.lt x hx) (fun e => by have := HS1 x hx; have := Option.some.inj e; omega)⟩, ?_, ?_, by rw [HE2]; simp⟩, set6_below B3 (by omega) _ _ _ _ _ _⟩
  · have h := HML.same (w' := w3) fun x _ hx => BR3.block x hx
    have h := h.same fun x h1 h2 => hg.block x h2 (fun e => by have := Option.some.inj e; omega)
    exact h.base (by omega)
  · intro x hx e
    have := HS1 x hx
    have := ownBlock_lt HML.row e
    omega
  · intro x hx h2
    have := HS1 x h2
    have := HML.own.lt x hx
    omega
  · intro x hx
    have := HS1 x hx
    omega
theorem dot_list : (⟨#[46]⟩ : ByteArray).toList = [46] := by rw [ByteArray.toList_eq]
set_option maxRecDepth 100000 in
set_option maxHeartbeats 8000000 in
theorem elementsR_any (t : Tm) (p : Option Addr) (cap : Nat) (w : World) (hT : TmAt w t p) (hC : AllT CpOk t) (hF : nodes t ≤ 4000) :
    Calls Tryz.prog 32 #[t.val p cap] w fun e w' => ∃ v y L S S2, e = .returned (.tuple #[v, y]) ∧ ElemsAt w.heap.size w' t v y L S S2 ∧ Below w.heap.size w w' := by
  obtain ⟨W0, hW0⟩ : ∃ W0, W0 = (w.alloc (.cells #[.int .i64 t.kind, .string t.name, .string t.num, .int .u64 t.bits, .int .i64 t.var, .slice p t.args.length cap] 25)).alloc (.cells #[.int .i64 0, .string ⟨#[]⟩, .string ⟨#[]⟩, .int .u64 0, .int .i64 0, .slice none 0 0] 25) := ⟨_, rfl⟩
  have hB := hid (show Below w.heap.size w W0 by rw [hW0]; exact ((Below.refl w.heap.size w).alloc (Nat.le_refl _) _).alloc (by simp) _)
  have P0 := hid (show W0.heap[w.heap.size]? = some (tobj t p cap) by rw [hW0]; exact (heap_alloc_old (w.alloc _) _ (by simp)).trans (heap_alloc_new w _))
  have P1 := hid (show W0.heap[w.heap.size + 1]? = some (.cells #[.int .i64 0, .string ⟨#[]⟩, .string ⟨#[]⟩, .int .u64 0, .int .i64 0, .slice none 0 0] 25 (0, 0)) by
    rw [hW0]
    have h := heap_alloc_new (w.alloc (.cells #[.int .i64 t.kind, .string t.name, .string t.num, .int .u64 t.bits, .int .i64 t.var, .slice p t.args.length cap] 25)) (.cells #[.int .i64 0, .string ⟨#[]⟩, .string ⟨#[]⟩, .int .u64 0, .int .i64 0, .slice none 0 0] 25)
    rwa [World.size_alloc] at h)
  have hlt := hT.len
  unfold maxLen at hlt
  have HT := hid hT
  have HC := hid hC
  have HF := hid hF
  unfold Tm.val
  clear hT hC hF
  go_enter Tryz.func32, Tryz.ntmps32
  go_wp2_with fail
  rw [← hW0]
  clear hW0
  go_loopw [4] (fun x wr => ∃ (k : Nat) (L : Row) (S : List Nat) (q : Option Addr) (c : Nat) (u : Tm) (pu : Option Addr) (cu : Nat), x = .slice q k c ∧ Hid (wr.heap[w.heap.size]? = some (tobj u pu cu)) ∧ Hid (wr.heap[w.heap.size + 1]? = some (.cells #[.int .i64 0, .string ⟨#[]⟩, .string ⟨#[]⟩, .int .u64 0, .int .i64 0, .slice none 0 0] 25 (0, 0))) ∧ Hid (MineL wr (w.heap.size + 2) q k c L S) ∧ Hid (TmAt w u pu) ∧ Hid (AllT CpOk u) ∧ Hid (k + nodes u ≤ nodes t) ∧ Hid (elems t = (L.map (·.1) ++ (elems u).1, (elems u).2)) ∧ Hid (Below w.heap.size w wr)) (fun x _ => nodes t - lenS x)
  case atStart => exact ⟨0, [], [], none, 0, t, p, cap, rfl, P0, P1, hid (MineL.nil _ _), HT, HC, hid (by omega), hid (by simp), hB⟩
  case round =>
    clear P0 P1 hB HT HC
    obtain ⟨k, L, S, q, c, u, pu, cu, rfl, P0, P1, HML, HT, HC, HN, HE, hBr⟩ := hrel
    have hlu := HT.out.len
    unfold maxLen at hlu
    by_cases hc : isCons u = true
    · have hl2 := isCons_len hc
      have hkn : u.kind = 5 ∧ (u.name.toList == [46]) = true := by
        have h := hc
        unfold isCons at h
        rw [dot_list] at h
        simp only [Bool.and_eq_true] at h
        exact ⟨by simpa using h.1.1, h.1.2⟩
      obtain ⟨hk5, hnd⟩ := hkn
      obtain ⟨b, o, rfl, e0, c0, hs0, ht0⟩ := HT.out.get 0 (by omega)
      obtain ⟨b', o', hbo, e1, c1, hs1, ht1⟩ := HT.out.get 1 (by omega)
      simp only [Option.some.injEq, Addr.mk.injEq, and_true] at hbo
      obtain ⟨rfl, rfl⟩ := hbo
      have HE2 := hid (HE.out.trans (by rw [elems_cons hc (by omega) (by omega)]))
      have HC0 := hid (HC.out.arg 0 (by omega))
      have HC1 := hid (HC.out.arg 1 (by omega))
      have HN1 := hid (show nodes u.args[0] + nodes u.args[1] + 1 ≤ nodes u by
        have h := nodes_args u
        have h1 : nodesL (u.args.take 1) = nodesL (u.args.take 0) + nodes u.args[0] := nodesL_take u.args 0 (by omega)
        have h2 : nodesL (u.args.take 2) = nodesL (u.args.take 1) + nodes u.args[1] := nodesL_take u.args 1 (by omega)
        have h3 := nodesL_take_le u.args 2
        omega)
      rw [Nat.zero_mul, Nat.add_zero] at hs0
      rw [Nat.one_mul] at hs1
      have HT0 := hid ht0
      have HT1 := hid ht1
      have HS0 := hid hs0
      have HS1 := hid hs1
      have hk0 : (0 : Int) < (u.args.length : Int) := by omega
      have hk1 : (1 : Int) < (u.args.length : Int) := by omega
      have hq2 : ((u.args.length : Int) == 2) = true := by rw [hl2]; rfl
      clear ht0 ht1 hs0 hs1 HE hc
      generalize u.args[0] = t0 at *
      generalize u.args[1] = t1 at *
      have R0 := hid (show wr.heap[w.heap.size]? = some (.cells #[.int .i64 5, .string u.name, .string u.num, .int .u64 u.bits, .int .i64 u.var, .slice (some ⟨b, o, none⟩) u.args.length cu] 25 (0, 0)) by have h := P0.out; unfold tobj at h; rw [hk5] at h; exact h)
      obtain ⟨⟨x0, x1, x2, x3, x4, x5⟩, _⟩ := six_free R0.out
      have SX := hid (show ∀ W, Below w.heap.size w W → Six W b o t0 e0 c0 ∧ Six W b (o + 6) t1 e1 c1 from fun W h => ⟨HS0.out.keep h, HS1.out.keep h⟩)
      have CF := hid (fun W (h : Below w.heap.size w W) => own_any (nodes t0) t0 e0 c0 W (Nat.le_refl _) (HT0.out.keep h) HC0.out)
      have AP := hid (fun (W : World) (h : Below wr.heap.size wr W) => HML.out.same (w' := W) fun x _ hx => h.block x hx)
      unfold Tm.val at CF
      obtain ⟨⟨g0, g1, g2, g3, g4, g5⟩, -⟩ := SX.out wr hBr.out
      clear hk5 hl2
      go_wp2_with (first
        | (go_at_call 22; (with_reducible refine (CF.out _ hBr.out).mono ?_); rintro e w3 ⟨q2, c2, S1, rfl, hm, hS1, hb3⟩; have HM1 := hid hm; have HS1 := hid hS1; have BR3 := hid hb3; have B3 := hid (hBr.out.trans (hb3.mono hBr.out.size)); have R3 := hid ((hb3.block _ (lt_of_block R0.out)).trans R0.out); clear hb3 hm hS1)
        | (at_builtin; refine wpList_appT _ rfl _ _ rfl ?_; refine ⟨w3, w.heap.size + 2, q, k, c, L, S, t0, q2, c2, S1, rfl, rfl, ⟨rfl, AP.out w3 BR3.out, HM1.out, by have := HN.out; have := HF.out; omega, by have := lt_of_block R3.out; have := lt_of_block P1.out; have := BR3.out.size; omega, fun x hx h1 => by have := HS1.out x h1; have := HML.out.own.lt x hx; omega, fun x hx h1 => by have := HS1.out x h1; have := ownBlock_lt HML.out.row hx; omega, fun x hx => by have := HS1.out x hx; have := lt_of_block P1.out; omega⟩, ?_⟩; intro g c' w5 hd; have ML5 := hid hd.list; have HB5 := hid hd.below; have hlw := lt_of_block P1.out; have R5 := hid ((HB5.out.block w.heap.size (by omega)).trans R3.out); have P15 := hid ((HB5.out.block (w.heap.size + 1) (by omega)).trans ((BR3.out.block _ hlw).trans P1.out)); have B5 := hid (show Below w.heap.size w w5 from B3.out.trans (HB5.out.mono (by omega))); clear hd g0 g1 g2 g3 g4 g5 x0 x1 x2 x3 x4 x5; obtain ⟨-, ⟨l0, l1, l2, l3, l4, l5⟩⟩ := SX.out w5 B5.out; obtain ⟨⟨y0, y1, y2, y3, y4, y5⟩, ⟨f0, f1, f2, f3, f4, f5⟩⟩ := six_free R5.out))
      go_roundw
      case rel =>
        have hg := set6_grown w5 w.heap.size (.int .i64 t1.kind) (.string t1.name) (.string t1.num) (.int .u64 t1.bits) (.int .i64 t1.var) (.slice e1 t1.args.length c1)
        refine ⟨k + 1, L ++ [(t0, q2, c2)], S ++ S1, some ⟨g, 0, none⟩, c', t1, e1, c1, rfl, hid (set6 R5.out _ _ _ _ _ _), hid ((hg.block _ (lt_of_block P15.out) (fun e => by have := Option.some.inj e; omega)).trans P15.out), hid (ML5.out.same fun x h1 h2 => hg.block x h2 (fun e => by have := Option.some.inj e; omega)), HT1, HC1, hid (by have := HN.out; have := HN1.out; have := nodes_pos t0; omega), hid (by rw [HE2.out]; simp), hid (set6_below B5.out (Nat.le_refl _) _ _ _ _ _ _)⟩
      case measure =>
        have h1 := HN.out
        have h2 := HN1.out
        show nodes t - (k + 1) < nodes t - k
        omega
    · have hc' : isCons u = false := by simpa using hc
      have HE2 := hid (HE.out.trans (by rw [elems_not hc']) : elems t = (L.map (·.1) ++ [], u))
      have CF := hid (fun W (h : Below w.heap.size w W) => own_any (nodes u) u pu cu W (Nat.le_refl _) (HT.out.keep h) HC.out)
      unfold Tm.val at CF
      unfold isCons at hc'
      rw [dot_list] at hc'
      obtain ⟨x0, x1, x2, x3, x4, x5⟩ := six_of P0.out
      clear hc
      by_cases h1 : u.kind = 5
      · rw [h1] at x0
        by_cases h2 : (u.name.toList == [46]) = true
        · have hq : ((u.args.length : Int) == 2) = false := by rw [h1, h2] at hc'; simpa using hc'
          clear hc'
          rw [h1] at CF
          have h5 := hid h1
          clear h1
          go_wp2_with (first
            | (go_at_call 22; (with_reducible refine (CF.out _ hBr.out).mono ?_); rintro e w3 ⟨q2, c2, S2, rfl, hm, hS1, hb3⟩; have HM1 := hid hm; have HS1 := hid hS1; have BR3 := hid hb3; have B3 := hid (hBr.out.trans (hb3.mono hBr.out.size)); have R1 := hid ((BR3.out.block _ (lt_of_block P1.out)).trans P1.out); clear hb3 hm hS1; obtain ⟨⟨z0, z1, z2, z3, z4, z5⟩, ⟨f0, f1, f2, f3, f4, f5⟩⟩ := six_free R1.out)
            | fail)
          rw [← h5.out]
          have h1 := set6 R1.out (.int .i64 u.kind) (.string u.name) (.string u.num) (.int .u64 u.bits) (.int .i64 u.var) (.slice q2 u.args.length c2)
          refine bodyPost_ret (results_two (b := w.heap.size + 1) (t := u) (q := q2) (cap := c2) rfl _ _ (.slice q k c) ⟨by rfl, by rfl⟩ h1) rfl ?_
          exact elems_end HE2.out HML.out HM1.out HS1.out BR3.out B3.out (lt_of_block P1.out)
        · have hq : (u.name.toList == [46]) = false := by simpa using h2
          clear hc' h2
          rw [h1] at CF
          have h5 := hid h1
          clear h1
          go_wp2_with (first
            | (go_at_call 22; (with_reducible refine (CF.out _ hBr.out).mono ?_); rintro e w3 ⟨q2, c2, S2, rfl, hm, hS1, hb3⟩; have HM1 := hid hm; have HS1 := hid hS1; have BR3 := hid hb3; have B3 := hid (hBr.out.trans (hb3.mono hBr.out.size)); have R1 := hid ((BR3.out.block _ (lt_of_block P1.out)).trans P1.out); clear hb3 hm hS1; obtain ⟨⟨z0, z1, z2, z3, z4, z5⟩, ⟨f0, f1, f2, f3, f4, f5⟩⟩ := six_free R1.out)
            | fail)
          rw [← h5.out]
          have h1 := set6 R1.out (.int .i64 u.kind) (.string u.name) (.string u.num) (.int .u64 u.bits) (.int .i64 u.var) (.slice q2 u.args.length c2)
          refine bodyPost_ret (results_two (b := w.heap.size + 1) (t := u) (q := q2) (cap := c2) rfl _ _ (.slice q k c) ⟨by rfl, by rfl⟩ h1) rfl ?_
          exact elems_end HE2.out HML.out HM1.out HS1.out BR3.out B3.out (lt_of_block P1.out)
      · have hq : (u.kind == 5) = false := beq_eq_false_iff_ne.2 h1
        clear hc' h1
        go_wp2_with (first
          | (go_at_call 22; (with_reducible refine (CF.out _ hBr.out).mono ?_); rintro e w3 ⟨q2, c2, S2, rfl, hm, hS1, hb3⟩; have HM1 := hid hm; have HS1 := hid hS1; have BR3 := hid hb3; have B3 := hid (hBr.out.trans (hb3.mono hBr.out.size)); have R1 := hid ((BR3.out.block _ (lt_of_block P1.out)).trans P1.out); clear hb3 hm hS1; obtain ⟨⟨z0, z1, z2, z3, z4, z5⟩, ⟨f0, f1, f2, f3, f4, f5⟩⟩ := six_free R1.out)
          | fail)
        have h1 := set6 R1.out (.int .i64 u.kind) (.string u.name) (.string u.num) (.int .u64 u.bits) (.int .i64 u.var) (.slice q2 u.args.length c2)
        refine bodyPost_ret (results_two (b := w.heap.size + 1) (t := u) (q := q2) (cap := c2) rfl _ _ (.slice q k c) ⟨by rfl, by rfl⟩ h1) rfl ?_
        exact elems_end HE2.out HML.out HM1.out HS1.out BR3.out B3.out (lt_of_block P1.out)
end Go.Proofs.YtkapejcbmonfkaaGreatDoor
