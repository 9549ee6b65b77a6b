/- Walks: a list with something else at its end, or a ball. No condition but those that each theorem names. Walks: a list with something at its end, in memory of its own. No condition but those that each theorem names. -/
import Derived.Test.YtiaddfedaikaiaaGreatDoorD7m
import Derived.Test.YtiaddfedaikaiaaGreatDoorD8um
namespace Go.Proofs.YtiaddfedaikaiaaGreatDoor
open Go.RowKit

theorem elements_of (t : Tm) (p : Option Addr) (c : Nat) (w : World) (hT : TmAt w t p) (hg : Good t) (hX : Utf w) (hn : nodes t ≤ 4000) (l : List Tm) (u : Tm) (hl : l = (elems t).1) (hu : u = (elems t).2) :
    Calls Tryz.prog 145 #[.agg #[.int .i64 t.kind, .string t.name, .string t.num, .int .u64 t.bits, .int .i64 t.var, .slice p t.args.length c]] w fun x w' => ∃ q c' r cr, x = .returned (.tuple #[.slice q l.length c', .agg #[.int .i64 u.kind, .string u.name, .string u.num, .int .u64 u.bits, .int .i64 u.var, .slice r u.args.length cr], .int .i64 0]) ∧ ListAt w' l q ∧ TmAt w' u r ∧ Below w.heap.size w w' := by
  subst hl hu
  exact (elements_any t p c w hT hg.1 hX).mono fun x w' ⟨q, n, c', S, r, cr, S2, a, m, d⟩ => by
    have hA : elemsA t = elems t := by unfold elemsA; rw [if_pos (hg.check hn)]
    have h1 := m.list
    have h2 := m.rest
    rw [hA] at h1 h2 a
    rw [hg.check hn] at a
    exact ⟨q, c', r, cr, by rw [a, h1.len]; rfl, h1.at_, h2.at_, d⟩
theorem elems_few {t : Tm} (hn : nodes t ≤ 4000) : (elems t).1.length ≤ 4000 := Nat.le_trans (elemsN_len (nodes t) t) hn
set_option maxRecDepth 100000 in
set_option maxHeartbeats 8000000 in
theorem ending_ok (t e : Tm) (p pe : Option Addr) (c ce : Nat) (w : World) (hT : TmAt w t p) (he : TmAt w e pe) (hg : Good t) (hge : Good e) (hX : Utf w) (hn : nodes t ≤ 4000) (hi : isOfT (elems t).2 nEmpty 0 = true) :
    Calls Tryz.prog 111 #[t.val p c, e.val pe ce] w fun x w' => ∃ q c', x = .returned ((listT (elems t).1 e).val q c') ∧ TmAt w' (listT (elems t).1 e) q ∧ Below w.heap.size w w' := by
  obtain ⟨W0, hW0⟩ : ∃ W0, W0 = ((w.alloc (tobj t p c)).alloc (tobj e pe ce)).alloc (.cells #[.int .i64 0, .string ⟨#[]⟩, .string ⟨#[]⟩, .int .u64 0, .int .i64 0, .slice none 0 0] 25) := ⟨_, rfl⟩
  have hs0 : W0.heap.size = w.heap.size + 3 := by rw [hW0]; simp
  have B0 := hid (show Below w.heap.size w W0 by rw [hW0]; exact (((Below.refl w.heap.size w).alloc (Nat.le_refl _) _).alloc (by simp) _).alloc (by simp; omega) _)
  have e0 := hid (show W0.heap[w.heap.size]? = some (tobj t p c) by rw [hW0]; exact (heap_alloc_old ((w.alloc _).alloc _) _ (by simp; omega)).trans ((heap_alloc_old (w.alloc _) _ (by simp)).trans (heap_alloc_new w _)))
  have e1 := hid (show W0.heap[w.heap.size + 1]? = some (tobj e pe ce) by rw [hW0]; exact (heap_alloc_old ((w.alloc _).alloc _) _ (by simp)).trans (by have h := heap_alloc_new (w.alloc (tobj t p c)) (tobj e pe ce); rwa [World.size_alloc] at h))
  have R0 := hid (show W0.heap[w.heap.size + 1 + 1]? = some (.cells #[.int .i64 0, .string ⟨#[]⟩, .string ⟨#[]⟩, .int .u64 0, .int .i64 0, .slice none 0 0] 25 (0, 0)) by rw [hW0]; have h := heap_alloc_new ((w.alloc (tobj t p c)).alloc (tobj e pe ce)) (.cells #[.int .i64 0, .string ⟨#[]⟩, .string ⟨#[]⟩, .int .u64 0, .int .i64 0, .slice none 0 0] 25); rw [World.size_alloc, World.size_alloc] at h; exact h)
  have hl := elems_few hn
  obtain ⟨l, hl2⟩ : ∃ l, l = (elems t).1 := ⟨_, rfl⟩
  obtain ⟨u, hu⟩ : ∃ u, u = (elems t).2 := ⟨_, rfl⟩
  rw [← hu] at hi
  rw [← hl2] at hl
  have CE := hid (show ∀ W, Below w.heap.size w W → _ from fun W h => elements_of t p c W (hT.keep h) hg (hX.keep h) hn l u hl2 hu)
  have hum : u.args.length ≤ maxLen := by have := (elems_good (nodes t) t (Nat.le_refl _) hg).1.few; rw [← hu] at this; unfold maxLen; omega
  have CI := hid (show ∀ W r cr, Calls Tryz.prog 106 #[.agg #[.int .i64 u.kind, .string u.name, .string u.num, .int .u64 u.bits, .int .i64 u.var, .slice r u.args.length cr], .string ⟨#[91, 93]⟩, .int .i64 0] W fun x w' => x = .returned (.bool true) ∧ Below W.heap.size W w' from fun W r cr => by rw [← hi]; exact isOf_any u r cr nEmpty 0 W hum)
  rw [← hl2]
  obtain ⟨r0, hr0⟩ : ∃ r0, r0 = listT l e := ⟨_, rfl⟩
  have CL := hid (show ∀ W q c', Below w.heap.size w W → ListAt W l q → Calls Tryz.prog 146 #[.slice q l.length c', .agg #[.int .i64 e.kind, .string e.name, .string e.num, .int .u64 e.bits, .int .i64 e.var, .slice pe e.args.length ce]] W fun x w' => ∃ q c', x = .returned (.agg #[.int .i64 r0.kind, .string r0.name, .string r0.num, .int .u64 r0.bits, .int .i64 r0.var, .slice q r0.args.length c']) ∧ TmAt w' r0 q ∧ Below W.heap.size W w' from fun W q c' h h2 => by rw [hr0]; exact treeList_any l e q pe c' ce W h2 (he.keep h) hl)
  have GR := hid (show Good r0 by rw [hr0, hl2]; exact listT_goodD (elems_good (nodes t) t (Nat.le_refl _) hg).2 hge)
  rw [← hr0]
  clear hr0
  unfold tobj at hW0
  unfold Tm.val
  clear hT he hg hX hn hi hl hl2 hu hum
  go_enter Tryz.func111, Tryz.ntmps111
  go_upto_region 1 with fail
  rw [← hW0]
  clear hW0
  obtain ⟨a0, a1, a2, a3, a4, a5⟩ := six_of e0.out
  have hs := hid hs0
  clear hs0
  go_wp2_with (first
    | (go_at_call 145; (with_reducible refine (CE.out _ B0.out).mono ?_); rintro x w2 ⟨q, c1, r, cr, rfl, hm, hr, hb2⟩; have B2 := hid (B0.out.trans (hb2.mono B0.out.size)); have D2 := hid hb2; have M2 := hid hm; have A2 := hid (show Below w2.heap.size w2 (w2.alloc (.cells #[.int .i64 u.kind, .string u.name, .string u.num, .int .u64 u.bits, .int .i64 u.var, .slice r u.args.length cr] 25)) from (Below.refl _ _).alloc (Nat.le_refl _) _); clear hb2 hm hr)
    | (go_at_call 106; (with_reducible refine (CI.out _ _ _).mono ?_); rintro x w3 ⟨rfl, hb3⟩; have D3 := hid (A2.out.trans (hb3.mono A2.out.size)); have B3 := hid (B2.out.trans (D3.out.mono B2.out.size)); have E0 := hid (obj_keep (obj_keep e0.out D2.out) D3.out); have E1 := hid (obj_keep (obj_keep e1.out D2.out) D3.out); have R3 := hid (obj_keep (obj_keep R0.out D2.out) D3.out); have M3 := hid (M2.out.keep D3.out); clear hb3; obtain ⟨s0, s1, s2, s3, s4, s5⟩ := six_of E1.out)
    | (go_at_call 146; (with_reducible refine (CL.out _ _ _ B3.out M3.out).mono ?_); rintro x w4 ⟨q4, c4, rfl, hm, hb4⟩; have B4 := hid (B3.out.trans (hb4.mono B3.out.size)); have R4 := hid (obj_keep R3.out hb4); have M4 := hid hm; clear hb4 hm; obtain ⟨⟨z0, z1, z2, z3, z4, z5⟩, ⟨f0, f1, f2, f3, f4, f5⟩⟩ := six_free R4.out)
    | fail)
  have hgr := set6_grown w4 (w.heap.size + 1 + 1) (.int .i64 r0.kind) (.string r0.name) (.string r0.num) (.int .u64 r0.bits) (.int .i64 r0.var) (.slice q4 r0.args.length c4)
  have hbw := set6_below B4.out (show w.heap.size ≤ w.heap.size + 1 + 1 by omega) (.int .i64 r0.kind) (.string r0.name) (.string r0.num) (.int .u64 r0.bits) (.int .i64 r0.var) (.slice q4 r0.args.length c4)
  have hm := TmAt.past (b := w.heap.size + 1 + 1) (t := r0) (p := q4) (show Blank w4 (w.heap.size + 1 + 1) from R4.out) (Past.grown hgr) GR.out M4.out
  exact bodyPost_ret (results_tm rfl _ _ (w.heap.size + 1 + 1) r0 q4 c4 (by rfl) (set6 R4.out _ _ _ _ _ _)) rfl ⟨q4, c4, rfl, hm, hbw⟩
set_option maxRecDepth 100000 in
set_option maxHeartbeats 8000000 in
theorem ending_bad (t e : Tm) (p pe : Option Addr) (c ce : Nat) (w : World) (hT : TmAt w t p) (_he : TmAt w e pe) (hg : Good t) (hX : Utf w) (hn : nodes t ≤ 4000) (hi : isOfT (elems t).2 nEmpty 0 = false) :
    Calls Tryz.prog 111 #[t.val p c, e.val pe ce] w fun x w' => ∃ k, x = .panicked [{ v := .iface 105 (.pointer (some ⟨k, 0, none⟩)), recovered := false }] ∧ BallAt w' k (bType nList t) ∧ Below w.heap.size w w' := by
  obtain ⟨W0, hW0⟩ : ∃ W0, W0 = ((w.alloc (tobj t p c)).alloc (tobj e pe ce)).alloc (.cells #[.int .i64 0, .string ⟨#[]⟩, .string ⟨#[]⟩, .int .u64 0, .int .i64 0, .slice none 0 0] 25) := ⟨_, rfl⟩
  have hs0 : W0.heap.size = w.heap.size + 3 := by rw [hW0]; simp
  have B0 := hid (show Below w.heap.size w W0 by rw [hW0]; exact (((Below.refl w.heap.size w).alloc (Nat.le_refl _) _).alloc (by simp) _).alloc (by simp; omega) _)
  have e0 := hid (show W0.heap[w.heap.size]? = some (tobj t p c) by rw [hW0]; exact (heap_alloc_old ((w.alloc _).alloc _) _ (by simp; omega)).trans ((heap_alloc_old (w.alloc _) _ (by simp)).trans (heap_alloc_new w _)))
  have e1 := hid (show W0.heap[w.heap.size + 1]? = some (tobj e pe ce) by rw [hW0]; exact (heap_alloc_old ((w.alloc _).alloc _) _ (by simp)).trans (by have h := heap_alloc_new (w.alloc (tobj t p c)) (tobj e pe ce); rwa [World.size_alloc] at h))
  have R0 := hid (show W0.heap[w.heap.size + 1 + 1]? = some (.cells #[.int .i64 0, .string ⟨#[]⟩, .string ⟨#[]⟩, .int .u64 0, .int .i64 0, .slice none 0 0] 25 (0, 0)) by rw [hW0]; have h := heap_alloc_new ((w.alloc (tobj t p c)).alloc (tobj e pe ce)) (.cells #[.int .i64 0, .string ⟨#[]⟩, .string ⟨#[]⟩, .int .u64 0, .int .i64 0, .slice none 0 0] 25); rw [World.size_alloc, World.size_alloc] at h; exact h)
  have hl := elems_few hn
  obtain ⟨l, hl2⟩ : ∃ l, l = (elems t).1 := ⟨_, rfl⟩
  obtain ⟨u, hu⟩ : ∃ u, u = (elems t).2 := ⟨_, rfl⟩
  rw [← hu] at hi
  rw [← hl2] at hl
  have CE := hid (show ∀ W, Below w.heap.size w W → _ from fun W h => elements_of t p c W (hT.keep h) hg (hX.keep h) hn l u hl2 hu)
  have hum : u.args.length ≤ maxLen := by have := (elems_good (nodes t) t (Nat.le_refl _) hg).1.few; rw [← hu] at this; unfold maxLen; omega
  have CI := hid (show ∀ W r cr, Calls Tryz.prog 106 #[.agg #[.int .i64 u.kind, .string u.name, .string u.num, .int .u64 u.bits, .int .i64 u.var, .slice r u.args.length cr], .string ⟨#[91, 93]⟩, .int .i64 0] W fun x w' => x = .returned (.bool false) ∧ Below W.heap.size W w' from fun W r cr => by rw [← hi]; exact isOf_any u r cr nEmpty 0 W hum)
  obtain ⟨bb, hbb⟩ : ∃ bb, bb = bType nList t := ⟨_, rfl⟩
  have CN := hid (show ∀ W, Below w.heap.size w W → Calls Tryz.prog 103 #[.agg #[.int .i64 t.kind, .string t.name, .string t.num, .int .u64 t.bits, .int .i64 t.var, .slice p t.args.length c]] W fun e w' => ∃ q2 c2, e = .returned (.agg #[.int .i64 t.kind, .string t.name, .string t.num, .int .u64 t.bits, .int .i64 t.var, .slice q2 t.args.length c2]) ∧ TmAt w' t q2 ∧ Below W.heap.size W w' from fun W h => (renewed_ok t p c W (hT.keep h) hg (hX.keep h) hn).mono fun e w' ⟨q2, c2, S, a, m, _, d⟩ => ⟨q2, c2, a, m.at_, d⟩)
  have CR := hid (show ∀ W q2 c2, TmAt W t q2 → Calls Tryz.prog 107 #[.string ⟨#[108, 105, 115, 116]⟩, .agg #[.int .i64 t.kind, .string t.name, .string t.num, .int .u64 t.bits, .int .i64 t.var, .slice q2 t.args.length c2]] W fun e w' => ∃ k, e = .returned (.pointer (some ⟨k, 0, none⟩)) ∧ BallAt w' k bb ∧ Below W.heap.size W w' from fun W q2 c2 h => by rw [hbb]; exact type_any nList t q2 c2 W h)
  rw [← hbb]
  unfold tobj at hW0
  unfold Tm.val
  clear hT _he hg hX hn hi hl hl2 hu hum
  go_enter Tryz.func111, Tryz.ntmps111
  go_upto_region 1 with fail
  rw [← hW0]
  clear hW0
  obtain ⟨a0, a1, a2, a3, a4, a5⟩ := six_of e0.out
  have hs := hid hs0
  clear hs0
  go_wp2_with (first
    | (go_at_call 145; (with_reducible refine (CE.out _ B0.out).mono ?_); rintro x w2 ⟨q, c1, r, cr, rfl, hm, hr, hb2⟩; have B2 := hid (B0.out.trans (hb2.mono B0.out.size)); have D2 := hid hb2; have M2 := hid hm; have A2 := hid (show Below w2.heap.size w2 (w2.alloc (.cells #[.int .i64 u.kind, .string u.name, .string u.num, .int .u64 u.bits, .int .i64 u.var, .slice r u.args.length cr] 25)) from (Below.refl _ _).alloc (Nat.le_refl _) _); clear hb2 hm hr)
    | (go_at_call 106; (with_reducible refine (CI.out _ _ _).mono ?_); rintro x w3 ⟨rfl, hb3⟩; have D3 := hid (A2.out.trans (hb3.mono A2.out.size)); have B3 := hid (B2.out.trans (D3.out.mono B2.out.size)); have E0 := hid (obj_keep (obj_keep e0.out D2.out) D3.out); have E1 := hid (obj_keep (obj_keep e1.out D2.out) D3.out); have R3 := hid (obj_keep (obj_keep R0.out D2.out) D3.out); have M3 := hid (M2.out.keep D3.out); clear hb3; obtain ⟨s0, s1, s2, s3, s4, s5⟩ := six_of E0.out)
    | (go_at_call 103; (with_reducible refine (CN.out _ B3.out).mono ?_); rintro x w4 ⟨q2, c2, rfl, hk, hb4⟩; have K4 := hid hk; have B4 := hid (B3.out.trans (hb4.mono B3.out.size)); clear hb4 hk)
    | (go_at_call 107; (with_reducible refine (CR.out _ _ _ K4.out).mono ?_); rintro x w5 ⟨k, rfl, hk, hb5⟩; have K5 := hid hk; have B5 := hid (B4.out.trans (hb5.mono B4.out.size)); clear hb5 hk)
    | fail)
  exact ⟨rfl, k, rfl, K5.out, B5.out⟩
end Go.Proofs.YtiaddfedaikaiaaGreatDoor

namespace Go.Proofs.YtiaddfedaikaiaaGreatDoor
open Go.RowKit

theorem MineT.aboveT {w : World} {B : Nat} {t : Tm} {p : Option Addr} {cap : Nat} {S : List Nat} (h : MineT w t p cap S) (hS : ∀ x ∈ S, B ≤ x) : TmAt (above w B) t p := (h.same (w' := above w B) fun k hk => above_heap (hS k hk)).at_
theorem above_size (W : World) (B : Nat) : (above W B).heap.size = W.heap.size := by simp [above]
theorem above_below {W : World} {B k : Nat} (hk : k < B) (hs : k < W.heap.size) : (above W B).heap[k]? = some (.deferred none) := by
  simp [above, hk, hs]
theorem above_past {W W' : World} {B b : Nat} (h : W.grownBy W' (some b)) : Past (above W B) (above W' B) b := fun k hk hne => by
  rw [above_size] at hk
  rcases Nat.lt_or_ge k B with hb | hb
  · rw [above_below hb hk, above_below hb (Nat.lt_of_lt_of_le hk h.size)]
  · rw [above_heap hb, above_heap hb]
    exact h.block k hk (fun e => hne (Option.some.inj e))
theorem above_up {W W' : World} {B : Nat} {t : Tm} {p : Option Addr} (h : TmAt (above W B) t p) (hb : Below W.heap.size W W') : TmAt (above W' B) t p := (above_keep h fun _ _ _ _ hc => heap_cell_keep hb hc).1
theorem elements_up (t : Tm) (p : Option Addr) (c : Nat) (w : World) (hT : TmAt w t p) (hg : Good t) (hX : Utf w) (hn : nodes t ≤ 4000) (l : List Tm) (u : Tm) (hl : l = (elems t).1) (hu : u = (elems t).2) :
    Calls Tryz.prog 145 #[.agg #[.int .i64 t.kind, .string t.name, .string t.num, .int .u64 t.bits, .int .i64 t.var, .slice p t.args.length c]] w fun x w' => ∃ q c' r cr, x = .returned (.tuple #[.slice q l.length c', .agg #[.int .i64 u.kind, .string u.name, .string u.num, .int .u64 u.bits, .int .i64 u.var, .slice r u.args.length cr], .int .i64 0]) ∧ LsP (fun a p => TmAt (above w' w.heap.size) a p) w' l q ∧ TmAt w' u r ∧ Below w.heap.size w w' := by
  subst hl hu
  exact (elements_any t p c w hT hg.1 hX).mono fun x w' ⟨q, n, c', S, r, cr, S2, a, m, d⟩ => by
    have hA : elemsA t = elems t := by unfold elemsA; rw [if_pos (hg.check hn)]
    have h1 := m.list
    have h2 := m.rest
    have h3 := m.low
    rw [hA] at h1 h2 a
    rw [hg.check hn] at a
    refine ⟨q, c', r, cr, by rw [a, h1.len]; rfl, fun k hk => ?_, h2.at_, d⟩
    rcases h1.row with ⟨_, k0, _⟩ | ⟨g, arr, e, _⟩
    · have := h1.len
      omega
    · obtain ⟨p, cap, S1, a1, a2, a3⟩ := (h1.mine g e).2.get k hk
      exact ⟨g, 0, e, p, cap, a1, a2.aboveT fun x hx => h3 x (by rw [e]; simp [foot, a3 x hx])⟩
set_option maxRecDepth 100000 in
set_option maxHeartbeats 8000000 in
theorem ending_up (t e : Tm) (p pe : Option Addr) (c ce : Nat) (w : World) (hT : TmAt w t p) (hea : e.args = []) (hg : Good t) (hge : Good e) (hX : Utf w) (hn : nodes t ≤ 4000) (hi : isOfT (elems t).2 nEmpty 0 = true) :
    Calls Tryz.prog 111 #[t.val p c, e.val pe ce] w fun x w' => ∃ q c', x = .returned ((listT (elems t).1 e).val q c') ∧ TmAt (above w' w.heap.size) (listT (elems t).1 e) q ∧ Below w.heap.size w w' := by
  obtain ⟨W0, hW0⟩ : ∃ W0, W0 = ((w.alloc (tobj t p c)).alloc (tobj e pe ce)).alloc (.cells #[.int .i64 0, .string ⟨#[]⟩, .string ⟨#[]⟩, .int .u64 0, .int .i64 0, .slice none 0 0] 25) := ⟨_, rfl⟩
  have hs0 : W0.heap.size = w.heap.size + 3 := by rw [hW0]; simp
  have B0 := hid (show Below w.heap.size w W0 by rw [hW0]; exact (((Below.refl w.heap.size w).alloc (Nat.le_refl _) _).alloc (by simp) _).alloc (by simp; omega) _)
  have e0 := hid (show W0.heap[w.heap.size]? = some (tobj t p c) by rw [hW0]; exact (heap_alloc_old ((w.alloc _).alloc _) _ (by simp; omega)).trans ((heap_alloc_old (w.alloc _) _ (by simp)).trans (heap_alloc_new w _)))
  have e1 := hid (show W0.heap[w.heap.size + 1]? = some (tobj e pe ce) by rw [hW0]; exact (heap_alloc_old ((w.alloc _).alloc _) _ (by simp)).trans (by have h := heap_alloc_new (w.alloc (tobj t p c)) (tobj e pe ce); rwa [World.size_alloc] at h))
  have R0 := hid (show W0.heap[w.heap.size + 1 + 1]? = some (.cells #[.int .i64 0, .string ⟨#[]⟩, .string ⟨#[]⟩, .int .u64 0, .int .i64 0, .slice none 0 0] 25 (0, 0)) by rw [hW0]; have h := heap_alloc_new ((w.alloc (tobj t p c)).alloc (tobj e pe ce)) (.cells #[.int .i64 0, .string ⟨#[]⟩, .string ⟨#[]⟩, .int .u64 0, .int .i64 0, .slice none 0 0] 25); rw [World.size_alloc, World.size_alloc] at h; exact h)
  have hl := elems_few hn
  obtain ⟨l, hl2⟩ : ∃ l, l = (elems t).1 := ⟨_, rfl⟩
  obtain ⟨u, hu⟩ : ∃ u, u = (elems t).2 := ⟨_, rfl⟩
  rw [← hu] at hi
  rw [← hl2] at hl
  have CE := hid (show ∀ W, Below w.heap.size w W → _ from fun W h => elements_up t p c W (hT.keep h) hg (hX.keep h) hn l u hl2 hu)
  have hum : u.args.length ≤ maxLen := by have := (elems_good (nodes t) t (Nat.le_refl _) hg).1.few; rw [← hu] at this; unfold maxLen; omega
  have CI := hid (show ∀ W r cr, Calls Tryz.prog 106 #[.agg #[.int .i64 u.kind, .string u.name, .string u.num, .int .u64 u.bits, .int .i64 u.var, .slice r u.args.length cr], .string ⟨#[91, 93]⟩, .int .i64 0] W fun x w' => x = .returned (.bool true) ∧ Below W.heap.size W w' from fun W r cr => by rw [← hi]; exact isOf_any u r cr nEmpty 0 W hum)
  rw [← hl2]
  obtain ⟨r0, hr0⟩ : ∃ r0, r0 = listT l e := ⟨_, rfl⟩
  have hle : ∀ W : World, TmAt W e pe := fun W => by
    cases e with
    | mk k n u b v l =>
      unfold TmAt
      have h : l = [] := hea
      exact ⟨by rw [h]; unfold maxLen; simp, .inl h⟩
  have CL := hid (show ∀ W q c', Below w.heap.size w W → LsP (fun a p => TmAt (above W w.heap.size) a p) W l q → Calls Tryz.prog 146 #[.slice q l.length c', .agg #[.int .i64 e.kind, .string e.name, .string e.num, .int .u64 e.bits, .int .i64 e.var, .slice pe e.args.length ce]] W fun x w' => ∃ q c', x = .returned (.agg #[.int .i64 r0.kind, .string r0.name, .string r0.num, .int .u64 r0.bits, .int .i64 r0.var, .slice q r0.args.length c']) ∧ TmAt (above w' w.heap.size) r0 q ∧ Below W.heap.size W w' from fun W q c' h h2 => by
    rw [hr0]
    exact (treeList_up _ l e q pe c' ce W h2 hl).mono fun x w' ⟨q2, c2, a1, a2, a3⟩ => ⟨q2, c2, a1, a2.tm (fun g hg => above_heap (by have := h.size; omega)) (fun a p hp => above_up hp a3) (hle _), a3⟩)
  have GR := hid (show Good r0 by rw [hr0, hl2]; exact listT_goodD (elems_good (nodes t) t (Nat.le_refl _) hg).2 hge)
  rw [← hr0]
  clear hr0
  unfold tobj at hW0
  unfold Tm.val
  clear hT hle hg hX hn hi hl hl2 hu hum hea
  go_enter Tryz.func111, Tryz.ntmps111
  go_upto_region 1 with fail
  rw [← hW0]
  clear hW0
  obtain ⟨a0, a1, a2, a3, a4, a5⟩ := six_of e0.out
  have hs := hid hs0
  clear hs0
  go_wp2_with (first
    | (go_at_call 145; (with_reducible refine (CE.out _ B0.out).mono ?_); rintro x w2 ⟨q, c1, r, cr, rfl, hm, hr, hb2⟩; have B2 := hid (B0.out.trans (hb2.mono B0.out.size)); have D2 := hid hb2; have M2 := hid (show LsP (fun a p => TmAt (above w2 w.heap.size) a p) w2 l q from hm.keep (Below.refl _ _) fun a p hp => above_mono hp B0.out.size); have A2 := hid (show Below w2.heap.size w2 (w2.alloc (.cells #[.int .i64 u.kind, .string u.name, .string u.num, .int .u64 u.bits, .int .i64 u.var, .slice r u.args.length cr] 25)) from (Below.refl _ _).alloc (Nat.le_refl _) _); clear hb2 hm hr)
    | (go_at_call 106; (with_reducible refine (CI.out _ _ _).mono ?_); rintro x w3 ⟨rfl, hb3⟩; have D3 := hid (A2.out.trans (hb3.mono A2.out.size)); have B3 := hid (B2.out.trans (D3.out.mono B2.out.size)); have E0 := hid (obj_keep (obj_keep e0.out D2.out) D3.out); have E1 := hid (obj_keep (obj_keep e1.out D2.out) D3.out); have R3 := hid (obj_keep (obj_keep R0.out D2.out) D3.out); have M3 := hid (show LsP (fun a p => TmAt (above w3 w.heap.size) a p) w3 l q from M2.out.keep D3.out fun a p hp => above_up hp D3.out); clear hb3; obtain ⟨s0, s1, s2, s3, s4, s5⟩ := six_of E1.out)
    | (go_at_call 146; (with_reducible refine (CL.out _ _ _ B3.out M3.out).mono ?_); rintro x w4 ⟨q4, c4, rfl, hm, hb4⟩; have B4 := hid (B3.out.trans (hb4.mono B3.out.size)); have R4 := hid (obj_keep R3.out hb4); have M4 := hid hm; clear hb4 hm; obtain ⟨⟨z0, z1, z2, z3, z4, z5⟩, ⟨f0, f1, f2, f3, f4, f5⟩⟩ := six_free R4.out)
    | fail)
  have hgr := set6_grown w4 (w.heap.size + 1 + 1) (.int .i64 r0.kind) (.string r0.name) (.string r0.num) (.int .u64 r0.bits) (.int .i64 r0.var) (.slice q4 r0.args.length c4)
  have hbw := set6_below B4.out (show w.heap.size ≤ w.heap.size + 1 + 1 by omega) (.int .i64 r0.kind) (.string r0.name) (.string r0.num) (.int .u64 r0.bits) (.int .i64 r0.var) (.slice q4 r0.args.length c4)
  have hm := TmAt.past (b := w.heap.size + 1 + 1) (t := r0) (p := q4) (show Blank (above w4 w.heap.size) (w.heap.size + 1 + 1) from (above_heap (by omega)).trans R4.out) (above_past hgr) GR.out M4.out
  exact bodyPost_ret (results_tm rfl _ _ (w.heap.size + 1 + 1) r0 q4 c4 (by rfl) (set6 R4.out _ _ _ _ _ _)) rfl ⟨q4, c4, rfl, hm, hbw⟩
end Go.Proofs.YtiaddfedaikaiaaGreatDoor
