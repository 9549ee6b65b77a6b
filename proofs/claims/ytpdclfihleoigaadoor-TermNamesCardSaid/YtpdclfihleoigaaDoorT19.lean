/- Walks: List of two terms without arguments that are no variables. No condition but those that the theorem names. -/
import Derived.Test.YtpdclfihleoigaaDoorT18
import Derived.Test.YtpdclfihleoigaaDoorT18b
namespace Go.Proofs.YtpdclfihleoigaaDoor
open Go.RowKit Go.Shelf

theorem back_stops (n : Nat) (hn : 1 ≤ n) (Bm g K cap : Nat) (x0 x1 : El) (w : World) (hm : w.heap[Bm]? = some (.cells #[.slice (some ⟨g, 0, none⟩) 2 cap] 24 (0, 0))) (hg : w.heap[g]? = some (pobj x0.1 x1.1 x0.2.1 x1.2.1 x0.2.2 x1.2.2)) (hBm : Bm ≠ K) (hgK : g ≠ K) :
    SeqStopsK Fence.wide n Tryd.prog 40 #[.pointer (some ⟨Bm, 0, none⟩)] (enc2 x0 x1) (Lv K) (fun xs => xs = [true, false]) (fun pre => pre <+: [true, false]) 2 w := fun l J Jx W hW hJ _ hY h0 =>
  back_in n hn l Bm g K cap x0 x1 J Jx hY W hJ (obj_keep hm hW) (obj_keep hg hW) hBm hgK h0

theorem results_pair {fn : Func} {p u : Tmp} {b : Nat} {t : Tm} {q : Option Addr} {cap : Nat} (h : fn.results = #[.cell p 26, .tmp u]) (tmps : Array Value) (W : World) (x : Value) (hp : tmps.getD p undef = .pointer (some ⟨b, 0, none⟩) ∧ tmps.getD u undef = x) (hg : W.heap[b]? = some (tobj t q cap)) :
    (results fn tmps).run Tryd.prog W = .ok (.tuple #[t.val q cap, x]) W := by
  have hl := run_loadVar_row (P := Tryd.prog) W b 26 26 _ _ _ hg Tryd.underlying26 rfl (by kernel_rfl)
  rw [results_cell_tmp h, hp.1, hp.2]
  simp [asAddr, Result.andThen, hl, Tm.val]
set_option maxRecDepth 100000 in
set_option maxHeartbeats 8000000 in
theorem list_two (vn vi : ByteArray → Bool) (vb : Int → Bool) (D : Tm → Prop) (s0 s1 se : ByteArray) (g cap : Nat) (w : World)
    (hg : w.heap[g]? = some (pobj (atomT s0) (atomT s1) none none 0 0)) (hO : Oracle vn vi vb D w) (hD : AllR D [atomT s0, atomT s1]) (hDe : AllT D (atomT se)) (he : checksErr vn vi vb [atomT s0, atomT s1] = 0) (hee : checkErr vn vi vb (atomT se) = 0) :
    Calls Tryd.prog 18 #[.slice (some ⟨g, 0, none⟩) 2 cap, (atomT se).val none 0] w fun e w' => ∃ p q, e = .returned (.tuple #[(consT (atomT s0) (consT (atomT s1) (atomT se))).val p q, .int .i64 0]) ∧ TmAt (above w' w.heap.size) (consT (atomT s0) (consT (atomT s1) (atomT se))) p ∧ Below w.heap.size w w' := by
  show Calls Tryd.prog 18 #[.slice (some ⟨g, 0, none⟩) 2 cap, .agg #[.int .i64 2, .string se, .string ⟨#[]⟩, .int .u64 0, .int .i64 0, .slice none 0 0]] w _
  refine (callsIn_wide (n := 6)).1 ?_
  have hR : RowT w [atomT s0, atomT s1] g 0 := row_two hg (leaf_at _ _ _ _ _ _) (leaf_at _ _ _ _ _ _)
  have HR := hid hR
  have HO := hid hO
  have C1 := hid (show ∀ (W : World), Below w.heap.size w W → Calls Tryd.prog 26 #[.slice (some ⟨g, 0, none⟩) 2 cap] W fun e w' => e = .returned (.int .i64 0) ∧ Below W.heap.size W w' from fun W hW => by
    have h := checks_any vn vi vb D [atomT s0, atomT s1] (some ⟨g, 0, none⟩) cap W (by unfold maxLen; simp) (.inr ⟨_, _, rfl, RowT.keep hW HR.out⟩) (HO.out.keep hW) hD
    rw [he] at h
    exact h)
  have C2 := hid (show ∀ (W : World), Below w.heap.size w W → Calls Tryd.prog 9 #[.agg #[.int .i64 2, .string se, .string ⟨#[]⟩, .int .u64 0, .int .i64 0, .slice none 0 0]] W fun e w' => e = .returned (.int .i64 0) ∧ Below W.heap.size W w' from fun W hW => by
    have h := check_any vn vi vb D (atomT se) none 0 W (leaf_at _ _ _ _ _ _) (HO.out.keep hW) hDe
    rw [hee] at h
    exact h)
  have C3 := hid (show ∀ (s : ByteArray) (W : World), Calls Tryd.prog 7 #[.agg #[.int .i64 2, .string s, .string ⟨#[]⟩, .int .u64 0, .int .i64 0, .slice none 0 0]] W fun e w' => e = .returned (.int .i64 1) ∧ Below W.heap.size W w' from fun s W => nodes_any (atomT s) none 0 W (leaf_at _ _ _ _ _ _))
  have C4 := hid (show ∀ (s : ByteArray) (W : World), Calls Tryd.prog 31 #[.agg #[.int .i64 2, .string s, .string ⟨#[]⟩, .int .u64 0, .int .i64 0, .slice none 0 0]] W fun e w' => e = .returned (.agg #[.int .i64 2, .string s, .string ⟨#[]⟩, .int .u64 0, .int .i64 0, .slice none 0 0]) ∧ Below W.heap.size W w' from fun s W => copy_leaf 2 s ⟨#[]⟩ 0 none 0 W (by decide))
  have HG := hid hg
  clear hR hO hD hDe he hee hg
  refine callsIn_of_wp_marks Tryd.func18 rfl trivial ?_ rfl
  simp only [Tryd.ntmps18, List.size_toArray, List.length_cons, List.length_nil, Nat.reduceAdd, Nat.reduceSub, Array.replicate_succ, Array.replicate_zero, List.push_toArray, List.append_toArray, List.nil_append, List.cons_append]
  rw [wpIn_wide]
  obtain ⟨W1, hW1⟩ : ∃ W1, W1 = (w.alloc (tobj (atomT se) none 0)).alloc (tobj (leaf 0 ⟨#[]⟩ ⟨#[]⟩ 0) none 0) := ⟨_, rfl⟩
  have hB1 : Below w.heap.size w W1 := by rw [hW1]; exact ((Below.refl _ _).alloc (Nat.le_refl _) _).alloc (by simp) _
  have hz1 : W1.heap.size = w.heap.size + 2 := by rw [hW1]; simp
  have E1 := hid (show W1.heap[w.heap.size]? = some (tobj (atomT se) none 0) by rw [hW1]; exact obj_keep (World.alloc_heap_new w (tobj (atomT se) none 0)) ((Below.refl _ _).alloc (Nat.le_refl _) _))
  have Z1 := hid (show W1.heap[w.heap.size + 1]? = some (tobj (leaf 0 ⟨#[]⟩ ⟨#[]⟩ 0) none 0) by rw [hW1]; have h := World.alloc_heap_new (w.alloc (tobj (atomT se) none 0)) (tobj (leaf 0 ⟨#[]⟩ ⟨#[]⟩ 0) none 0); rwa [World.size_alloc] at h)
  have B1 := hid hB1
  have hW1' : W1 = (w.alloc (.cells #[.int .i64 2, .string se, .string ⟨#[]⟩, .int .u64 0, .int .i64 0, .slice none 0 0] 26)).alloc (.cells #[.int .i64 0, .string ⟨#[]⟩, .string ⟨#[]⟩, .int .u64 0, .int .i64 0, .slice none 0 0] 26) := hW1
  have HW1 := hid hW1'
  clear hB1 hW1 hW1'
  go_wp2_with (first
    | (go_at_call 26; rw [← HW1.out]; (with_reducible refine (C1.out _ B1.out).mono ?_); rintro e w2 ⟨rfl, hb2⟩; have B2 := hid (B1.out.trans (hb2.mono B1.out.size)); have E2 := hid (obj_keep E1.out hb2); have Z2 := hid (obj_keep Z1.out hb2); obtain ⟨⟨x0, x1, x2, x3, x4, x5⟩, _⟩ := six_free (show w2.heap[w.heap.size]? = some (.cells #[.int .i64 2, .string se, .string ⟨#[]⟩, .int .u64 0, .int .i64 0, .slice none 0 0] 26 (0, 0)) from E2.out); clear hb2 E1 Z1 C1)
    | (go_at_call 9; (with_reducible refine (C2.out _ B2.out).mono ?_); rintro e w3 ⟨rfl, hb3⟩; have B3 := hid (B2.out.trans (hb3.mono B2.out.size)); have E3 := hid (obj_keep E2.out hb3); have Z3 := hid (obj_keep Z2.out hb3); obtain ⟨⟨y0, y1, y2, y3, y4, y5⟩, _⟩ := six_free (show w3.heap[w.heap.size]? = some (.cells #[.int .i64 2, .string se, .string ⟨#[]⟩, .int .u64 0, .int .i64 0, .slice none 0 0] 26 (0, 0)) from E3.out); clear hb3 x0 x1 x2 x3 x4 x5 E2 Z2 C2)
    | (go_at_call 7; (with_reducible refine (C3.out se _).mono ?_); rintro e w4 ⟨rfl, hb4⟩; have B4 := hid (B3.out.trans (hb4.mono B3.out.size)); have E4 := hid (obj_keep E3.out hb4); have Z4 := hid (obj_keep Z3.out hb4); clear hb4 y0 y1 y2 y3 y4 y5 E3 Z3))
  go_loopw [30, 8] (fun i n wr => Hid (Below w4.heap.size w4 wr) ∧ ((i = .int .i64 0 ∧ n = .int .i64 1) ∨ (i = .int .i64 1 ∧ n = .int .i64 3) ∨ (i = .int .i64 2 ∧ n = .int .i64 5))) (fun i _ _ => 2 - (intOf i).toNat)
  case atStart => exact ⟨hid (Below.refl _ _), .inl ⟨rfl, rfl⟩⟩
  case round =>
    obtain ⟨hB, h⟩ := hrel
    have hg := obj_keep HG.out (B4.out.trans (hB.out.mono B4.out.size))
    have d := fun (j : Nat) => cells_of (show wr.heap[g]? = some (.cells _ _ (0, 0)) from hg) j
    rcases h with ⟨rfl, rfl⟩ | ⟨rfl, rfl⟩ | ⟨rfl, rfl⟩
    · have d0 : wr.cell? ⟨g, 0, none⟩ = some (.int .i64 2) := (d 0).trans rfl
      have d1 : wr.cell? ⟨g, 1, none⟩ = some (.string s0) := (d 1).trans rfl
      have d2 : wr.cell? ⟨g, 2, none⟩ = some (.string ⟨#[]⟩) := (d 2).trans rfl
      have d3 : wr.cell? ⟨g, 3, none⟩ = some (.int .u64 0) := (d 3).trans rfl
      have d4 : wr.cell? ⟨g, 4, none⟩ = some (.int .i64 0) := (d 4).trans rfl
      have d5 : wr.cell? ⟨g, 5, none⟩ = some (.slice none 0 0) := (d 5).trans rfl
      clear d hg
      go_wp2_with (go_at_call 7; (with_reducible refine (C3.out s0 _).mono ?_); rintro e w5 ⟨rfl, hb5⟩; have B5 := hid ((hB.out.alloc hB.out.size _).trans (hb5.mono (by have := hB.out.size; simp; omega))); clear hb5)
      go_roundw
      case rel => exact ⟨B5, .inr (.inl ⟨rfl, rfl⟩)⟩
      case measure => simp [intOf]
    · have d6 : wr.cell? ⟨g, 6, none⟩ = some (.int .i64 2) := (d 6).trans rfl
      have d7 : wr.cell? ⟨g, 7, none⟩ = some (.string s1) := (d 7).trans rfl
      have d8 : wr.cell? ⟨g, 8, none⟩ = some (.string ⟨#[]⟩) := (d 8).trans rfl
      have d9 : wr.cell? ⟨g, 9, none⟩ = some (.int .u64 0) := (d 9).trans rfl
      have d10 : wr.cell? ⟨g, 10, none⟩ = some (.int .i64 0) := (d 10).trans rfl
      have d11 : wr.cell? ⟨g, 11, none⟩ = some (.slice none 0 0) := (d 11).trans rfl
      clear d hg
      go_wp2_with (go_at_call 7; (with_reducible refine (C3.out s1 _).mono ?_); rintro e w5 ⟨rfl, hb5⟩; have B5 := hid ((hB.out.alloc hB.out.size _).trans (hb5.mono (by have := hB.out.size; simp; omega))); clear hb5)
      go_roundw
      case rel => exact ⟨B5, .inr (.inr ⟨rfl, rfl⟩)⟩
      case measure => simp [intOf]
    · have E5 := hid (obj_keep E4.out hB.out)
      have Z5 := hid (obj_keep Z4.out hB.out)
      have B5 := hid (B4.out.trans (hB.out.mono B4.out.size))
      clear d
      obtain ⟨⟨x0, x1, x2, x3, x4, x5⟩, _⟩ := six_free (show wr.heap[w.heap.size]? = some (.cells #[.int .i64 2, .string se, .string ⟨#[]⟩, .int .u64 0, .int .i64 0, .slice none 0 0] 26 (0, 0)) from E5.out)
      go_wp2_with (first
        | (go_at_call 31; (with_reducible refine (C4.out se _).mono ?_); rintro e w6 ⟨rfl, hb6⟩; have B6 := hid (B5.out.trans (hb6.mono B5.out.size)); have E6 := hid (obj_keep E5.out hb6); have Z6 := hid (obj_keep Z5.out hb6); clear hb6)
        | (go_at_call 32; (with_reducible refine (backward_any _ _ _ _).mono ?_); rintro e w7 ⟨rfl, hw7⟩; have HW7 := hid hw7; clear hw7))
      obtain ⟨K, hK⟩ : ∃ K, K = w6.heap.size := ⟨_, rfl⟩
      have hsz6 : (w6.alloc (tobj (atomT se) none 0)).heap.size = K + 1 := by simp [hK]
      have e7 : w7 = (w6.alloc (tobj (atomT se) none 0)).alloc (.cells #[.slice (some ⟨g, 0, none⟩) 2 cap] 24) := HW7.out
      have hb67 : Below w6.heap.size w6 w7 := by rw [e7]; exact ((Below.refl _ _).alloc (Nat.le_refl _) _).alloc (by simp) _
      have hs7 : w7.heap.size = K + 2 := by rw [e7]; simp [hK]
      have hK7 : w7.heap[K]? = some (tobj (atomT se) none 0) := by rw [e7, hK]; exact obj_keep (World.alloc_heap_new w6 (tobj (atomT se) none 0)) ((Below.refl _ _).alloc (Nat.le_refl _) _)
      have hM7 : w7.heap[K + 1]? = some (.cells #[.slice (some ⟨g, 0, none⟩) 2 cap] 24 (0, 0)) := by
        have h := World.alloc_heap_new (w6.alloc (tobj (atomT se) none 0)) (.cells #[.slice (some ⟨g, 0, none⟩) 2 cap] 24)
        rw [hsz6] at h
        rw [e7]
        exact h
      have hG7 := obj_keep HG.out (B6.out.trans (hb67.mono B6.out.size))
      have hgK : g ≠ K := by have h1 := lt_of_block HG.out; have h2 := B6.out.size; omega
      have Z7 := hid (obj_keep Z6.out hb67)
      have B7 := hid (B6.out.trans (hb67.mono B6.out.size))
      have hwK : w.heap.size + 2 ≤ K := by have h1 := lt_of_block Z6.out; omega
      rw [← hK]
      clear e7 hb67 HW7 hK
      rw [← wpIn_wide (n := 6)]
      refine wpIn_rangeFunc_ownH rfl (by omega) (gf := 40) (lb := #[.pointer (some ⟨K + 1, 0, none⟩)]) rfl trivial (enters_of Tryd.func40 (by kernel_rfl) rfl)
        (back_stops 5 (by omega) (K + 1) g K cap (atomT s0, none, 0) (atomT s1, none, 0) w7 hM7 hG7 (by omega) hgK) lv_t (fun W l o o' _ h hc _ => lv_b K W l o o' h hc) (Below.refl _ _) (fun x => by cases x <;> rfl)
        (fun pre W => Held K w7 W ∧ BoxT W K w7.heap.size (accT s0 s1 se pre))
        (fun _ _ _ => False)
        (OwnFrom.and held_own (boxT_own _))
        (fun _ _ _ _ _ hs _ _ => hs)
        ⟨Held.refl _ _, none, 0, hK7, leaf_at _ _ _ _ _ _⟩
        (fun x a' W => ∃ Bx, w7.heap.size ≤ Bx ∧ W.heap[Bx]? = some (tobj (atomT (if x then s1 else s0)) none 0) ∧ a' = { tmps := #[.slice (some ⟨g, 0, none⟩) 2 cap, .agg #[.int .i64 2, .string se, .string ⟨#[]⟩, .int .u64 0, .int .i64 0, .slice none 0 0], undef, .pointer (some ⟨w.heap.size, 0, none⟩), .pointer (some ⟨w.heap.size + 1, 0, none⟩), .int .i64 0, .int .i64 0, .int .i64 0, .int .i64 5, undef, u10, .pointer (some ⟨K, 0, none⟩), undef, .pointer (some ⟨Bx, 0, none⟩), .slice (some ⟨g, 0, none⟩) 2 cap, .int .i64 0, .int .i64 0, .bool false, undef, undef, .agg #[.int .i64 2, .string se, .string ⟨#[]⟩, .int .u64 0, .int .i64 0, .slice none 0 0], .int .i64 0, .int .i64 0, .bool false, undef, undef, .agg #[.int .i64 2, .string se, .string ⟨#[]⟩, .int .u64 0, .int .i64 0, .slice none 0 0], .int .i64 1, .slice (some ⟨g, 0, none⟩) 2 cap, .int .i64 2, .int .i64 2, .bool false, u32, u33, u34, u35, u36, u37, u38, u39, .int .i64 5, .bool false, undef, .agg #[.int .i64 2, .string se, .string ⟨#[]⟩, .int .u64 0, .int .i64 0, .slice none 0 0], .agg #[.int .i64 2, .string se, .string ⟨#[]⟩, .int .u64 0, .int .i64 0, .slice none 0 0], .slice (some ⟨g, 0, none⟩) 2 cap, .func (.func 40) #[] #[.pointer (some ⟨K + 1, 0, none⟩)], .int .i64 (if x then 1 else 0), .agg #[.int .i64 2, .string (if x then s1 else s0), .string ⟨#[]⟩, .int .u64 0, .int .i64 0, .slice none 0 0], undef, undef, undef, undef, undef, undef], defers := [] })
        (fun x a' _ X Y row hs hg hr => by obtain ⟨Bx, h1, h2, h3⟩ := hs; exact ⟨Bx, h1, block_own (β := Unit) Bx _ rfl () X Y row h2 hg (fun r e => (hr r e).2), h3⟩)
        ?assign ?body ?done ?stop
      case assign =>
        rintro l pre x W K' ⟨hH, hBx⟩ hK'
        obtain ⟨p, cp, hp, ht⟩ := hBx
        have hlv : ∀ o, Lv K W (W.alloc o) := fun o => Lv.of_below ((Below.refl _ _).alloc (Nat.le_refl _) o)
        have hal : ∀ o, Held K w7 (W.alloc o) := fun o => hH.trans (Held.of_below ((Below.refl _ _).alloc (Nat.le_refl _) o))
        have hbx : ∀ o, BoxT (W.alloc o) K w7.heap.size (accT s0 s1 se pre) := fun o => ⟨p, cp, obj_keep hp ((Below.refl _ _).alloc (Nat.le_refl _) o), (above_keep ht (fun b q v _ h => heap_cell_keep ((Below.refl _ _).alloc (Nat.le_refl _) o) h)).1⟩
        cases x
        · simp only [enc2, El.val, Tm.val, if_true, Bool.false_eq_true, if_false] at hK' ⊢
          gi_wp2_with (rw [Oper.semAt_eq _ _ _ (fun c h => by cases h)]; go_simp; try go_bits)
          exact hK' _ _ ((KeepsOthers.alloc _ _).from _) (hlv _) ⟨hal _, hbx _⟩ ⟨W.heap.size, hH.size, World.alloc_heap_new W _, rfl⟩
        · simp only [enc2, El.val, Tm.val, if_true, Bool.false_eq_true, if_false] at hK' ⊢
          gi_wp2_with (rw [Oper.semAt_eq _ _ _ (fun c h => by cases h)]; go_simp; try go_bits)
          exact hK' _ _ ((KeepsOthers.alloc _ _).from _) (hlv _) ⟨hal _, hbx _⟩ ⟨W.heap.size, hH.size, World.alloc_heap_new W _, rfl⟩
      case body =>
        rintro l pre x a' W hl ⟨r, hr⟩ ⟨hH, p, cp, hp, ht⟩ ⟨Bx, hBx, bX, rfl⟩ hlt
        generalize hacc : accT s0 s1 se pre = acc at *
        have hsnoc := accT_snoc s0 s1 se pre x
        rw [hacc] at hsnoc
        generalize (if x = true then s1 else s0) = sx at *
        generalize (if x = true then (1 : Int) else 0) = xi at *
        have hS := hid hsnoc
        clear hsnoc hacc
        have hmix : Tryd.prog.follows .mixedOrders = true := by kernel_rfl
        have HPK := hid hp
        have HTK := hid ht
        have HH := hid hH
        have hKb : K ≠ Bx := by omega
        have hKw : K < w7.heap.size := by omega
        have hKl := lt_of_block hp
        obtain ⟨⟨x0, x1, x2, x3, x4, x5⟩, _⟩ := six_free (show W.heap[Bx]? = some (.cells #[.int .i64 2, .string sx, .string ⟨#[]⟩, .int .u64 0, .int .i64 0, .slice none 0 0] 26 (0, 0)) from bX)
        obtain ⟨⟨y0, y1, y2, y3, y4, y5⟩, _⟩ := six_free (show W.heap[K]? = some (.cells #[.int .i64 acc.kind, .string acc.name, .string acc.num, .int .u64 acc.bits, .int .i64 acc.var, .slice p acc.args.length cp] 26 (0, 0)) from hp)
        clear hp ht hH bX
        gi_wp2
        refine round_any (by kernel_rfl) (by kernel_rfl) ?_
        refine wpAny_ready (rs := [0, 2]) (by kernel_rfl) (by simp) ?_
        refine AllReady.cons rfl (fun K' hK' => ?_) ?_
        · go_simp
          refine hK' _ _ ?_
          clear hK' K'
          (try simp only [Act.put, List.setIfInBounds_toArray, List.set_cons_zero, List.set_cons_succ])
          refine wpAny_ready (rs := [1, 2]) (by kernel_rfl) (by simp) ?_
          refine AllReady.cons rfl (fun K' hK' => ?_) ?_
          · go_simp
            go_at_call 31
            (with_reducible refine (C4.out sx _).mono ?_)
            rintro e w8 ⟨rfl, hb8⟩
            have B8 := hid hb8
            have H8 := hid (show w8.heap[K]? = some (.cells #[.int .i64 acc.kind, .string acc.name, .string acc.num, .int .u64 acc.bits, .int .i64 acc.var, .slice p acc.args.length cp] 26 (0, 0)) from obj_keep (show W.drew.heap[K]? = some (tobj acc p cp) from HPK.out) hb8)
            have H9 := hid (show (w8.alloc (.cells #[.int .i64 2, .string sx, .string ⟨#[]⟩, .int .u64 0, .int .i64 0, .slice none 0 0, .int .i64 acc.kind, .string acc.name, .string acc.num, .int .u64 acc.bits, .int .i64 acc.var, .slice p acc.args.length cp] 26)).heap[K]? = some (.cells #[.int .i64 acc.kind, .string acc.name, .string acc.num, .int .u64 acc.bits, .int .i64 acc.var, .slice p acc.args.length cp] 26 (0, 0)) from obj_keep H8.out ((Below.refl _ _).alloc (Nat.le_refl _) _))
            obtain ⟨⟨z0, z1, z2, z3, z4, z5⟩, _⟩ := six_free H8.out
            obtain ⟨⟨t0, t1, t2, t3, t4, t5⟩, ⟨f0, f1, f2, f3, f4, f5⟩⟩ := six_free H9.out
            clear hb8
            refine hK' _ _ ?_
            clear hK' K'
            (try simp only [Act.put, List.setIfInBounds_toArray, List.set_cons_zero, List.set_cons_succ])
            refine wpAny_ready (rs := [2]) (by kernel_rfl) (by simp) ?_
            refine AllReady.cons rfl (fun K' hK' => ?_) AllReady.nil
            go_simp
            refine hK' _ _ ?_
            clear hK' K'
            (try simp only [Act.put, List.setIfInBounds_toArray, List.set_cons_zero, List.set_cons_succ])
            refine wpAny_ready (rs := [3]) (by kernel_rfl) (by simp) ?_
            refine AllReady.cons rfl (fun K' hK' => ?_) AllReady.nil
            go_simp
            refine hK' _ _ ?_
            clear hK' K'
            (try simp only [Act.put, List.setIfInBounds_toArray, List.set_cons_zero, List.set_cons_succ])
            refine wpAny_ready (rs := [4]) (by kernel_rfl) (by simp) ?_
            refine AllReady.cons rfl (fun K' hK' => ?_) AllReady.nil
            go_simp
            refine hK' _ _ ?_
            clear hK' K'
            (try simp only [Act.put, List.setIfInBounds_toArray, List.set_cons_zero, List.set_cons_succ])
            refine wpAny_ready (rs := [5]) (by kernel_rfl) (by simp) ?_
            refine AllReady.cons rfl (fun K' hK' => ?_) AllReady.nil
            go_simp
            refine hK' _ _ ?_
            clear hK' K'
            refine wpAny_done (by kernel_rfl) ?_ _
            refine ⟨rfl, ?_⟩
            have hE := body_end (acc := acc) (sx := sx) hKw HPK.out HTK.out HH.out (((Below.refl W.heap.size W).drew).trans B8.out) _ rfl
            rw [← hS.out] at hE
            exact hE
          refine AllReady.cons rfl (fun K' hK' => ?_) AllReady.nil
          go_simp
          refine hK' _ _ ?_
          clear hK' K'
          (try simp only [Act.put, List.setIfInBounds_toArray, List.set_cons_zero, List.set_cons_succ])
          refine wpAny_ready (rs := [1]) (by kernel_rfl) (by simp) ?_
          refine AllReady.cons rfl (fun K' hK' => ?_) AllReady.nil
          go_simp
          go_at_call 31
          (with_reducible refine (C4.out sx _).mono ?_)
          rintro e w8 ⟨rfl, hb8⟩
          have B8 := hid hb8
          have H8 := hid (show w8.heap[K]? = some (.cells #[.int .i64 acc.kind, .string acc.name, .string acc.num, .int .u64 acc.bits, .int .i64 acc.var, .slice p acc.args.length cp] 26 (0, 0)) from obj_keep (show W.drew.heap[K]? = some (tobj acc p cp) from HPK.out) hb8)
          have H9 := hid (show (w8.alloc (.cells #[.int .i64 2, .string sx, .string ⟨#[]⟩, .int .u64 0, .int .i64 0, .slice none 0 0, .int .i64 acc.kind, .string acc.name, .string acc.num, .int .u64 acc.bits, .int .i64 acc.var, .slice p acc.args.length cp] 26)).heap[K]? = some (.cells #[.int .i64 acc.kind, .string acc.name, .string acc.num, .int .u64 acc.bits, .int .i64 acc.var, .slice p acc.args.length cp] 26 (0, 0)) from obj_keep H8.out ((Below.refl _ _).alloc (Nat.le_refl _) _))
          obtain ⟨⟨z0, z1, z2, z3, z4, z5⟩, _⟩ := six_free H8.out
          obtain ⟨⟨t0, t1, t2, t3, t4, t5⟩, ⟨f0, f1, f2, f3, f4, f5⟩⟩ := six_free H9.out
          clear hb8
          refine hK' _ _ ?_
          clear hK' K'
          (try simp only [Act.put, List.setIfInBounds_toArray, List.set_cons_zero, List.set_cons_succ])
          refine wpAny_ready (rs := [3]) (by kernel_rfl) (by simp) ?_
          refine AllReady.cons rfl (fun K' hK' => ?_) AllReady.nil
          go_simp
          refine hK' _ _ ?_
          clear hK' K'
          (try simp only [Act.put, List.setIfInBounds_toArray, List.set_cons_zero, List.set_cons_succ])
          refine wpAny_ready (rs := [4]) (by kernel_rfl) (by simp) ?_
          refine AllReady.cons rfl (fun K' hK' => ?_) AllReady.nil
          go_simp
          refine hK' _ _ ?_
          clear hK' K'
          (try simp only [Act.put, List.setIfInBounds_toArray, List.set_cons_zero, List.set_cons_succ])
          refine wpAny_ready (rs := [5]) (by kernel_rfl) (by simp) ?_
          refine AllReady.cons rfl (fun K' hK' => ?_) AllReady.nil
          go_simp
          refine hK' _ _ ?_
          clear hK' K'
          refine wpAny_done (by kernel_rfl) ?_ _
          refine ⟨rfl, ?_⟩
          have hE := body_end (acc := acc) (sx := sx) hKw HPK.out HTK.out HH.out (((Below.refl W.heap.size W).drew).trans B8.out) _ rfl
          rw [← hS.out] at hE
          exact hE
        refine AllReady.cons rfl (fun K' hK' => ?_) AllReady.nil
        go_simp
        refine hK' _ _ ?_
        clear hK' K'
        (try simp only [Act.put, List.setIfInBounds_toArray, List.set_cons_zero, List.set_cons_succ])
        refine wpAny_ready (rs := [0]) (by kernel_rfl) (by simp) ?_
        refine AllReady.cons rfl (fun K' hK' => ?_) AllReady.nil
        go_simp
        refine hK' _ _ ?_
        clear hK' K'
        (try simp only [Act.put, List.setIfInBounds_toArray, List.set_cons_zero, List.set_cons_succ])
        refine wpAny_ready (rs := [1]) (by kernel_rfl) (by simp) ?_
        refine AllReady.cons rfl (fun K' hK' => ?_) AllReady.nil
        go_simp
        go_at_call 31
        (with_reducible refine (C4.out sx _).mono ?_)
        rintro e w8 ⟨rfl, hb8⟩
        have B8 := hid hb8
        have H8 := hid (show w8.heap[K]? = some (.cells #[.int .i64 acc.kind, .string acc.name, .string acc.num, .int .u64 acc.bits, .int .i64 acc.var, .slice p acc.args.length cp] 26 (0, 0)) from obj_keep (show W.drew.heap[K]? = some (tobj acc p cp) from HPK.out) hb8)
        have H9 := hid (show (w8.alloc (.cells #[.int .i64 2, .string sx, .string ⟨#[]⟩, .int .u64 0, .int .i64 0, .slice none 0 0, .int .i64 acc.kind, .string acc.name, .string acc.num, .int .u64 acc.bits, .int .i64 acc.var, .slice p acc.args.length cp] 26)).heap[K]? = some (.cells #[.int .i64 acc.kind, .string acc.name, .string acc.num, .int .u64 acc.bits, .int .i64 acc.var, .slice p acc.args.length cp] 26 (0, 0)) from obj_keep H8.out ((Below.refl _ _).alloc (Nat.le_refl _) _))
        obtain ⟨⟨z0, z1, z2, z3, z4, z5⟩, _⟩ := six_free H8.out
        obtain ⟨⟨t0, t1, t2, t3, t4, t5⟩, ⟨f0, f1, f2, f3, f4, f5⟩⟩ := six_free H9.out
        clear hb8
        refine hK' _ _ ?_
        clear hK' K'
        (try simp only [Act.put, List.setIfInBounds_toArray, List.set_cons_zero, List.set_cons_succ])
        refine wpAny_ready (rs := [3]) (by kernel_rfl) (by simp) ?_
        refine AllReady.cons rfl (fun K' hK' => ?_) AllReady.nil
        go_simp
        refine hK' _ _ ?_
        clear hK' K'
        (try simp only [Act.put, List.setIfInBounds_toArray, List.set_cons_zero, List.set_cons_succ])
        refine wpAny_ready (rs := [4]) (by kernel_rfl) (by simp) ?_
        refine AllReady.cons rfl (fun K' hK' => ?_) AllReady.nil
        go_simp
        refine hK' _ _ ?_
        clear hK' K'
        (try simp only [Act.put, List.setIfInBounds_toArray, List.set_cons_zero, List.set_cons_succ])
        refine wpAny_ready (rs := [5]) (by kernel_rfl) (by simp) ?_
        refine AllReady.cons rfl (fun K' hK' => ?_) AllReady.nil
        go_simp
        refine hK' _ _ ?_
        clear hK' K'
        refine wpAny_done (by kernel_rfl) ?_ _
        refine ⟨rfl, ?_⟩
        have hE := body_end (acc := acc) (sx := sx) hKw HPK.out HTK.out HH.out (((Below.refl W.heap.size W).drew).trans B8.out) _ rfl
        rw [← hS.out] at hE
        exact hE
      case done =>
        rintro Dd ys W hDd hys ⟨hH, p, cp, hp, ht⟩ hKD
        subst hys
        have hp : W.heap[K]? = some (tobj (consT (atomT s0) (consT (atomT s1) (atomT se))) p cp) := hp
        have ht : TmAt (above W w7.heap.size) (consT (atomT s0) (consT (atomT s1) (atomT se))) p := ht
        obtain ⟨tot, htot⟩ : ∃ tot, tot = consT (atomT s0) (consT (atomT s1) (atomT se)) := ⟨_, rfl⟩
        rw [← htot] at hp ht
        have HTOT := hid htot
        clear htot
        have HZ := hid (show W.heap[w.heap.size + 1]? = some (.cells #[.int .i64 0, .string ⟨#[]⟩, .string ⟨#[]⟩, .int .u64 0, .int .i64 0, .slice none 0 0] 26 (0, 0)) from hH.block Z7.out (by omega))
        obtain ⟨⟨z0, z1, z2, z3, z4, z5⟩, ⟨f0, f1, f2, f3, f4, f5⟩⟩ := six_free HZ.out
        obtain ⟨⟨y0, y1, y2, y3, y4, y5⟩, _⟩ := six_free (show W.heap[K]? = some (.cells #[.int .i64 tot.kind, .string tot.name, .string tot.num, .int .u64 tot.bits, .int .i64 tot.var, .slice p tot.args.length cp] 26 (0, 0)) from hp)
        have HP := hid hp
        have HT := hid ht
        have HH := hid hH
        have HD := hid hKD
        clear hp ht hH hKD
        go_wp2
        obtain ⟨e1, e2, e3, e4⟩ := list_end (by omega) hwK HP.out HT.out HH.out B7.out HZ.out hDd HD.out _ rfl
        refine ⟨by simp, .inl ⟨_, _, rfl, run_takeDeferred e1, ?_⟩⟩
        refine ⟨_, results_pair (b := w.heap.size + 1) (q := p) (cap := cp) rfl _ _ _ ⟨by rfl, by rfl⟩ e2, p, cp, by rw [HTOT.out]; rfl, by rw [← HTOT.out]; exact e3, e4⟩
      case stop =>
        rintro Dd c pre W _ _ h _
        exact h.elim
end Go.Proofs.YtpdclfihleoigaaDoor
