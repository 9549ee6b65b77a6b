/- Walks: classOf, put, find, and what asks find. No condition but those that each theorem names. -/
import Derived.Test.YtnbhmgonijlplaaDoorTab
import Derived.Deep.RegionHeld3
import Derived.Deep.QuietTactic
import Derived.BigQuiet
namespace Go.Proofs.YtnbhmgonijlplaaDoor
open Go.RowKit

/-- The class of a type. -/
def cls (k : Int) : Int := if k = 1 ∨ k = 2 then 1 else if k = 3 ∨ k = 4 ∨ k = 5 then 2 else if k = 6 ∨ k = 7 then 3 else 0
theorem cls_wf (k : Int) : (Lit.int .i64 (cls k)).wf = true := by unfold cls; split <;> (try split) <;> (try split) <;> decide

set_option maxRecDepth 100000 in
set_option maxHeartbeats 1000000 in
theorem classOf_any (k : Int) (w : World) : Calls Tryd.prog 37 #[.int .i64 k] w fun e w' => e = .returned (.int .i64 (cls k)) ∧ w = w' := by
  rcases (show k = 1 ∨ k = 2 ∨ k = 3 ∨ k = 4 ∨ k = 5 ∨ k = 6 ∨ k = 7 ∨ (k ≠ 1 ∧ k ≠ 2 ∧ k ≠ 3 ∧ k ≠ 4 ∧ k ≠ 5 ∧ k ≠ 6 ∧ k ≠ 7) by omega) with rfl | rfl | rfl | rfl | rfl | rfl | rfl | ⟨h1, h2, h3, h4, h5, h6, h7⟩
  · go_enter Tryd.func37, Tryd.ntmps37
    go_wp2
    go_ret
    exact ⟨rfl, rfl⟩
  · go_enter Tryd.func37, Tryd.ntmps37
    go_wp2
    go_ret
    exact ⟨rfl, rfl⟩
  · go_enter Tryd.func37, Tryd.ntmps37
    go_wp2
    go_ret
    exact ⟨rfl, rfl⟩
  · go_enter Tryd.func37, Tryd.ntmps37
    go_wp2
    go_ret
    exact ⟨rfl, rfl⟩
  · go_enter Tryd.func37, Tryd.ntmps37
    go_wp2
    go_ret
    exact ⟨rfl, rfl⟩
  · go_enter Tryd.func37, Tryd.ntmps37
    go_wp2
    go_ret
    exact ⟨rfl, rfl⟩
  · go_enter Tryd.func37, Tryd.ntmps37
    go_wp2
    go_ret
    exact ⟨rfl, rfl⟩
  · have e : Hid (cls k = 0) := hid (by unfold cls; rw [if_neg (by omega), if_neg (by omega), if_neg (by omega)])
    have a1 : (k == 1) = false := by simpa using h1
    have a2 : (k == 2) = false := by simpa using h2
    have a3 : (k == 3) = false := by simpa using h3
    have a4 : (k == 4) = false := by simpa using h4
    have a5 : (k == 5) = false := by simpa using h5
    have a6 : (k == 6) = false := by simpa using h6
    have a7 : (k == 7) = false := by simpa using h7
    clear h1 h2 h3 h4 h5 h6 h7
    rw [e.out]
    go_enter Tryd.func37, Tryd.ntmps37
    go_wp2
    go_ret
    exact ⟨rfl, rfl⟩

set_option maxRecDepth 100000 in
set_option maxHeartbeats 1000000 in
theorem find_any (bt b n : Nat) (F : Fn) (c : Int) (s : ByteArray) (w : World) (hT : Tab w b n F) (hc : w.cell? ⟨bt, 0, none⟩ = some (.map (some b))) (hk : Wfk c s) :
    Calls Tryd.prog 44 #[.pointer (some ⟨bt, 0, none⟩), .int .i64 c, .string s] w fun e w' => e = .returned (.tuple #[(found F c s).val, .bool (F c s).isSome]) ∧ Below w.heap.size w w' := by
  have H := hid hT
  have HK := hid hk
  have hlt := World.block_lt_of_cell? w _ hc
  simp at hlt
  clear hT hk
  obtain ⟨x, hx⟩ : ∃ x, x = found F c s := ⟨_, rfl⟩
  obtain ⟨q, hq⟩ : ∃ q, q = (F c s).isSome := ⟨_, rfl⟩
  have HX := hid hx
  have HQ := hid hq
  rw [← hx, ← hq]
  clear hx hq
  go_enter Tryd.func44, Tryd.ntmps44
  go_wp2_with (at_lookup; refine wpList_look _ rfl _ _ rfl b n F rfl (H.out.alloc _) c s HK.out rfl ?_; rw [← HX.out, ← HQ.out]; unfold Opn.val)
  refine bodyPost_ret (v := .tuple #[x.val, .bool q]) (by unfold Opn.val; simp [results, Tryd.results44, go_sem]) rfl ⟨rfl, ?_⟩
  exact ((Below.refl _ _).alloc (Nat.le_refl _) _).alloc (by simp) _
theorem find_none (c : Int) (s : ByteArray) (w : World) :
    Calls Tryd.prog 44 #[.pointer .none, .int .i64 c, .string s] w fun e w' => e = .returned (.tuple #[Opn.none.val, .bool false]) ∧ Below w.heap.size w w' := by
  go_enter Tryd.func44, Tryd.ntmps44
  go_wp2
  refine bodyPost_ret (v := .tuple #[Opn.none.val, .bool false]) (by unfold Opn.val Opn.none; simp [results, Tryd.results44, go_sem]) rfl ⟨rfl, ?_⟩
  exact (Below.refl _ _).alloc (Nat.le_refl _) _
set_option maxRecDepth 100000 in
set_option maxHeartbeats 2000000 in
theorem put_any (bt b n : Nat) (F : Fn) (x : Opn) (w : World) (hT : Tab w b n F) (hc : w.cell? ⟨bt, 0, none⟩ = some (.map (some b))) (hk : Wfk (cls x.typ) x.name) (hn : n < maxLen) :
    Calls Tryd.prog 33 #[.pointer (some ⟨bt, 0, none⟩), x.val] w fun e w' => e = .returned (.tuple #[]) ∧ Tab w' b (n + 1) (fset F (cls x.typ) x.name (some x)) ∧ w.grownBy w' (some b) := by
  have H := hid hT
  have HK := hid hk
  have HN := hid hn
  have hlt := World.block_lt_of_cell? w _ hc
  simp at hlt
  clear hT hk hn
  obtain ⟨nm, ty, pr⟩ := x
  unfold Opn.val
  simp only at HK ⊢
  go_enter Tryd.func33, Tryd.ntmps33
  go_wp2_with fail
  obtain ⟨wz, hwz⟩ : ∃ wz, wz = w.alloc (.cells #[.string nm, .int .i64 ty, .int .i64 pr] 39) := ⟨_, rfl⟩
  have hX : wz.heap[w.heap.size]? = some (.cells #[.string nm, .int .i64 ty, .int .i64 pr] 39 (0, 0)) := by rw [hwz]; exact heap_alloc_new w _
  have hz : w.grownBy wz (some b) := by rw [hwz]; exact World.grownBy_alloc w _ _
  have hcz : wz.cell? ⟨bt, 0, none⟩ = some (.map (some b)) := by rw [hwz]; exact (((Below.refl w.heap.size w).alloc (Nat.le_refl _) _).cell (p := ⟨bt, 0, none⟩) hlt).trans hc
  have hT : Tab wz b n F := by rw [hwz]; exact H.out.alloc _
  rw [← hwz]
  clear hwz hc
  have c0 : wz.cell? ⟨w.heap.size, 0, none⟩ = some (.string nm) := by simp [World.cell?, hX]
  have c1 : wz.cell? ⟨w.heap.size, 1, none⟩ = some (.int .i64 ty) := by simp [World.cell?, hX]
  have c2 : wz.cell? ⟨w.heap.size, 2, none⟩ = some (.int .i64 pr) := by simp [World.cell?, hX]
  have d0 := show wz.drew.cell? ⟨w.heap.size, 0, none⟩ = _ from c0
  have d1 := show wz.drew.cell? ⟨w.heap.size, 1, none⟩ = _ from c1
  have d2 := show wz.drew.cell? ⟨w.heap.size, 2, none⟩ = _ from c2
  have dc := show wz.drew.cell? ⟨bt, 0, none⟩ = _ from hcz
  have hTd : Tab wz.drew b n F := hT.keep (Below.refl _ _).drew
  obtain ⟨w6, hrun, hT6, hg6⟩ := hTd.put_run HN.out HK.out ⟨nm, ty, pr⟩
  unfold kval Opn.val at hrun
  simp only at hrun hT6
  have hgz : w.grownBy w6 (some b) := ⟨hg6.os.trans hz.os, hg6.tape.trans hz.tape, hg6.output.trans hz.output, Nat.le_trans hz.size hg6.size, fun k h1 h2 => (hg6.block k (Nat.lt_of_lt_of_le h1 hz.size) h2).trans (hz.block k h1 h2)⟩
  have hbt : bt ≠ b := by
    intro e
    subst e
    obtain ⟨D, ⟨es, clock, h1, _⟩, _⟩ := hT
    simp [World.cell?, h1] at hcz
  have hbw : w.heap.size ≠ b := Nat.ne_of_gt H.out.lt
  have hX6 := hid ((hg6.block w.heap.size (lt_of_block hX) (by simpa using hbw)).trans hX)
  have e0 : w6.cell? ⟨w.heap.size, 0, none⟩ = some (.string nm) := by simp [World.cell?, hX6.out]
  have e1 : w6.cell? ⟨w.heap.size, 1, none⟩ = some (.int .i64 ty) := by simp [World.cell?, hX6.out]
  have e2 : w6.cell? ⟨w.heap.size, 2, none⟩ = some (.int .i64 pr) := by simp [World.cell?, hX6.out]
  have ec : w6.cell? ⟨bt, 0, none⟩ = some (.map (some b)) := hg6.cell dc (by simpa using hbt)
  clear hT hTd hg6 hz
  have HT6 := hid hT6
  have HGZ := hid hgz
  clear hT6 hgz
  go_region_held3 (fun w' => w'.cell? ⟨w.heap.size, 0, none⟩ = some (.string nm) ∧ w'.cell? ⟨w.heap.size, 1, none⟩ = some (.int .i64 ty) ∧ w'.cell? ⟨w.heap.size, 2, none⟩ = some (.int .i64 pr) ∧ w'.cell? ⟨bt, 0, none⟩ = some (.map (some b)))
    (first
      | (with_reducible exact ⟨c0, c1, c2, hcz⟩)
      | (with_reducible exact ⟨d0, d1, d2, dc⟩)
      | (with_reducible exact ⟨e0, e1, e2, ec⟩))
    (first
      | (go_at_call 37; (with_reducible refine (classOf_any _ _).mono ?_); rintro e w5 ⟨rfl, rfl⟩))
  go_end0
  exact ⟨rfl, HT6.out, HGZ.out⟩

theorem heap_keep3 {w w' : World} {k : Nat} {o : Obj} (h : w.heap[k]? = some o) (hb : Below w.heap.size w w') : w'.heap[k]? = some o := (hb.block k (lt_of_block h)).trans h
theorem three_cells {w : World} {b : Nat} {x y z : Value} {t : TypeId} (h : w.heap[b]? = some (.cells #[x, y, z] t (0, 0))) :
    w.cell? ⟨b, 0, none⟩ = some x ∧ w.cell? ⟨b, 1, none⟩ = some y ∧ w.cell? ⟨b, 2, none⟩ = some z ∧ w.frozen? ⟨b, 0, none⟩ = false ∧ w.frozen? ⟨b, 1, none⟩ = false ∧ w.frozen? ⟨b, 2, none⟩ = false :=
  ⟨by simp [World.cell?, h], by simp [World.cell?, h], by simp [World.cell?, h], by simp [World.frozen?, h], by simp [World.frozen?, h], by simp [World.frozen?, h]⟩
theorem ask_wf {c : Int} {s : ByteArray} (hc : 0 ≤ c ∧ c ≤ 3) (hs : s.size ≤ maxLen) : Wfk c s := by
  refine ⟨?_, hs⟩
  obtain ⟨h1, h2⟩ := hc
  rcases (show c = 0 ∨ c = 1 ∨ c = 2 ∨ c = 3 by omega) with rfl | rfl | rfl | rfl <;> decide
section
variable (bt b n : Nat) (F : Fn) (s : ByteArray) (w : World) (hT : Tab w b n F) (hc : w.cell? ⟨bt, 0, none⟩ = some (.map (some b))) (hs : s.size ≤ maxLen)
include hT hc hs
set_option maxRecDepth 100000 in
theorem infix_any : Calls Tryd.prog 27 #[.pointer (some ⟨bt, 0, none⟩), .string s] w fun e w' => e = .returned (.tuple #[(found F 2 s).val, .bool (F 2 s).isSome]) ∧ Below w.heap.size w w' := by
  have hb0 : Below w.heap.size w (w.alloc (.cells #[.string ⟨#[]⟩, .int .i64 0, .int .i64 0] 39)) := (Below.refl _ _).alloc (Nat.le_refl _) _
  have hlt := World.block_lt_of_cell? w _ hc
  simp at hlt
  have H := hid (find_any bt b n F 2 s _ (hT.alloc (.cells #[.string ⟨#[]⟩, .int .i64 0, .int .i64 0] 39)) ((hb0.cell (p := ⟨bt, 0, none⟩) hlt).trans hc) (ask_wf (by omega) hs))
  have HR := hid (heap_alloc_new w (.cells #[.string ⟨#[]⟩, .int .i64 0, .int .i64 0] 39))
  have HB := hid hb0
  clear hT hc hb0
  unfold Opn.val at H ⊢
  generalize found F 2 s = x at *
  generalize (F 2 s).isSome = q at *
  go_enter Tryd.func27, Tryd.ntmps27
  go_wp2_with (go_at_call 44; (with_reducible refine H.out.mono ?_); rintro e w5 ⟨rfl, hb5⟩; have HR5 := hid (heap_keep3 HR.out hb5); obtain ⟨r0, r1, r2, f0, f1, f2⟩ := three_cells HR5.out)
  refine bodyPost_ret (v := .tuple #[.agg #[.string x.name, .int .i64 x.typ, .int .i64 x.pri], .bool q]) (by simp [results, Tryd.results27, go_sem, r0, r1, r2]) rfl ⟨rfl, ?_⟩
  exact (((HB.out.trans (hb5.mono HB.out.size)).setCell (Nat.le_refl _) _).setCell (Nat.le_refl _) _).setCell (Nat.le_refl _) _
set_option maxRecDepth 100000 in
theorem postfix_any : Calls Tryd.prog 28 #[.pointer (some ⟨bt, 0, none⟩), .string s] w fun e w' => e = .returned (.tuple #[(found F 3 s).val, .bool (F 3 s).isSome]) ∧ Below w.heap.size w w' := by
  have hb0 : Below w.heap.size w (w.alloc (.cells #[.string ⟨#[]⟩, .int .i64 0, .int .i64 0] 39)) := (Below.refl _ _).alloc (Nat.le_refl _) _
  have hlt := World.block_lt_of_cell? w _ hc
  simp at hlt
  have H := hid (find_any bt b n F 3 s _ (hT.alloc (.cells #[.string ⟨#[]⟩, .int .i64 0, .int .i64 0] 39)) ((hb0.cell (p := ⟨bt, 0, none⟩) hlt).trans hc) (ask_wf (by omega) hs))
  have HR := hid (heap_alloc_new w (.cells #[.string ⟨#[]⟩, .int .i64 0, .int .i64 0] 39))
  have HB := hid hb0
  clear hT hc hb0
  unfold Opn.val at H ⊢
  generalize found F 3 s = x at *
  generalize (F 3 s).isSome = q at *
  go_enter Tryd.func28, Tryd.ntmps28
  go_wp2_with (go_at_call 44; (with_reducible refine H.out.mono ?_); rintro e w5 ⟨rfl, hb5⟩; have HR5 := hid (heap_keep3 HR.out hb5); obtain ⟨r0, r1, r2, f0, f1, f2⟩ := three_cells HR5.out)
  refine bodyPost_ret (v := .tuple #[.agg #[.string x.name, .int .i64 x.typ, .int .i64 x.pri], .bool q]) (by simp [results, Tryd.results28, go_sem, r0, r1, r2]) rfl ⟨rfl, ?_⟩
  exact (((HB.out.trans (hb5.mono HB.out.size)).setCell (Nat.le_refl _) _).setCell (Nat.le_refl _) _).setCell (Nat.le_refl _) _
set_option maxRecDepth 100000 in
theorem pre_any : Calls Tryd.prog 31 #[.pointer (some ⟨bt, 0, none⟩), .string s] w fun e w' => e = .returned (.tuple #[(found F 1 s).val, .bool (F 1 s).isSome]) ∧ Below w.heap.size w w' := by
  have hb0 : Below w.heap.size w (w.alloc (.cells #[.string ⟨#[]⟩, .int .i64 0, .int .i64 0] 39)) := (Below.refl _ _).alloc (Nat.le_refl _) _
  have hlt := World.block_lt_of_cell? w _ hc
  simp at hlt
  have H := hid (find_any bt b n F 1 s _ (hT.alloc (.cells #[.string ⟨#[]⟩, .int .i64 0, .int .i64 0] 39)) ((hb0.cell (p := ⟨bt, 0, none⟩) hlt).trans hc) (ask_wf (by omega) hs))
  have HR := hid (heap_alloc_new w (.cells #[.string ⟨#[]⟩, .int .i64 0, .int .i64 0] 39))
  have HB := hid hb0
  clear hT hc hb0
  unfold Opn.val at H ⊢
  generalize found F 1 s = x at *
  generalize (F 1 s).isSome = q at *
  go_enter Tryd.func31, Tryd.ntmps31
  go_wp2_with (go_at_call 44; (with_reducible refine H.out.mono ?_); rintro e w5 ⟨rfl, hb5⟩; have HR5 := hid (heap_keep3 HR.out hb5); obtain ⟨r0, r1, r2, f0, f1, f2⟩ := three_cells HR5.out)
  refine bodyPost_ret (v := .tuple #[.agg #[.string x.name, .int .i64 x.typ, .int .i64 x.pri], .bool q]) (by simp [results, Tryd.results31, go_sem, r0, r1, r2]) rfl ⟨rfl, ?_⟩
  exact (((HB.out.trans (hb5.mono HB.out.size)).setCell (Nat.le_refl _) _).setCell (Nat.le_refl _) _).setCell (Nat.le_refl _) _
end
end Go.Proofs.YtnbhmgonijlplaaDoor
