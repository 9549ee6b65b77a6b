/- Walks: Add of a table, whatever is asked; tables to which some were added. No condition but those that each theorem names. -/
import Derived.Test.YtnbhmgonijlplaaDoorT22
namespace Go.Proofs.YtnbhmgonijlplaaDoor
open Go.RowKit Go.Maps

theorem Tab.del_run {w : World} {b n : Nat} {F : Fn} (h : Tab w b n F) {c : Int} {s : ByteArray} (hk : Wfk c s) (ty : TypeId) :
    ∃ w', (Builtin.delete_ #[58, 68] ty #[.map (some b), kval c s]).run Tryd.prog w = .ok (.tuple #[]) w' ∧ Tab w' b n (fset F c s none) ∧ w.grownBy w' (some b) := by
  obtain ⟨D, h1, h2, h3⟩ := h
  obtain ⟨w', hrun, r1, r2⟩ := h1.drop keyed Tryd.underlying58 hk.key ty
  refine ⟨w', hrun, ⟨_, r1, ?_, fun d t hd zd => ?_⟩, r2.grown⟩
  · obtain ⟨es, rfl⟩ := h2; exact ⟨_, rfl⟩
  · unfold fset
    by_cases e : d = c ∧ t = s
    · obtain ⟨rfl, rfl⟩ := e
      rw [if_pos ⟨rfl, rfl⟩]
      exact Maps.atKey_del_same _
    · rw [if_neg e]
      rw [Maps.atKey_del_other (fun e2 => e (kl_inj hd hk e2))]
      exact h3 d t hd zd

section
variable (bt b n : Nat) (F : Fn) (p k : Int) (s : ByteArray) (w : World) (hT : Tab w b n F) (hc : w.cell? ⟨bt, 0, none⟩ = some (.map (some b))) (hs : s.size ≤ maxLen)
include hT hc hs
set_option maxRecDepth 100000 in
set_option maxHeartbeats 2000000 in
/-- Add where it takes away. -/
theorem add_del (hz : refu F 0 k s = 0) : Calls Tryd.prog 14 #[.pointer (some ⟨bt, 0, none⟩), .int .i64 0, .int .i64 k, .string s] w fun e w' => e = .returned (.int .i64 0) ∧ Tab w' b n (fset F (cls k) s none) ∧ w.grownBy w' (some b) := by
  have R := hid (refusal_any bt b n F 0 k s w hT hc hs)
  have H := hid hT
  have hlt := World.block_lt_of_cell? w _ hc
  simp at hlt
  rw [hz] at R
  have HC := hid hc
  have HK := hid (show Wfk (cls k) s from ⟨cls_wf k, hs⟩)
  have hbt : bt ≠ b := by
    intro e
    subst e
    obtain ⟨D, ⟨es, clock, h1, _⟩, _⟩ := hT
    simp [World.cell?, h1] at hc
  clear hT hc hz
  go_enter Tryd.func14, Tryd.ntmps14
  go_wp2_with (go_at_call 36; (with_reducible refine R.out.mono ?_); rintro e w5 ⟨rfl, hb5⟩; have H5 := hid (H.out.keep hb5); have c5 := (hb5.cell (p := ⟨bt, 0, none⟩) hlt).trans HC.out; have B5 := hid hb5; clear hb5)
  have dc := show w5.drew.cell? ⟨bt, 0, none⟩ = _ from c5
  have hTd : Tab w5.drew b n F := H5.out.keep (Below.refl _ _).drew
  obtain ⟨w6, hrun, hT6, hg6⟩ := hTd.del_run HK.out 0
  unfold kval at hrun
  have ec : w6.cell? ⟨bt, 0, none⟩ = some (.map (some b)) := hg6.cell dc (by simpa using hbt)
  have HT6 := hid hT6
  have HG := hid (show w.grownBy w6 (some b) from grown_trans (below_grown (B5.out.drew)) hg6)
  clear hT6 hg6 hTd
  go_region_held3 (fun w' => w'.cell? ⟨bt, 0, none⟩ = some (.map (some b)))
    (first
      | (with_reducible exact c5)
      | (with_reducible exact dc)
      | (with_reducible exact ec))
    (first
      | (go_at_call 37; (with_reducible refine (classOf_any _ _).mono ?_); rintro e w5 ⟨rfl, rfl⟩))
  go_wp2
  go_ret
  exact ⟨rfl, HT6.out, HG.out⟩
end
/-- A table behind an Add. -/
def after (F : Fn) (p k : Int) (s : ByteArray) : Fn := if refu F p k s = 0 then fset F (cls k) s (if 0 < p then some ⟨s, k, p⟩ else none) else F
theorem Good.after {F : Fn} (g : Good F) (p k : Int) {s : ByteArray} (hs : s.size ≤ maxLen) : Good (after F p k s) := by
  unfold YtnbhmgonijlplaaDoor.after
  by_cases h : refu F p k s = 0
  · rw [if_pos h]
    by_cases hp : 0 < p
    · rw [if_pos hp]; exact g.put hs h hp
    · rw [if_neg hp]; exact g.del h
  · rw [if_neg h]; exact g
section
variable (bt b n : Nat) (F : Fn) (p k : Int) (s : ByteArray) (w : World) (hT : Tab w b n F) (hc : w.cell? ⟨bt, 0, none⟩ = some (.map (some b))) (hs : s.size ≤ maxLen)
include hT hc hs
/-- Add, whatever is asked. -/
theorem add_any (hn : n < maxLen) : Calls Tryd.prog 14 #[.pointer (some ⟨bt, 0, none⟩), .int .i64 p, .int .i64 k, .string s] w fun e w' => e = .returned (.int .i64 (refu F p k s)) ∧ Tab w' b (n + 1) (after F p k s) ∧ w.grownBy w' (some b) := by
  by_cases hz : refu F p k s = 0
  · have hr := (refu_ok hz).1
    by_cases hp : 0 < p
    · refine (add_put bt b n F p k s w hT hc hs hn hz hp).mono fun e w' h => ?_
      unfold after
      rw [if_pos hz, if_pos hp, hz]
      exact h
    · obtain rfl : p = 0 := by omega
      refine (add_del bt b n F k s w hT hc hs hz).mono fun e w' h => ?_
      unfold after
      rw [if_pos hz, if_neg hp, hz]
      exact ⟨h.1, h.2.1.mono (by omega), h.2.2⟩
  · refine (add_refused bt b n F p k s w hT hc hs hz).mono fun e w' h => ?_
    unfold after
    rw [if_neg hz]
    exact ⟨h.1, (hT.keep h.2).mono (by omega), below_grown h.2⟩
end
/-- A list of operators as it came in. -/
def OpsAt (w : World) (v : Value) (L : List Opn) : Prop :=
  ∃ p cap, v = .slice p L.length cap ∧ ∀ i (h : i < L.length), ∃ b off, p = some ⟨b, off, none⟩ ∧ w.cell? ⟨b, off + i * 3, none⟩ = some (.string L[i].name) ∧ w.cell? ⟨b, off + i * 3 + 1, none⟩ = some (.int .i64 L[i].typ) ∧ w.cell? ⟨b, off + i * 3 + 2, none⟩ = some (.int .i64 L[i].pri)
theorem OpsAt.keep {w w' : World} {v : Value} {L : List Opn} (h : OpsAt w v L) (hb : Below w.heap.size w w') : OpsAt w' v L := by
  obtain ⟨p, cap, hv, h⟩ := h
  refine ⟨p, cap, hv, fun i hi => ?_⟩
  obtain ⟨b, off, hp, h0, h1, h2⟩ := h i hi
  exact ⟨b, off, hp, heap_cell_keep hb h0, heap_cell_keep hb h1, heap_cell_keep hb h2⟩
def afterAll (F : Fn) (L : List Opn) : Fn := L.foldl (fun F x => after F x.pri x.typ x.name) F
theorem afterAll_succ (F : Fn) (L : List Opn) (m : Nat) (h : m < L.length) : afterAll F (L.take (m + 1)) = after (afterAll F (L.take m)) L[m].pri L[m].typ L[m].name := by
  unfold afterAll
  rw [List.take_succ_eq_append_getElem h, List.foldl_append]
  rfl
theorem Good.all {L : List Opn} (hL : ∀ x ∈ L, x.name.size ≤ maxLen) : ∀ {F : Fn}, Good F → Good (afterAll F L) := by
  induction L with
  | nil => exact fun g => g
  | cons x L ih => exact fun g => ih (fun y hy => hL y (List.mem_cons_of_mem _ hy)) (g.after _ _ (hL x List.mem_cons_self))

set_option maxRecDepth 100000 in
set_option maxHeartbeats 4000000 in
theorem filled_any (v : Value) (L : List Opn) (w : World) (hL : OpsAt w v L) (hn : ∀ x ∈ L, x.name.size ≤ maxLen) (hlen : L.length ≤ 4611686018427387904) (hbl : Blanks w) :
    Calls Tryd.prog 25 #[v] w fun e w' => e = .returned (.pointer (some ⟨w.heap.size + 1, 0, none⟩)) ∧ Tab w' w.heap.size (54 + L.length) (afterAll newF L) ∧ w'.cell? ⟨w.heap.size + 1, 0, none⟩ = some (.map (some w.heap.size)) ∧ Below w.heap.size w w' := by
  obtain ⟨p, cap, rfl, hx⟩ := hL
  have HX := hid hx
  have HN := hid hn
  have HBL := hid hbl
  clear hx hn hbl
  go_enter Tryd.func25, Tryd.ntmps25
  go_wp2_with (go_at_call 10; (with_reducible refine (new_any _ HBL.out).mono ?_); rintro e w1 ⟨rfl, hT1, c1, hb1⟩; have T1 := hid hT1; have C1 := hid c1; have B1 := hid hb1; clear hT1 c1 hb1)
  have H0 := hid (show Tab w1 w.heap.size (54 + 0) (afterAll newF (L.take 0)) from T1.out)
  clear T1
  go_loopw [4] (fun i wr => ∃ k : Nat, k ≤ L.length ∧ i = .int .i64 (k : Int) ∧ Hid (Tab wr w.heap.size (54 + k) (afterAll newF (L.take k))) ∧ Hid (wr.cell? ⟨w.heap.size + 1, 0, none⟩ = some (.map (some w.heap.size))) ∧ Hid (Below w.heap.size w wr)) (fun i _ => L.length - (intOf i).toNat)
  case atStart => exact ⟨0, by omega, rfl, H0, C1, B1⟩
  case round =>
    clear H0 C1 B1
    obtain ⟨k, hk, rfl, hTk, hck, hBk⟩ := hrel
    by_cases hlt : k < L.length
    · obtain ⟨bl, off, rfl, a0, a1, a2⟩ := HX.out k hlt
      have hs := HN.out L[k] (List.getElem_mem hlt)
      have c0 := heap_cell_keep hBk.out a0
      have c1 := heap_cell_keep hBk.out a1
      have c2 := heap_cell_keep hBk.out a2
      have hst := hid (afterAll_succ newF L k hlt)
      have hbn : bl ≠ w.heap.size := by have := World.block_lt_of_cell? w _ a0; simp at this; omega
      clear a0 a1 a2
      generalize L[k] = x at *
      have ADD := hid (fun (wx : World) (h1 : Tab wx w.heap.size (54 + k) (afterAll newF (L.take k))) (h2 : wx.cell? ⟨w.heap.size + 1, 0, none⟩ = some (.map (some w.heap.size))) =>
        add_any (w.heap.size + 1) w.heap.size (54 + k) (afterAll newF (L.take k)) x.pri x.typ x.name wx h1 h2 hs (by unfold maxLen; omega))
      have hTd := hid (show Tab wr.drew w.heap.size (54 + k) (afterAll newF (L.take k)) from hTk.out.keep (Below.refl _ _).drew)
      have hcd := hid (show wr.drew.cell? ⟨w.heap.size + 1, 0, none⟩ = some (.map (some w.heap.size)) from hck.out)
      have d0 := show wr.drew.cell? ⟨bl, off + k * 3, none⟩ = _ from c0
      have d1 := show wr.drew.cell? ⟨bl, off + k * 3 + 1, none⟩ = _ from c1
      have d2 := show wr.drew.cell? ⟨bl, off + k * 3 + 2, none⟩ = _ from c2
      have hN := hid hs
      clear hs
      go_wp2_with fail
      go_region_held3 (fun w' => w'.cell? ⟨bl, off + k * 3, none⟩ = some (.string x.name) ∧ w'.cell? ⟨bl, off + k * 3 + 1, none⟩ = some (.int .i64 x.typ) ∧ w'.cell? ⟨bl, off + k * 3 + 2, none⟩ = some (.int .i64 x.pri))
        (first
          | (with_reducible exact ⟨c0, c1, c2⟩)
          | (with_reducible exact ⟨d0, d1, d2⟩)
          | (with_reducible exact ⟨e0, e1, e2⟩))
        (first
          | (go_at_call 14; (with_reducible refine (ADD.out _ hTk.out hck.out).mono ?_); rintro e w6 ⟨rfl, hT6, hg6⟩; have e0 := hg6.cell c0 (by simpa using hbn); have e1 := hg6.cell c1 (by simpa using hbn); have e2 := hg6.cell c2 (by simpa using hbn); have G6 := hid (show wr.grownBy w6 (some w.heap.size) from hg6))
          | (go_at_call 14; (with_reducible refine (ADD.out _ hTd.out hcd.out).mono ?_); rintro e w6 ⟨rfl, hT6, hg6⟩; have e0 := hg6.cell d0 (by simpa using hbn); have e1 := hg6.cell d1 (by simpa using hbn); have e2 := hg6.cell d2 (by simpa using hbn); have G6 := hid (show wr.grownBy w6 (some w.heap.size) from grown_trans (below_grown (Below.refl _ _).drew) hg6)))
      have hc6 := G6.out.cell hck.out (by simp)
      have H6 := hid hT6
      clear hT6
      go_wp2
      go_roundw
      case rel => exact ⟨k + 1, by omega, by go_num, hid (by rw [hst.out]; exact H6.out), hid hc6, hid (grown_below hBk.out (Nat.le_refl _) G6.out)⟩
      case measure => simp [intOf]; omega
    · have hke : k = L.length := by omega
      subst hke
      go_wp2
      go_ret
      have h := hTk.out
      rw [List.take_length] at h
      exact ⟨rfl, h, hck.out, hBk.out⟩
end Go.Proofs.YtnbhmgonijlplaaDoor
