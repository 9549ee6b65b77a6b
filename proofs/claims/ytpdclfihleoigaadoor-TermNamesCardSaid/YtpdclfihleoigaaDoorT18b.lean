/- Walks: what a round of List leaves. No condition but those that each theorem names. -/
import Derived.Test.YtpdclfihleoigaaDoorT18
import Derived.Test.YtpdclfihleoigaaDoorT18a
namespace Go.Proofs.YtpdclfihleoigaaDoor
open Go.RowKit Go.Shelf

/-- A list's cell. -/
def consT (a b : Tm) : Tm := .mk 5 ⟨#[46]⟩ ⟨#[]⟩ 0 0 [a, b]
/-- An atom. -/
def atomT (s : ByteArray) : Tm := leaf 2 s ⟨#[]⟩ 0
mutual
theorem TmAt.same {w w' : World} (hb : ∀ b o v, w.cell? ⟨b, o, none⟩ = some v → w'.cell? ⟨b, o, none⟩ = some v) : ∀ {t : Tm} {p : Option Addr}, TmAt w t p → TmAt w' t p
  | .mk _ _ _ _ _ l, p, h => by
    unfold TmAt at h ⊢
    refine ⟨h.1, ?_⟩
    rcases h.2 with h | ⟨b, o, e, h⟩
    · exact .inl h
    · exact .inr ⟨b, o, e, RowT.same hb h⟩
theorem RowT.same {w w' : World} (hb : ∀ b o v, w.cell? ⟨b, o, none⟩ = some v → w'.cell? ⟨b, o, none⟩ = some v) : ∀ {l : List Tm} {b o : Nat}, RowT w l b o → RowT w' l b o
  | [], _, _, _ => by unfold RowT; trivial
  | t :: l, b, o, h => by
    unfold RowT at h ⊢
    obtain ⟨⟨p, cap, h1, h2⟩, h3⟩ := h
    exact ⟨⟨p, cap, ⟨hb _ _ _ h1.c0, hb _ _ _ h1.c1, hb _ _ _ h1.c2, hb _ _ _ h1.c3, hb _ _ _ h1.c4, hb _ _ _ h1.c5⟩, TmAt.same hb h2⟩, RowT.same hb h3⟩
end
/-- All but one block as they were. -/
structure Held (K : Nat) (W W' : World) : Prop where
  os : W'.os = W.os
  tape : W'.tape = W.tape
  output : W'.output = W.output
  size : W.heap.size ≤ W'.heap.size
  same : ∀ k, k < W.heap.size → k ≠ K → W'.heap[k]? = W.heap[k]?
theorem Held.refl (K : Nat) (W : World) : Held K W W := ⟨rfl, rfl, rfl, Nat.le_refl _, fun _ _ _ => rfl⟩
theorem Held.trans {K : Nat} {A B C : World} (h : Held K A B) (k : Held K B C) : Held K A C :=
  ⟨k.os.trans h.os, k.tape.trans h.tape, k.output.trans h.output, Nat.le_trans h.size k.size, fun i hi h1 => (k.same i (Nat.lt_of_lt_of_le hi h.size) h1).trans (h.same i hi h1)⟩
theorem Held.of_below {K : Nat} {W W' : World} (h : Below W.heap.size W W') : Held K W W' := ⟨h.os, h.tape, h.output, h.size, fun k hk _ => h.block k hk⟩
theorem Held.of_grown {K : Nat} {W W' : World} (h : W.grownBy W' (some K)) : Held K W W' := ⟨h.os, h.tape, h.output, h.size, fun k hk h2 => h.block k hk (by simpa using h2)⟩
theorem Held.block {K : Nat} {W W' : World} (h : Held K W W') {k : Nat} {o : Obj} (ho : W.heap[k]? = some o) (h1 : k ≠ K) : W'.heap[k]? = some o := (h.same k (lt_of_block ho) h1).trans ho
theorem held_own {β : Type} {K : Nat} {W5 : World} : OwnFrom (β := β) W5.heap.size (fun _ W => Held K W5 W) := fun s X Y row hs hg hr =>
  ⟨hg.os.trans hs.os, hg.tape.trans hs.tape, hg.output.trans hs.output, Nat.le_trans hs.size hg.size, fun k hk h1 => (hg.block k (Nat.lt_of_lt_of_le hk hs.size) (fun e => by have := (hr k e.symm).1; omega)).trans (hs.same k hk h1)⟩
theorem block_own {β : Type} (B : Nat) (o : Obj) (ho : o.isCells = true) : Go.Own (fun (_ : β) W => W.heap[B]? = some o) := fun s X Y row hs hg hrow => by
  have hs' : X.heap[B]? = some o := hs
  refine (hg.block B (lt_of_block hs') (fun e => ?_)).trans hs
  obtain ⟨o', ho', hc⟩ := hrow B e.symm
  rw [show X.heap[B]? = _ from hs] at ho'
  cases ho'
  rw [ho] at hc
  cases hc
/-- The world without the cells of its first blocks. -/
def above (W : World) (B : Nat) : World := { W with heap := W.heap.mapIdx fun i o => if i < B then .deferred none else o }
theorem above_heap {W : World} {B k : Nat} (hk : B ≤ k) : (above W B).heap[k]? = W.heap[k]? := by
  have h : ¬ k < B := by omega
  simp [above, Array.getElem?_mapIdx, h]
theorem above_low {W : World} {B k : Nat} (hk : k < B) (o : Obj) (h : (above W B).heap[k]? = some o) : o = .deferred none := by
  simp [above, Array.getElem?_mapIdx, hk] at h
  exact h.2.symm
theorem above_cell {W : World} {B b o : Nat} {v : Value} (h : (above W B).cell? ⟨b, o, none⟩ = some v) : B ≤ b ∧ W.cell? ⟨b, o, none⟩ = some v := by
  by_cases e : b < B
  · cases hg : (above W B).heap[b]? with
    | none => simp [World.cell?, hg] at h
    | some x =>
      have := above_low e x hg
      subst this
      simp [World.cell?, hg] at h
  · have e : B ≤ b := by omega
    exact ⟨e, (World.cell?_of_block (a := ⟨b, o, none⟩) (above_heap e)).symm.trans h⟩
theorem cell_above {W : World} {B b o : Nat} {v : Value} (hb : B ≤ b) (h : W.cell? ⟨b, o, none⟩ = some v) : (above W B).cell? ⟨b, o, none⟩ = some v :=
  (World.cell?_of_block (a := ⟨b, o, none⟩) (above_heap hb)).trans h
/-- A term lies in a box, and its arguments from a block on. -/
def BoxT (W : World) (K B : Nat) (t : Tm) : Prop := ∃ p cap, W.heap[K]? = some (tobj t p cap) ∧ TmAt (above W B) t p
theorem above_keep {W W' : World} {B : Nat} {t : Tm} {p : Option Addr} (h : TmAt (above W B) t p) (hb : ∀ b o v, B ≤ b → W.cell? ⟨b, o, none⟩ = some v → W'.cell? ⟨b, o, none⟩ = some v) : TmAt (above W' B) t p ∧ TmAt W' t p :=
  ⟨h.same fun b o v hc => cell_above (above_cell hc).1 (hb b o v (above_cell hc).1 (above_cell hc).2), h.same fun b o v hc => hb b o v (above_cell hc).1 (above_cell hc).2⟩
theorem boxT_own {β : Type} {K B B' : Nat} (f : β → Tm) : OwnFrom B (fun s W => BoxT W K B' (f s)) := fun s X Y row ⟨p, cap, h1, h2⟩ hg hr =>
  ⟨p, cap, (hg.block K (lt_of_block h1) (fun e => by obtain ⟨o, ho, hc⟩ := (hr K e.symm).2; rw [h1] at ho; cases ho; cases hc)).trans h1, (above_keep h2 (fun b o v _ h => cell_kept h hg (fun r e => (hr r e).2))).1⟩
/-- The list behind some rounds. -/
def accT (s0 s1 se : ByteArray) (pre : List Bool) : Tm := pre.foldl (fun a b => consT (atomT (if b then s1 else s0)) a) (atomT se)
theorem accT_snoc (s0 s1 se : ByteArray) (pre : List Bool) (b : Bool) : accT s0 s1 se (pre ++ [b]) = consT (atomT (if b then s1 else s0)) (accT s0 s1 se pre) := by unfold accT; rw [List.foldl_append]; rfl
theorem body_end {K : Nat} {acc : Tm} {sx : ByteArray} {p : Option Addr} {cp : Nat} {w7 W w8 : World} (hKw : K < w7.heap.size) (HPK : W.heap[K]? = some (tobj acc p cp)) (HTK : TmAt (above W w7.heap.size) acc p) (HH : Held K w7 W) (hb8 : Below W.heap.size W w8)
    (W9 : World) (hW9 : W9 = ((((((w8.alloc (pobj (atomT sx) acc none p 0 cp)).setCell ⟨K, 0, none⟩ (.int .i64 5)).setCell ⟨K, 1, none⟩ (.string ⟨#[46]⟩)).setCell ⟨K, 2, none⟩ (.string ⟨#[]⟩)).setCell ⟨K, 3, none⟩ (.int .u64 0)).setCell ⟨K, 4, none⟩ (.int .i64 0)).setCell ⟨K, 5, none⟩ (.slice (some ⟨w8.heap.size, 0, none⟩) 2 2)) :
    KeepsFrom w7.heap.size W W9 ∧ Lv K W W9 ∧ Held K w7 W9 ∧ BoxT W9 K w7.heap.size (consT (atomT sx) acc) := by
  have hKl := lt_of_block HPK
  have hsz8 : W.heap.size ≤ w8.heap.size := hb8.size
  obtain ⟨Wa, hWa⟩ : ∃ Wa, Wa = w8.alloc (pobj (atomT sx) acc none p 0 cp) := ⟨_, rfl⟩
  have hal8 : Below w8.heap.size w8 Wa := by rw [hWa]; exact (Below.refl w8.heap.size w8).alloc (Nat.le_refl _) _
  have hpo : Wa.heap[w8.heap.size]? = some (pobj (atomT sx) acc none p 0 cp) := by rw [hWa]; exact World.alloc_heap_new w8 _
  rw [← hWa] at hW9
  have hgr : Wa.grownBy W9 (some K) := by rw [hW9]; exact set6_grown Wa K _ _ _ _ _ _
  have h9 : W9.heap[K]? = some (.cells #[.int .i64 5, .string ⟨#[46]⟩, .string ⟨#[]⟩, .int .u64 0, .int .i64 0, .slice (some ⟨w8.heap.size, 0, none⟩) 2 2] 26 (0, 0)) := by
    rw [hW9]
    exact set6 (obj_keep (obj_keep HPK hb8) hal8) _ _ _ _ _ _
  have hh : Held K W W9 := ((Held.of_below hb8)).trans ((Held.of_below hal8).trans (Held.of_grown hgr))
  have hv : Lv K W W9 := lv_t (Lv.of_below hb8) (lv_t (Lv.of_below hal8) (Lv.of_grown hgr))
  refine ⟨⟨hh.size, fun k o hk ho _ => hh.block ho (by omega)⟩, hv, HH.trans hh, ?_⟩
  have hpo2 : W9.heap[w8.heap.size]? = some (pobj (atomT sx) acc none p 0 cp) := (hgr.block w8.heap.size (lt_of_block hpo) (fun e => by have := Option.some.inj e; omega)).trans hpo
  have hhk := above_keep (W' := W9) HTK (fun b q v hb h => (World.cell?_of_block (hh.same b (by have := World.block_lt_of_cell? W _ h; simpa using this) (by omega))).trans h)
  have hs7 := HH.size
  refine ⟨some ⟨w8.heap.size, 0, none⟩, 2, h9, ?_⟩
  unfold consT TmAt
  refine ⟨by unfold maxLen; simp, .inr ⟨w8.heap.size, 0, rfl, row_two (p := none) (q := p) (cp := 0) (cq := cp) ((above_heap (by omega)).trans hpo2) (leaf_at _ _ _ _ _ _) hhk.1⟩⟩
theorem above_at {W : World} {B : Nat} {t : Tm} {p : Option Addr} (h : TmAt (above W B) t p) : TmAt W t p := h.same fun _ _ _ hc => (above_cell hc).2
theorem above_mono {W : World} {A B : Nat} {t : Tm} {p : Option Addr} (h : TmAt (above W B) t p) (hA : A ≤ B) : TmAt (above W A) t p := h.same fun _ _ _ hc => cell_above (by have := (above_cell hc).1; omega) (above_cell hc).2
theorem list_end {K Dd : Nat} {tot : Tm} {p : Option Addr} {cp : Nat} {w w7 W : World} (hw7 : w.heap.size + 2 ≤ w7.heap.size) (hwK : w.heap.size + 2 ≤ K) (HP : W.heap[K]? = some (tobj tot p cp)) (HT : TmAt (above W w7.heap.size) tot p) (HH : Held K w7 W) (B7 : Below w.heap.size w w7)
    (HZ : W.heap[w.heap.size + 1]? = some (.cells #[.int .i64 0, .string ⟨#[]⟩, .string ⟨#[]⟩, .int .u64 0, .int .i64 0, .slice none 0 0] 26 (0, 0))) (hDd : w7.heap.size ≤ Dd) (HD : W.heap[Dd]? = some (.deferred (some [])))
    (X0 : World) (hX : X0 = (((((W.setCell ⟨w.heap.size + 1, 0, none⟩ (.int .i64 tot.kind)).setCell ⟨w.heap.size + 1, 1, none⟩ (.string tot.name)).setCell ⟨w.heap.size + 1, 2, none⟩ (.string tot.num)).setCell ⟨w.heap.size + 1, 3, none⟩ (.int .u64 tot.bits)).setCell ⟨w.heap.size + 1, 4, none⟩ (.int .i64 tot.var)).setCell ⟨w.heap.size + 1, 5, none⟩ (.slice p tot.args.length cp)) :
    X0.heap[Dd]? = some (.deferred (some [])) ∧ (X0.putObj Dd (.deferred none)).heap[w.heap.size + 1]? = some (tobj tot p cp) ∧ TmAt (above (X0.putObj Dd (.deferred none)) w.heap.size) tot p ∧ Below w.heap.size w (X0.putObj Dd (.deferred none)) := by
  have hgr : W.grownBy X0 (some (w.heap.size + 1)) := by rw [hX]; exact set6_grown W _ _ _ _ _ _ _
  have h9 : X0.heap[w.heap.size + 1]? = some (tobj tot p cp) := by rw [hX]; exact set6 HZ _ _ _ _ _ _
  have hne : Dd ≠ w.heap.size + 1 := by omega
  have hD : X0.heap[Dd]? = some (.deferred (some [])) := (hgr.block Dd (lt_of_block HD) (by simpa using hne)).trans HD
  have hcell : ∀ b o v, w7.heap.size ≤ b → W.cell? ⟨b, o, none⟩ = some v → (X0.putObj Dd (.deferred none)).cell? ⟨b, o, none⟩ = some v := fun b o v hb h => by
    have e : b ≠ Dd := by
      rintro rfl
      simp [World.cell?, HD] at h
    exact (World.cell?_of_block (a := ⟨b, o, none⟩) (World.putObj_heap_other e)).trans (hgr.cell h (by simp; omega))
  have h2 : Below w.heap.size w W := B7.trans ⟨HH.os, HH.tape, HH.output, HH.size, fun k hk => HH.same k (by omega) (by omega)⟩
  have h3 : Below w.heap.size w X0 := h2.grown hgr h2.size (fun k e => by cases e; omega)
  refine ⟨hD, (World.putObj_heap_other (Ne.symm hne)).trans h9, above_mono (above_keep HT hcell).1 (by omega), ⟨h3.os, h3.tape, h3.output, by have := h3.size; simpa [World.putObj] using this, fun k hk => (World.putObj_heap_other (by omega)).trans (h3.block k hk)⟩⟩
end Go.Proofs.YtpdclfihleoigaaDoor
