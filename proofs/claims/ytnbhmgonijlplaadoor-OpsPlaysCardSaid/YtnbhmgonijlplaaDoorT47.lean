/- Three tables of the program's beside three of the document's, as the law OpsPlays keeps them; its script. No condition but those that each theorem names. -/
import Derived.Test.YtnbhmgonijlplaaDoorT44
import Derived.Test.YtnbhmgonijlplaaDoorT45
import Derived.Test.YtnbhmgonijlplaaDoorT46
import Derived.Test.YtnbhmgonijlplaaDoorT40
namespace Go.Proofs.YtnbhmgonijlplaaDoor
open Go.RowKit Go.Maps

theorem grown_set (W : World) (b i : Nat) (v : Value) : W.grownBy (W.setCell ⟨b, i, none⟩ v) (some b) :=
  ⟨rfl, rfl, rfl, (KeepsWalks.setCell W _ v).size, fun k _ hk => Below.heap_setCell _ _ _ k (fun e => hk (by rw [e]))⟩
/-- One call of the script. -/
structure Cl where
  kind : Int
  on : Int
  p : Int
  k : Int
  n : Int
  name : ByteArray
/-- A script as it came in. -/
def ClsAt (w : World) (v : Value) (S : List Cl) : Prop :=
  ∃ p cap, v = .slice p S.length cap ∧ ∀ i (h : i < S.length), ∃ b off, p = some ⟨b, off, none⟩ ∧ w.cell? ⟨b, off + i * 6, none⟩ = some (.int .i64 S[i].kind) ∧ w.cell? ⟨b, off + i * 6 + 1, none⟩ = some (.int .i64 S[i].on) ∧
    w.cell? ⟨b, off + i * 6 + 2, none⟩ = some (.int .i64 S[i].p) ∧ w.cell? ⟨b, off + i * 6 + 3, none⟩ = some (.int .i64 S[i].k) ∧ w.cell? ⟨b, off + i * 6 + 4, none⟩ = some (.int .i64 S[i].n) ∧ w.cell? ⟨b, off + i * 6 + 5, none⟩ = some (.string S[i].name)
/-- Three pointers in a block. -/
def Trio (W : World) (b : Nat) (t : TypeId) (f : Nat → Nat) : Prop := W.heap[b]? = some (.cells #[.pointer (some ⟨f 0, 0, none⟩), .pointer (some ⟨f 1, 0, none⟩), .pointer (some ⟨f 2, 0, none⟩)] t (0, 0))
def put {α : Type} (f : Nat → α) (k : Nat) (x : α) : Nat → α := fun j => if j = k then x else f j
theorem put_same {α : Type} (f : Nat → α) (k : Nat) (x : α) : put f k x k = x := if_pos rfl
theorem put_other {α : Type} (f : Nat → α) {k j : Nat} (x : α) (h : j ≠ k) : put f k x j = f j := if_neg h
theorem put_all {α : Type} {f : Nat → α} {k : Nat} {x : α} {p : Nat → α → Prop} (hx : p k x) (hf : ∀ j, j < 3 → j ≠ k → p j (f j)) : ∀ j, j < 3 → p j (put f k x j) := fun j hj => by
  by_cases e : j = k
  · subst e; rw [put_same]; exact hx
  · rw [put_other _ _ e]; exact hf j hj e
theorem Trio.cell {W : World} {b : Nat} {t : TypeId} {f : Nat → Nat} (h : Trio W b t f) {k : Nat} (hk : k < 3) : W.cell? ⟨b, k, none⟩ = some (.pointer (some ⟨f k, 0, none⟩)) := by
  rcases (show k = 0 ∨ k = 1 ∨ k = 2 by omega) with rfl | rfl | rfl <;> exact (cells_fifteen h _).trans rfl
theorem Trio.frozen {W : World} {b : Nat} {t : TypeId} {f : Nat → Nat} (h : Trio W b t f) {k : Nat} (hk : k < 3) : W.frozen? ⟨b, k, none⟩ = false := by
  obtain ⟨_, _, _, f0, f1, f2⟩ := three_cells h
  rcases (show k = 0 ∨ k = 1 ∨ k = 2 by omega) with rfl | rfl | rfl
  · exact f0
  · exact f1
  · exact f2
theorem Trio.set {W : World} {b : Nat} {t : TypeId} {f : Nat → Nat} (h : Trio W b t f) {k : Nat} (hk : k < 3) (x : Nat) : Trio (W.setCell ⟨b, k, none⟩ (.pointer (some ⟨x, 0, none⟩))) b t (put f k x) := by
  have h1 := heap_setCell_same W b k _ _ (.pointer (some ⟨x, 0, none⟩)) h
  rcases (show k = 0 ∨ k = 1 ∨ k = 2 by omega) with rfl | rfl | rfl <;> exact h1
theorem Trio.keep {W W' : World} {b : Nat} {t : TypeId} {f : Nat → Nat} (h : Trio W b t f) (hb : Below W.heap.size W W') : Trio W' b t f := heap_keep3 h hb
theorem Trio.lt {W : World} {b : Nat} {t : TypeId} {f : Nat → Nat} (h : Trio W b t f) : b < W.heap.size := lt_of_block h
theorem Trio.grown {W W' : World} {b q : Nat} {t : TypeId} {f : Nat → Nat} (h : Trio W b t f) (hg : W.grownBy W' (some q)) (hq : q ≠ b) : Trio W' b t f := (hg.block b h.lt (by simpa using Ne.symm hq)).trans h
theorem tab_ne {W : World} {b n q : Nat} {F : Fn} (h : Tab W b n F) {cs : Array Value} {t : TypeId} {z : Nat × Nat} (hq : W.heap[q]? = some (.cells cs t z)) : q ≠ b := by
  rintro rfl
  obtain ⟨D, ⟨es, clock, h1, _⟩, _⟩ := h
  rw [hq] at h1
  cases h1
theorem tab_ne_cell {W : World} {b n q o : Nat} {F : Fn} (h : Tab W b n F) {v : Value} (hq : W.cell? ⟨q, o, none⟩ = some v) : q ≠ b := by
  rintro rfl
  obtain ⟨D, ⟨es, clock, h1, _⟩, _⟩ := h
  simp [World.cell?, h1] at hq
theorem RefAt.grown {W W' : World} {b q : Nat} {L : List Opn} (h : RefAt W b L) (hg : W.grownBy W' (some q)) (hb : q ≠ b) (hq : ∀ cur, W.heap[q]? ≠ some (.cells cur 39 (0, 0))) : RefAt W' b L := by
  obtain ⟨v, h1, h2⟩ := h
  refine ⟨v, (hg.block b (lt_of_block h1) (by simpa using Ne.symm hb)).trans h1, h2.kept hg (.inr ?_)⟩
  intro e
  rcases h2.2 with ⟨rfl, _⟩ | ⟨g, cap, cur, rfl, _, q2, _⟩
  · cases e
  · cases e
    exact hq _ q2
theorem RefAt.lt {W : World} {b : Nat} {L : List Opn} (h : RefAt W b L) : b < W.heap.size := by obtain ⟨v, h1, _⟩ := h; exact lt_of_block h1
theorem RefAt.block {W : World} {b : Nat} {L : List Opn} (h : RefAt W b L) : ∃ v, W.heap[b]? = some (.cells #[v] 71 (0, 0)) ∧ ∀ m, v ≠ .map m := by
  obtain ⟨v, h1, h2⟩ := h
  refine ⟨v, h1, fun m e => ?_⟩
  subst e
  rcases h2.2 with ⟨h, _⟩ | ⟨g, cap, cur, h, _⟩ <;> cases h

/-- The tables of the program's and of the document's, apart from one another. -/
structure Inv (W : World) (B o r n : Nat) (bt bm rb : Nat → Nat) (F : Nat → Fn) (L : Nat → List Opn) : Prop where
  tob : Trio W o 24 bt
  tr : Trio W r 27 rb
  oB : B ≤ o
  rB : B ≤ r
  box : ∀ j, j < 3 → W.cell? ⟨bt j, 0, none⟩ = some (.map (some (bm j)))
  tab : ∀ j, j < 3 → Tab W (bm j) n (F j)
  ref : ∀ j, j < 3 → RefAt W (rb j) (L j)
  mB : ∀ j, j < 3 → B ≤ bm j
  bB : ∀ j, j < 3 → B ≤ rb j
  mne : ∀ j k, j < 3 → k < 3 → j ≠ k → bm j ≠ bm k
  rne : ∀ j k, j < 3 → k < 3 → j ≠ k → rb j ≠ rb k
section
variable {W W' : World} {B o r n : Nat} {bt bm rb : Nat → Nat} {F : Nat → Fn} {L : Nat → List Opn}
theorem Inv.keep (h : Inv W B o r n bt bm rb F L) (hb : Below W.heap.size W W') : Inv W' B o r n bt bm rb F L :=
  ⟨h.tob.keep hb, h.tr.keep hb, h.oB, h.rB, fun j hj => heap_cell_keep hb (h.box j hj), fun j hj => (h.tab j hj).keep hb, fun j hj => (h.ref j hj).keep hb, h.mB, h.bB, h.mne, h.rne⟩
theorem Inv.mono (h : Inv W B o r n bt bm rb F L) {m : Nat} (hm : n ≤ m) : Inv W B o r m bt bm rb F L :=
  ⟨h.tob, h.tr, h.oB, h.rB, h.box, fun j hj => (h.tab j hj).mono hm, h.ref, h.mB, h.bB, h.mne, h.rne⟩
theorem Inv.add (h : Inv W B o r n bt bm rb F L) {k : Nat} (hk : k < 3) {m : Nat} (hm : n ≤ m) {G : Fn} (hg : W.grownBy W' (some (bm k))) (hT : Tab W' (bm k) m G) : Inv W' B o r m bt bm rb (put F k G) L := by
  have hk0 := h.tab k hk
  refine ⟨h.tob.grown hg (Ne.symm (tab_ne hk0 h.tob)), h.tr.grown hg (Ne.symm (tab_ne hk0 h.tr)), h.oB, h.rB, fun j hj => hg.cell (h.box j hj) (by simpa using tab_ne_cell hk0 (h.box j hj)), ?_, fun j hj => ?_, h.mB, h.bB, h.mne, h.rne⟩
  · exact put_all (p := fun j X => Tab W' (bm j) m X) hT fun j hj e => ((h.tab j hj).kept hg (by simpa using h.mne j k hj hk e)).mono hm
  · obtain ⟨v, h1, _⟩ := (h.ref j hj).block
    refine (h.ref j hj).grown hg (Ne.symm (tab_ne hk0 h1)) fun cur e => tab_ne hk0 e rfl
theorem Inv.radd (h : Inv W B o r n bt bm rb F L) {k : Nat} (hk : k < 3) {M : List Opn} (hg : W.grownBy W' (some (rb k))) (hT : RefAt W' (rb k) M) : Inv W' B o r n bt bm rb F (put L k M) := by
  obtain ⟨v, h1, h2⟩ := (h.ref k hk).block
  have ho : rb k ≠ o := by intro e; have h3 := h.tob; rw [Trio, ← e, h1] at h3; cases h3
  have hr : rb k ≠ r := by intro e; have h3 := h.tr; rw [Trio, ← e, h1] at h3; cases h3
  refine ⟨h.tob.grown hg ho, h.tr.grown hg hr, h.oB, h.rB, fun j hj => hg.cell (h.box j hj) ?_, fun j hj => (h.tab j hj).kept hg (by simpa using Ne.symm (tab_ne (h.tab j hj) h1)), ?_, h.mB, h.bB, h.mne, h.rne⟩
  · intro e
    have h3 := h.box j hj
    simp at e
    rw [e] at h3
    simp [World.cell?, h1] at h3
    exact h2 _ h3
  · exact put_all (p := fun j X => RefAt W' (rb j) X) hT fun j hj e => (h.ref j hj).grown hg (h.rne k j hk hj (Ne.symm e)) fun cur q => by rw [h1] at q; cases q
/-- A new table of the program's is put among the three. -/
theorem Inv.oset (h : Inv W B o r n bt bm rb F L) {k : Nat} (hk : k < 3) {G : Fn} {x y : Nat} (hb : Below W.heap.size W W') (hx : W.heap.size ≤ x) (hB : B ≤ W.heap.size) (hT : Tab W' x n G) (hc : W'.cell? ⟨y, 0, none⟩ = some (.map (some x))) :
    Inv (W'.setCell ⟨o, k, none⟩ (.pointer (some ⟨y, 0, none⟩))) B o r n (put bt k y) (put bm k x) rb (put F k G) L := by
  have h' := h.keep hb
  have hg := grown_set W' o k (.pointer (some ⟨y, 0, none⟩))
  have hbo : ∀ {z : Nat} {m : Option Nat}, W'.cell? ⟨z, 0, none⟩ = some (.map m) → z ≠ o := fun hz e => by
    rw [e, h'.tob.cell (k := 0) (by omega)] at hz; cases hz
  refine ⟨h'.tob.set hk y, h'.tr.grown hg ?_, h.oB, h.rB, ?_, ?_, fun j hj => ?_, ?_, h.bB, ?_, h.rne⟩
  · intro e; have h3 := h'.tr; rw [Trio, ← e, h'.tob] at h3; simp at h3
  · intro j hj
    by_cases e : j = k
    · subst e; rw [put_same, put_same]; exact hg.cell hc (by simpa using hbo hc)
    · rw [put_other _ _ e, put_other _ _ e]; exact hg.cell (h'.box j hj) (by simpa using hbo (h'.box j hj))
  · intro j hj
    by_cases e : j = k
    · subst e; rw [put_same, put_same]; exact hT.kept hg (by simpa using Ne.symm (tab_ne hT h'.tob))
    · rw [put_other _ _ e, put_other _ _ e]; exact (h'.tab j hj).kept hg (by simpa using Ne.symm (tab_ne (h'.tab j hj) h'.tob))
  · obtain ⟨v, h1, _⟩ := (h'.ref j hj).block
    refine (h'.ref j hj).grown hg ?_ fun cur q => ?_
    · intro e; rw [← e, h'.tob] at h1; cases h1
    · rw [h'.tob] at q; cases q
  · exact put_all (p := fun _ z => B ≤ z) (by omega) fun j hj _ => h.mB j hj
  · intro j i hj hi hne
    by_cases e : j = k
    · subst e
      have := (h.tab i hi).lt
      rw [put_same, put_other _ _ (Ne.symm hne)]
      omega
    · by_cases e2 : i = k
      · subst e2
        have := (h.tab j hj).lt
        rw [put_same, put_other _ _ e]
        omega
      · rw [put_other _ _ e, put_other _ _ e2]; exact h.mne j i hj hi hne
/-- A new table of the document's is put among the three. -/
theorem Inv.rset (h : Inv W B o r n bt bm rb F L) {k : Nat} (hk : k < 3) {M : List Opn} {x : Nat} (hb : Below W.heap.size W W') (hx : W.heap.size ≤ x) (hB : B ≤ W.heap.size) (hT : RefAt W' x M) :
    Inv (W'.setCell ⟨r, k, none⟩ (.pointer (some ⟨x, 0, none⟩))) B o r n bt bm (put rb k x) F (put L k M) := by
  have h' := h.keep hb
  have hg := grown_set W' r k (.pointer (some ⟨x, 0, none⟩))
  have hbo : ∀ {z : Nat} {m : Option Nat}, W'.cell? ⟨z, 0, none⟩ = some (.map m) → z ≠ r := fun hz e => by
    rw [e, h'.tr.cell (k := 0) (by omega)] at hz; cases hz
  have hrr : ∀ {z : Nat} {Z : List Opn}, RefAt W' z Z → RefAt (W'.setCell ⟨r, k, none⟩ (.pointer (some ⟨x, 0, none⟩))) z Z := fun hz => by
    obtain ⟨v, h1, _⟩ := hz.block
    refine hz.grown hg ?_ fun cur q => ?_
    · intro e; rw [← e, h'.tr] at h1; cases h1
    · rw [h'.tr] at q; cases q
  refine ⟨h'.tob.grown hg ?_, h'.tr.set hk x, h.oB, h.rB, fun j hj => hg.cell (h'.box j hj) (by simpa using hbo (h'.box j hj)), fun j hj => (h'.tab j hj).kept hg (by simpa using Ne.symm (tab_ne (h'.tab j hj) h'.tr)), ?_, h.mB, ?_, h.mne, ?_⟩
  · intro e; have h3 := h'.tob; rw [Trio, ← e, h'.tr] at h3; simp at h3
  · intro j hj
    by_cases e : j = k
    · subst e; rw [put_same, put_same]; exact hrr hT
    · rw [put_other _ _ e, put_other _ _ e]; exact hrr (h'.ref j hj)
  · exact put_all (p := fun _ z => B ≤ z) (by omega) fun j hj _ => h.bB j hj
  · intro j i hj hi hne
    by_cases e : j = k
    · subst e
      have := (h.ref i hi).lt
      rw [put_same, put_other _ _ (Ne.symm hne)]
      omega
    · by_cases e2 : i = k
      · subst e2
        have := (h.ref j hj).lt
        rw [put_same, put_other _ _ e]
        omega
      · rw [put_other _ _ e, put_other _ _ e2]; exact h.rne j i hj hi hne
end
/-- What holds of the operators themselves. -/
structure Lists (n : Nat) (L : Nat → List Opn) : Prop where
  good : ∀ j, j < 3 → Good (look (L j))
  ap : ∀ j, j < 3 → Apart (L j)
  len : ∀ j, j < 3 → (L j).length ≤ n
theorem Lists.mono {n m : Nat} {L : Nat → List Opn} (h : Lists n L) (hm : n ≤ m) : Lists m L := ⟨h.good, h.ap, fun j hj => Nat.le_trans (h.len j hj) hm⟩
theorem Lists.add {n : Nat} {L : Nat → List Opn} (h : Lists n L) {k : Nat} (hk : k < 3) (p kd : Int) {s : ByteArray} (hs : s.size ≤ maxLen) : Lists (n + 1) (put L k (grownL (L k) p kd s)) :=
  ⟨put_all (p := fun _ (X : List Opn) => Good (look X)) (by rw [look_grown]; exact (h.good k hk).after p kd hs) fun j hj _ => h.good j hj,
   put_all (p := fun _ (X : List Opn) => Apart X) ((h.ap k hk).grown p kd s) fun j hj _ => h.ap j hj,
   put_all (p := fun _ (X : List Opn) => X.length ≤ n + 1) (Nat.le_trans (grownL_length _ _ _ _) (by have := h.len k hk; omega)) fun j hj _ => by have := h.len j hj; omega⟩
theorem Lists.copy {n : Nat} {L : Nat → List Opn} (h : Lists n L) {k m : Nat} (hk : k < 3) : Lists n (put L m (L k)) :=
  ⟨put_all (p := fun _ (X : List Opn) => Good (look X)) (h.good k hk) fun j hj _ => h.good j hj, put_all (p := fun _ (X : List Opn) => Apart X) (h.ap k hk) fun j hj _ => h.ap j hj, put_all (p := fun _ (X : List Opn) => X.length ≤ n) (h.len k hk) fun j hj _ => h.len j hj⟩
theorem look_putL (L : Nat → List Opn) (k : Nat) (M : List Opn) : (fun j => look (put L k M j)) = put (fun j => look (L j)) k (look M) := by
  funext j
  by_cases e : j = k
  · subst e; simp only [put_same]
  · simp only [put_other _ _ e]
/-- The state at the head of the law's loop. -/
structure Play (W : World) (B o r n : Nat) : Prop where
  ex : ∃ bt bm rb L, Inv W B o r n bt bm rb (fun j => look (L j)) L ∧ Lists n L
theorem Play.keep {W W' : World} {B o r n : Nat} (h : Play W B o r n) (hb : Below W.heap.size W W') : Play W' B o r n := by
  obtain ⟨bt, bm, rb, L, h1, h2⟩ := h.ex
  exact ⟨bt, bm, rb, L, h1.keep hb, h2⟩
theorem Play.mono {W : World} {B o r n m : Nat} (h : Play W B o r n) (hm : n ≤ m) : Play W B o r m := by
  obtain ⟨bt, bm, rb, L, h1, h2⟩ := h.ex
  exact ⟨bt, bm, rb, L, h1.mono hm, h2.mono hm⟩
def tri {α : Type} (a b c : α) : Nat → α
  | 0 => a
  | 1 => b
  | _ => c
theorem tri_all {α : Type} {a b c : α} {p : Nat → α → Prop} (h0 : p 0 a) (h1 : p 1 b) (h2 : p 2 c) : ∀ j, j < 3 → p j (tri a b c j) := fun j hj => by
  rcases (show j = 0 ∨ j = 1 ∨ j = 2 by omega) with rfl | rfl | rfl
  · exact h0
  · exact h1
  · exact h2
theorem tri_ne {a b c : Nat} (h1 : a < b) (h2 : b < c) : ∀ j k, j < 3 → k < 3 → j ≠ k → tri a b c j ≠ tri a b c k := fun j k hj hk hne => by
  rcases (show j = 0 ∨ j = 1 ∨ j = 2 by omega) with rfl | rfl | rfl <;> rcases (show k = 0 ∨ k = 1 ∨ k = 2 by omega) with rfl | rfl | rfl <;> simp only [tri] at * <;> omega
theorem play_start {W : World} {B o r t0 t1 t2 m0 m1 m2 r0 r1 r2 : Nat} (ho : W.heap[o]? = some (.cells #[.pointer (some ⟨t0, 0, none⟩), .pointer (some ⟨t1, 0, none⟩), .pointer (some ⟨t2, 0, none⟩)] 24 (0, 0)))
    (hr : W.heap[r]? = some (.cells #[.pointer (some ⟨r0, 0, none⟩), .pointer (some ⟨r1, 0, none⟩), .pointer (some ⟨r2, 0, none⟩)] 27 (0, 0))) (hoB : B ≤ o) (hrB : B ≤ r)
    (c0 : W.cell? ⟨t0, 0, none⟩ = some (.map (some m0))) (c1 : W.cell? ⟨t1, 0, none⟩ = some (.map (some m1))) (c2 : W.cell? ⟨t2, 0, none⟩ = some (.map (some m2)))
    (T0 : Tab W m0 54 newF) (T1 : Tab W m1 54 newF) (T2 : Tab W m2 54 newF) (R0 : RefAt W r0 newL) (R1 : RefAt W r1 newL) (R2 : RefAt W r2 newL)
    (mB : B ≤ m0) (m01 : m0 < m1) (m12 : m1 < m2) (rB : B ≤ r0) (r01 : r0 < r1) (r12 : r1 < r2) : Play W B o r 54 := by
  refine ⟨⟨tri t0 t1 t2, tri m0 m1 m2, tri r0 r1 r2, fun _ => newL, ⟨ho, hr, hoB, hrB, ?_, ?_, ?_, ?_, ?_, tri_ne m01 m12, tri_ne r01 r12⟩, ⟨fun _ _ => by rw [look_new]; exact good_new, fun _ _ => newL_apart, fun _ _ => by rw [newL_length]; exact Nat.le_refl _⟩⟩⟩
  · exact fun j hj => by
      rcases (show j = 0 ∨ j = 1 ∨ j = 2 by omega) with rfl | rfl | rfl
      · exact c0
      · exact c1
      · exact c2
  · exact fun j hj => by
      show Tab W _ 54 (look newL)
      rw [look_new]
      exact tri_all (p := fun _ z => Tab W z 54 newF) T0 T1 T2 j hj
  · exact tri_all (p := fun _ z => RefAt W z newL) R0 R1 R2
  · exact tri_all (p := fun _ z => B ≤ z) mB (by omega) (by omega)
  · exact tri_all (p := fun _ z => B ≤ z) rB (by omega) (by omega)
theorem play_add {W w2 w3 : World} {B o r n : Nat} {bt bm rb : Nat → Nat} {L : Nat → List Opn} (hI : Inv W B o r n bt bm rb (fun j => look (L j)) L) (hL : Lists n L) {k : Nat} (hk : k < 3) (p kd : Int) {s : ByteArray} (hs : s.size ≤ maxLen)
    (hg2 : W.grownBy w2 (some (bm k))) (hT2 : Tab w2 (bm k) (n + 1) (after (look (L k)) p kd s)) (hg3 : w2.grownBy w3 (some (rb k))) (hR3 : RefAt w3 (rb k) (grownL (L k) p kd s)) : Play w3 B o r (n + 1) := by
  have h := (hI.add hk (Nat.le_succ n) hg2 hT2).radd hk hg3 hR3
  rw [← look_grown, ← look_putL] at h
  exact ⟨_, _, _, _, h, hL.add hk p kd hs⟩
theorem play_copy {w2 w3 : World} {B o r n : Nat} {bt bm rb : Nat → Nat} {L : Nat → List Opn} (hL : Lists n L) {k m x y z : Nat} (hk : k < 3) (hm : m < 3) (hI : Inv w2 B o r n (put bt m y) (put bm m x) rb (put (fun j => look (L j)) m (look (L k))) L)
    (hb : Below w2.heap.size w2 w3) (hz : w2.heap.size ≤ z) (hB : B ≤ w2.heap.size) (hR : RefAt w3 z (L k)) : Play (w3.setCell ⟨r, m, none⟩ (.pointer (some ⟨z, 0, none⟩))) B o r n := by
  have h := hI.rset hm hb hz hB hR
  rw [← look_putL] at h
  exact ⟨_, _, _, _, h, hL.copy hk⟩
end Go.Proofs.YtnbhmgonijlplaaDoor
