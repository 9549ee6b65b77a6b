/- Terms and binds that lie from a block on, whatever becomes of what lies below: plain. No condition but those that each theorem names. Binds that lie from a block on, as a row of cells. No condition but those that each theorem names. Append of binds, of none too. No condition but those that each theorem names. Walk of the document's answer: into: a bind put into a rising list. No condition but those that the theorem names. -/
import Derived.Test.YtkapejcbmonfkaaGreatDoorT87m
import Derived.Maps.AppendAt
import Derived.Deep.AppendSrc
import Derived.Deep.AppendLies
import Derived.BigQuiet
import Derived.Deep.RegionHeld3
import Derived.Test.YtkapejcbmonfkaaGreatDoorT110m
namespace Go.Proofs.YtkapejcbmonfkaaGreatDoor
open Go.RowKit

/-- As it was from a block on. -/
def AgreeHi (w W : World) (B : Nat) : Prop := ∀ x, B ≤ x → x < w.heap.size → W.heap[x]? = w.heap[x]?
theorem AgreeHi.refl (w : World) (B : Nat) : AgreeHi w w B := fun _ _ _ => rfl
theorem AgreeHi.below {w w' W : World} {B : Nat} (h : AgreeHi w' W B) (hb : Below w.heap.size w w') : AgreeHi w W B := fun x h1 h2 => (h x h1 (Nat.lt_of_lt_of_le h2 hb.size)).trans (hb.block x h2)
/-- A term that lies from a block on. -/
def TmHi (w : World) (B : Nat) (t : Tm) (p : Option Addr) : Prop := ∀ W, AgreeHi w W B → TmAt W t p
theorem TmHi.at_ {w : World} {B : Nat} {t : Tm} {p : Option Addr} (h : TmHi w B t p) : TmAt w t p := h w (AgreeHi.refl _ _)
theorem TmHi.keep {w w' : World} {B : Nat} {t : Tm} {p : Option Addr} (h : TmHi w B t p) (hb : Below w.heap.size w w') : TmHi w' B t p := fun W hW => h W (hW.below hb)
theorem WeakT.hi {w : World} {B : Nat} {t : Tm} {p : Option Addr} {cap : Nat} {S : List Nat} (h : WeakT w t p cap S) (hs : ∀ k ∈ S, B ≤ k) : TmHi w B t p := fun _W hW => (h.same fun k hk => hW k (hs k hk) (h.lt k hk)).at_
/-- Binds that lie from a block on. -/
def BindHi (w : World) (B : Nat) (l : List Bnd) (q : Option Addr) : Prop := ∀ k (h : k < l.length), ∃ b o, q = some ⟨b, o, none⟩ ∧ B ≤ b ∧ ∃ p c, w.cell? ⟨b, o + k * 7, none⟩ = some (.int .i64 l[k].1) ∧ Six w b (o + k * 7 + 1) l[k].2 p c ∧ TmHi w B l[k].2 p
theorem BindHi.nil (w : World) (B : Nat) (q : Option Addr) : BindHi w B [] q := fun k h => by simp at h
theorem cell_ltH {w : World} {b o : Nat} {v : Value} (h : w.cell? ⟨b, o, none⟩ = some v) : b < w.heap.size := by
  rcases Nat.lt_or_ge b w.heap.size with h1 | h1
  · exact h1
  · simp [World.cell?, h1] at h
theorem BindHi.agree {w W : World} {B : Nat} {l : List Bnd} {q : Option Addr} (h : BindHi w B l q) (hW : AgreeHi w W B) : BindAt W l q := fun k hk => by
  obtain ⟨b, o, e, hb, p, c, h1, h2, h3⟩ := h k hk
  have hs := hW b hb (cell_ltH h1)
  exact ⟨b, o, e, p, c, (World.cell?_of_block (a := ⟨b, o + k * 7, none⟩) hs).trans h1, h2.same hs, h3 W hW⟩
theorem BindHi.at_ {w : World} {B : Nat} {l : List Bnd} {q : Option Addr} (h : BindHi w B l q) : BindAt w l q := h.agree (AgreeHi.refl _ _)
theorem BindHi.keep {w w' : World} {B : Nat} {l : List Bnd} {q : Option Addr} (h : BindHi w B l q) (hb : Below w.heap.size w w') : BindHi w' B l q := fun k hk => by
  obtain ⟨b, o, e, h0, p, c, h1, h2, h3⟩ := h k hk
  exact ⟨b, o, e, h0, p, c, heap_cell_keep hb h1, h2.keep hb, h3.keep hb⟩
end Go.Proofs.YtkapejcbmonfkaaGreatDoor

namespace Go.Proofs.YtkapejcbmonfkaaGreatDoor
open Go.RowKit

def bindOf (x : Int × Tm × Option Addr × Nat) : Bnd := (x.1, x.2.1)
theorem flatB_append (L M : RowB) : flatB (L ++ M) = flatB L ++ flatB M := by unfold flatB; rw [List.flatMap_append]
theorem flatB_one (x : Int × Tm × Option Addr × Nat) : flatB [x] = cellsB x := by simp [flatB]
/-- A list whose parts all have something beside them. -/
theorem beside {α β : Type} (f : β → α) : ∀ (l : List α) (P : Nat → β → Prop), (∀ k (h : k < l.length), ∃ y, f y = l[k] ∧ P k y) → ∃ L : List β, L.map f = l ∧ ∀ k (h : k < L.length), P k L[k]
  | [], _, _ => ⟨[], rfl, fun k h => by simp at h⟩
  | x :: l, P, h => by
    obtain ⟨y, hy, hp⟩ := h 0 (by simp)
    obtain ⟨L, hL, hP⟩ := beside f l (fun k => P (k + 1)) fun k hk => by
      obtain ⟨z, h1, h2⟩ := h (k + 1) (by simpa using hk)
      exact ⟨z, by simpa using h1, h2⟩
    refine ⟨y :: L, by rw [List.map_cons, hL, hy]; rfl, fun k hk => ?_⟩
    cases k with
    | zero => exact hp
    | succ k => exact hP k (by simpa using hk)
/-- The cells of such binds. -/
theorem BindHi.row {w : World} {B : Nat} {l : List Bnd} {b o : Nat} (h : BindHi w B l (some ⟨b, o, none⟩)) : ∃ L : RowB, L.map bindOf = l ∧ (∀ x ∈ L, TmHi w B x.2.1 x.2.2.1) ∧ ∀ j u, (flatB L)[j]? = some u → w.cell? ⟨b, o + j, none⟩ = some u := by
  obtain ⟨L, hL, hP⟩ := beside bindOf l (fun k y => TmHi w B y.2.1 y.2.2.1 ∧ ∀ j u, (cellsB y)[j]? = some u → w.cell? ⟨b, o + k * 7 + j, none⟩ = some u) fun k hk => by
    obtain ⟨b', o', e, h0, p, c, h1, h2, h3⟩ := h k hk
    simp only [Option.some.injEq, Addr.mk.injEq, and_true] at e
    obtain ⟨rfl, rfl⟩ := e
    refine ⟨(l[k].1, l[k].2, p, c), rfl, h3, fun j u hu => ?_⟩
    have hj : j < 7 := (List.getElem?_eq_some_iff.1 hu).1
    rcases j with _ | _ | _ | _ | _ | _ | _ | j
    · rw [← hu]; exact h1
    · rw [← hu]; exact h2.c0
    · rw [← hu]; exact h2.c1
    · rw [← hu]; exact h2.c2
    · rw [← hu]; exact h2.c3
    · rw [← hu]; exact h2.c4
    · rw [← hu]; exact h2.c5
    · omega
  refine ⟨L, hL, fun x hx => ?_, fun j u hu => ?_⟩
  · obtain ⟨k, hk, rfl⟩ := List.mem_iff_getElem.1 hx
    exact (hP k hk).1
  · have hj : j < (flatB L).length := (List.getElem?_eq_some_iff.1 hu).1
    rw [flatB_length] at hj
    have hk : j / 7 < L.length := by omega
    have e : j / 7 * 7 + j % 7 = j := by omega
    have h2 := flatB_get L (j / 7) hk (j % 7) (by omega)
    rw [e, hu] at h2
    have h3 := (hP (j / 7) hk).2 (j % 7) u h2.symm
    rw [Nat.add_assoc, e] at h3
    exact h3
/-- A row of one's own holds such binds. -/
theorem BindHi.ofRow {w : World} {B : Nat} {q : Option Addr} {n c : Nat} {L : RowB} (h : w.ownsRow B 47 7 (.slice q n c) n (flatB L)) (ht : ∀ x ∈ L, TmHi w B x.2.1 x.2.2.1) : BindHi w B (L.map bindOf) q := fun k hk => by
  have hk' : k < L.length := by simpa using hk
  have hn : L.length = n := by
    have h1 := h.1
    rw [flatB_length] at h1
    omega
  rcases h.2 with ⟨h1, h2⟩ | ⟨g, cap, cur, e, h1, h2, h3, h4, h5, h6⟩
  · simp only [Value.slice.injEq] at h1
    omega
  · simp only [Value.slice.injEq] at e
    obtain ⟨rfl, -, rfl⟩ := e
    have c0 : ∀ j, j < 7 → w.cell? ⟨g, 0 + k * 7 + j, none⟩ = (cellsB L[k])[j]? := fun j hj => by
      rw [cells_of h2, Nat.zero_add, ← flatB_get L k hk' j hj, ← h6, List.getElem?_take, if_pos (by omega)]
      simp
    rw [List.getElem_map]
    exact ⟨g, 0, rfl, h1, L[k].2.2.1, L[k].2.2.2, (c0 0 (by omega)).trans rfl, ⟨(c0 1 (by omega)).trans rfl, (c0 2 (by omega)).trans rfl, (c0 3 (by omega)).trans rfl, (c0 4 (by omega)).trans rfl, (c0 5 (by omega)).trans rfl, (c0 6 (by omega)).trans rfl⟩, ht _ (List.getElem_mem hk')⟩
theorem TmHi.agree {w W : World} {B : Nat} {t : Tm} {p : Option Addr} (h : TmHi w B t p) (hW : AgreeHi w W B) (hs : w.heap.size ≤ W.heap.size) : TmHi W B t p := fun V hV => h V fun x h1 h2 => (hV x h1 (Nat.lt_of_lt_of_le h2 hs)).trans (hW x h1 h2)
theorem BindHi.above {w W : World} {B : Nat} {l : List Bnd} {q : Option Addr} (h : BindHi w B l q) (hW : AgreeHi w W B) (hs : w.heap.size ≤ W.heap.size) : BindHi W B l q := fun k hk => by
  obtain ⟨b, o, e, hb, p, c, h1, h2, h3⟩ := h k hk
  have hx := hW b hb (cell_ltH h1)
  exact ⟨b, o, e, hb, p, c, (World.cell?_of_block (a := ⟨b, o + k * 7, none⟩) hx).trans h1, h2.same hx, h3.agree hW hs⟩
end Go.Proofs.YtkapejcbmonfkaaGreatDoor

namespace Go.Proofs.YtkapejcbmonfkaaGreatDoor
open Go.RowKit

/-- Where the cells of binds may be read. -/
def SrcB (w : World) (q : Option Addr) (M : RowB) : Prop := (q = none ∧ M = []) ∨ ∃ b o, q = some ⟨b, o, none⟩ ∧ ∀ j u, (flatB M)[j]? = some u → w.cell? ⟨b, o + j, none⟩ = some u
theorem flatB_oneCell (M : RowB) : ∀ u ∈ flatB M, u.oneCell' = true := fun u hu => by
  obtain ⟨x, -, h⟩ := List.mem_flatMap.1 hu
  exact cellsBnd_one x u h
theorem run_appB (w : World) (ty : TypeId) (B : Nat) (hB : B ≤ w.heap.size) (g n c : Nat) (L : RowB) (hown : w.ownsRow B 47 7 (.slice (some ⟨g, 0, none⟩) n c) n (flatB L)) (q : Option Addr) (m c' : Nat) (M : RowB) (hm : M.length = m) (hs : SrcB w q M) (hlm : n + m ≤ 2000000) :
    ∃ g' c2 w', (Builtin.append_ #[45, 45] ty #[.slice (some ⟨g, 0, none⟩) n c, .slice q m c']).run Tryz.prog w = .ok (.slice (some ⟨g', 0, none⟩) (n + m) c2) w' ∧
      w'.ownsRow B 47 7 (.slice (some ⟨g', 0, none⟩) (n + m) c2) (n + m) (flatB (L ++ M)) ∧ w.grownBy w' (some g) ∧ (g' = g ∨ g' = w.heap.size) := by
  subst hm
  obtain ⟨i0, hi, hz0, hz1, hz2⟩ := info_parts infoBnd
  rw [flatB_append]
  rcases hs with ⟨rfl, rfl⟩ | ⟨b, o, rfl, hc⟩
  · have hnc : n ≤ c := by
      rcases hown.2 with ⟨h1, _⟩ | ⟨_, _, _, e, _, _, h3, _⟩
      · simp at h1
      · simp only [Value.slice.injEq] at e
        omega
    have hr := run_append_room_src (P := Tryz.prog) w 45 45 ty 47 i0 Tryz.underlying45 hi g 0 n c (.slice none 0 c') 0 [] (Src.ofNil w Tryz.underlying45 c') (by omega) (fun j h => by simp at h) (fun j h => by simp at h)
    have e0 : w.setCells g (0 + n * i0.size) [] = w := by simp [World.setCells]
    rw [e0] at hr
    refine ⟨g, c, w, hr, ?_, ⟨rfl, rfl, rfl, Nat.le_refl _, fun _ _ _ => rfl⟩, .inl rfl⟩
    simpa [flatB] using hown
  · obtain ⟨v', w', hr, h2, h3, h4, h5⟩ := run_append_own_at (P := Tryz.prog) w B 45 ty 47 i0 (.agg #[.int .i64 0, .int .i64 0, .string ⟨#[]⟩, .string ⟨#[]⟩, .int .u64 0, .int .i64 0, .slice none 0 0]) 7 88 Tryz.underlying45 hi hz0 hz1 hz2 rfl (by decide) (.slice (some ⟨g, 0, none⟩) n c) n (flatB L) hown ⟨b, o, none⟩ M.length c' (flatB M) (flatB_length M) (fun j u hu => by rw [Addr.add_lit]; exact hc j u hu) (flatB_oneCell M) (by unfold maxLen; omega) (by omega) hB
    have hv : v' ≠ .slice none 0 0 := fun e => by
      have := (h4.1 e).1
      simp at this
    rcases h2.2 with ⟨h1, _⟩ | ⟨g', cap, cur, rfl, _⟩
    · exact absurd h1 hv
    · refine ⟨g', cap, w', hr, h2, h3, ?_⟩
      rcases h5 with h5 | h5
      · left; simpa [Value.ownBlock] using h5
      · right; simpa [Value.ownBlock] using h5
/-- At a step of a region that draws its order. -/
theorem step_appB (w : World) {ops : Array Oper} {o : Oper} {a : Act} {K : Act → World → Prop} {Q : Exit → Act → World → Prop} {E : Prop} (hgd : o.guard = none) (s x : Operand)
    (ho : o.op = .call { callee := .builtin .append, args := #[s, x], argTypes := #[45, 45] })
    (B g n c : Nat) (L : RowB) (q : Option Addr) (m c' : Nat) (M : RowB) (hs : a.eval s = .slice (some ⟨g, 0, none⟩) n c) (hx : a.eval x = .slice q m c') (hB : B ≤ w.heap.size) (hown : w.ownsRow B 47 7 (.slice (some ⟨g, 0, none⟩) n c) n (flatB L)) (hm : M.length = m) (hsrc : SrcB w q M) (hlm : n + m ≤ 2000000)
    (h : ∀ g' c2 w', w'.ownsRow B 47 7 (.slice (some ⟨g', 0, none⟩) (n + m) c2) (n + m) (flatB (L ++ M)) → w.grownBy w' (some g) → (g' = g ∨ g' = w.heap.size) → K (a.put o.dst (.slice (some ⟨g', 0, none⟩) (n + m) c2)) w') :
    if Region.wanted o (yielded ops a.tmps) = true then Oper.wp Tryz.prog o a w K Q else E := by
  have hw : Region.wanted o (yielded ops a.tmps) = true := by simp [Region.wanted, hgd]
  rw [if_pos hw]
  obtain ⟨g', c2, w', hr, h2, h3, h4⟩ := run_appB w o.type B hB g n c L hown q m c' M hm hsrc hlm
  unfold Oper.wp execOp
  simp only [ho, resolve, invoke, builtin, Sem.run_bind, Sem.run_pure, Result.andThen_ok, List.map_toArray, List.map_cons, List.map_nil, hs, hx, hr]
  exact h g' c2 w' h2 h3 h4
/-- A row of one's own, where the blocks from its base on are as they were. -/
theorem ownsRow_keep {w w' : World} {B : Nat} {e : TypeId} {z : Nat} {v : Value} {n : Nat} {xs : List Value} (h : w.ownsRow B e z v n xs) (hb : ∀ k, B ≤ k → k < w.heap.size → w'.heap[k]? = w.heap[k]?) : w'.ownsRow B e z v n xs := by
  refine ⟨h.1, ?_⟩
  rcases h.2 with h1 | ⟨g, cap, cur, e, h1, h2, h3⟩
  · exact .inl h1
  · exact .inr ⟨g, cap, cur, e, h1, (hb g h1 (lt_of_block h2)).trans h2, h3⟩
theorem ownsRow_alloc {w : World} {B : Nat} {e : TypeId} {z : Nat} {v : Value} {n : Nat} {xs : List Value} (h : w.ownsRow B e z v n xs) (o : Obj) : (w.alloc o).ownsRow B e z v n xs := ownsRow_keep h fun k _ h2 => ((Below.refl w.heap.size w).alloc (Nat.le_refl _) o).block k h2
theorem ownsRow_cap {w : World} {B : Nat} {e : TypeId} {z : Nat} {q : Option Addr} {n c : Nat} {xs : List Value} (h : w.ownsRow B e z (.slice q n c) n xs) : n ≤ c := by
  rcases h.2 with ⟨h1, h2⟩ | ⟨g, cap, cur, e, h1, h2, h3, _⟩
  · simp only [Value.slice.injEq] at h1; omega
  · simp only [Value.slice.injEq] at e; omega
theorem srcB_block {W : World} {b : Nat} {x : Int × Tm × Option Addr × Nat} {t : TypeId} (h : W.heap[b]? = some (.cells (cellsB x).toArray t (0, 0))) : SrcB W (some ⟨b, 0, none⟩) [x] := .inr ⟨b, 0, rfl, fun j u hu => by
  rw [flatB_one] at hu
  rw [cells_of h, Nat.zero_add]
  simpa using hu⟩
theorem srcB_nil (W : World) (b o : Nat) {M : RowB} (h : M = []) : SrcB W (some ⟨b, o, none⟩) M := .inr ⟨b, o, rfl, fun j u hu => by rw [h] at hu; simp [flatB] at hu⟩
end Go.Proofs.YtkapejcbmonfkaaGreatDoor

namespace Go.Proofs.YtkapejcbmonfkaaGreatDoor
open Go.RowKit

/-- A list of binds as a slice tells it. -/
def LstQ (l : List Bnd) (q : Option Addr) (c : Nat) : Prop := (l = [] ∧ q = none ∧ c = 0) ∨ ∃ b o, q = some ⟨b, o, none⟩
theorem ownsRow_base {w : World} {B B' : Nat} {e : TypeId} {z : Nat} {v : Value} {n : Nat} {xs : List Value} (h : w.ownsRow B e z v n xs) (hb : B' ≤ B) : w.ownsRow B' e z v n xs := by
  refine ⟨h.1, ?_⟩
  rcases h.2 with h1 | ⟨g, cap, cur, e, h1, h2⟩
  · exact .inl h1
  · exact .inr ⟨g, cap, cur, e, Nat.le_trans hb h1, h2⟩
theorem into_end {w w3 : World} {B B2 : Nat} {l : List Bnd} {L : RowB} {k : Nat} {v : Int} {u : Tm} {p : Option Addr} {c : Nat} {q : Option Addr} {n c3 : Nat} (hB : B ≤ B2) (hb : Below w.heap.size w w3) (hL : L.map bindOf = l) (hLT : ∀ x ∈ L, TmHi w B x.2.1 x.2.2.1) (hu : TmHi w B u p)
    (hS : insB l (v, u) = l.take k ++ (v, u) :: l.drop k) (ho : w3.ownsRow B2 47 7 (.slice q n c3) n (flatB (L.take k ++ [(v, u, p, c)] ++ L.drop k))) : n ≤ c3 ∧ BindHi w3 B (insB l (v, u)) q := by
  refine ⟨ownsRow_cap ho, ?_⟩
  have h := BindHi.ofRow (ownsRow_base ho hB) (fun x hx => by
    rcases List.mem_append.1 hx with h | h
    · rcases List.mem_append.1 h with h | h
      · exact (hLT x (List.mem_of_mem_take h)).keep hb
      · simp only [List.mem_singleton] at h
        subst h
        exact hu.keep hb
    · exact (hLT x (List.mem_of_mem_drop h)).keep hb)
  have e : (L.take k ++ [(v, u, p, c)] ++ L.drop k).map bindOf = insB l (v, u) := by
    rw [hS, ← hL, List.map_append, List.map_append, List.map_take, List.map_drop, List.append_assoc]
    rfl
  rwa [e] at h

set_option maxRecDepth 100000 in
set_option maxHeartbeats 16000000 in
theorem into_any (l : List Bnd) (b0 o0 : Nat) (cl : Nat) (v : Int) (u : Tm) (p : Option Addr) (c : Nat) (w : World) (B : Nat) (hl : BindHi w B l (some ⟨b0, o0, none⟩)) (hr : Rises l) (hu : TmHi w B u p) (hB : B ≤ w.heap.size) (hlm : l.length ≤ 1000000) (hlc : l.length ≤ cl) :
    Calls Tryz.prog 86 #[.slice (some ⟨b0, o0, none⟩) l.length cl, .agg #[.int .i64 v, .int .i64 u.kind, .string u.name, .string u.num, .int .u64 u.bits, .int .i64 u.var, .slice p u.args.length c]] w fun e w' => ∃ b o c', e = .returned (.slice (some ⟨b, o, none⟩) (l.length + 1) c') ∧ l.length + 1 ≤ c' ∧ BindHi w' B (insB l (v, u)) (some ⟨b, o, none⟩) ∧ Below w.heap.size w w' := by
  have HL := hid hl
  have HR := hid hr
  have HU := hid hu
  have hlm' : (l.length : Int) ≤ 1000000 := by omega
  obtain ⟨W0, hW0⟩ : ∃ W0, W0 = w.alloc (.cells #[.int .i64 v, .int .i64 u.kind, .string u.name, .string u.num, .int .u64 u.bits, .int .i64 u.var, .slice p u.args.length c] 47) := ⟨_, rfl⟩
  have B0 := hid (show Below w.heap.size w W0 by rw [hW0]; exact (Below.refl _ _).alloc (Nat.le_refl _) _)
  have Z0 := hid (show W0.heap[w.heap.size]? = some (.cells #[.int .i64 v, .int .i64 u.kind, .string u.name, .string u.num, .int .u64 u.bits, .int .i64 u.var, .slice p u.args.length c] 47 (0, 0)) by rw [hW0]; exact heap_alloc_new w _)
  have HI := hid (show ∀ j (h : j < l.length), l.length ≤ j → v < l[j].1 from fun j h h2 => absurd h2 (by omega))
  clear hl hr hu
  go_enter Tryz.func86, Tryz.ntmps86
  go_wp2_with fail
  rw [← hW0]
  clear hW0
  go_loopw [5] (fun i wr => ∃ (k : Nat), k ≤ l.length ∧ i = .int .i64 (k : Int) ∧ Hid (wr.heap[w.heap.size]? = some (.cells #[.int .i64 v, .int .i64 u.kind, .string u.name, .string u.num, .int .u64 u.bits, .int .i64 u.var, .slice p u.args.length c] 47 (0, 0))) ∧ Hid (∀ j (h : j < l.length), k ≤ j → v < l[j].1) ∧ Hid (Below w.heap.size w wr)) (fun i _ => (intOf i).toNat)
  case atStart => exact ⟨l.length, by omega, rfl, Z0, HI, B0⟩
  case round =>
    clear Z0 HI B0
    obtain ⟨k, hk, rfl, Z, HI, hBr⟩ := hrel
    have hk0 : (0 : Int) ≤ (k : Int) := by omega
    have hk2 : (k : Int) ≤ 1000000 := by omega
    have a0 : wr.cell? ⟨w.heap.size, 0, none⟩ = some (.int .i64 v) := (cells_of Z.out _).trans rfl
    by_cases hz : k = 0
    · have hg : decide ((0 : Int) < (k : Int)) = false := by simp; omega
      have HLow := hid (show ∀ j (h : j < l.length), j < k → l[j].1 ≤ v from fun j _ h2 => absurd h2 (by omega))
      have hg2 : ¬ ((0 : Int) < (k : Int)) := by omega
      have hg3 : decide (0 < k) = false := by simp; omega
      have hg4 : ¬ (0 < k) := by omega
      clear hz
      go_wp2_with fail
      go_quiet (fail)
      have hBq := hid (show Below w.heap.size w (wr.drewN nq) from hBr.out.trans ((drewN_below wr nq).mono hBr.out.size))
      have Zq := hid (show (wr.drewN nq).heap[w.heap.size]? = some (.cells #[.int .i64 v, .int .i64 u.kind, .string u.name, .string u.num, .int .u64 u.bits, .int .i64 u.var, .slice p u.args.length c] 47 (0, 0)) by simpa using Z.out)
      generalize wr.drewN nq = wq at *
      clear a0 hBr Z hg hg2 hg3 hg4
      go_wp2_with fail
      have r4 := hid (show Below wq.heap.size wq wq.drew from (Below.refl _ _).drew)
      have SK := hid (fun (W : World) (h : Below wq.heap.size wq W) => (show W.cell? ⟨w.heap.size, 0, none⟩ = some (.int .i64 v) ∧ W.cell? ⟨w.heap.size, 1, none⟩ = some (.int .i64 u.kind) ∧ W.cell? ⟨w.heap.size, 2, none⟩ = some (.string u.name) ∧ W.cell? ⟨w.heap.size, 3, none⟩ = some (.string u.num) ∧ W.cell? ⟨w.heap.size, 4, none⟩ = some (.int .u64 u.bits) ∧ W.cell? ⟨w.heap.size, 5, none⟩ = some (.int .i64 u.var) ∧ W.cell? ⟨w.heap.size, 6, none⟩ = some (.slice p u.args.length c) from by
        have z : W.heap[w.heap.size]? = _ := (h.block _ (lt_of_block Zq.out)).trans Zq.out
        exact ⟨(cells_of z _).trans rfl, (cells_of z _).trans rfl, (cells_of z _).trans rfl, (cells_of z _).trans rfl, (cells_of z _).trans rfl, (cells_of z _).trans rfl, (cells_of z _).trans rfl⟩))
      have S0 := SK.out wq (Below.refl _ _)
      have OE := hid (fun (W : World) (g : Nat) (h : W.heap[g]? = some (.cells #[] 47 (0, 0))) (h2 : wq.heap.size ≤ g) => (⟨rfl, .inr ⟨g, 0, #[], rfl, h2, h, Nat.le_refl _, by decide, rfl, rfl⟩⟩ : W.ownsRow wq.heap.size 47 7 (.slice (some ⟨g, 0, none⟩) 0 0) 0 (flatB [])))
      have hS := hid (insB_split l (v, u) k hk HLow.out fun j h h2 => HI.out j h h2)
      obtain ⟨L, hL, hLT, hLC⟩ := HL.out.row
      have hLl : L.length = l.length := by rw [← hL, List.length_map]
      have HLT := hid hLT
      have HLM := hid hL
      have ST := hid (fun (W : World) (h : Below wq.heap.size wq W) => (Or.inr ⟨b0, o0, rfl, fun j x hx => heap_cell_keep (hBq.out.trans (h.mono hBq.out.size)) (hLC j x (by
        have e : flatB L = flatB (L.take k) ++ flatB (L.drop k) := by rw [← flatB_append, List.take_append_drop]
        rw [e, List.getElem?_append_left (List.getElem?_eq_some_iff.1 hx).1]
        exact hx))⟩ : SrcB W (some ⟨b0, o0, none⟩) (L.take k)))
      have SD := hid (fun (W : World) (h : Below wq.heap.size wq W) => (Or.inr ⟨b0, o0 + k * 7, rfl, fun j x hx => by
        rw [Nat.add_assoc]
        refine heap_cell_keep (hBq.out.trans (h.mono hBq.out.size)) (hLC _ x ?_)
        have e : flatB L = flatB (L.take k) ++ flatB (L.drop k) := by rw [← flatB_append, List.take_append_drop]
        have z : (flatB (L.take k)).length = k * 7 := by rw [flatB_length, List.length_take]; congr 1; omega
        rw [e, List.getElem?_append_right (by omega), z, show k * 7 + j - k * 7 = j by omega]
        exact hx⟩ : SrcB W (some ⟨b0, o0 + k * 7, none⟩) (L.drop k)))
      have hlt1 : (L.take k).length = k := by rw [List.length_take]; omega
      have hld1 : (L.drop k).length = l.length - k := by rw [List.length_drop]; omega
      have HN := hid (And.intro hlt1 hld1)
      have hkl : k ≤ l.length := hk
      have hEB := hid (show ((wq.alloc (.cells #[] 47)).alloc (.cells #[.int .i64 v, .int .i64 u.kind, .string u.name, .string u.num, .int .u64 u.bits, .int .i64 u.var, .slice p u.args.length c] 47)).drew.heap[wq.heap.size]? = some (.cells #[] 47 (0, 0)) from (Below.heap_alloc (wq.alloc (.cells #[] 47)) (.cells #[.int .i64 v, .int .i64 u.kind, .string u.name, .string u.num, .int .u64 u.bits, .int .i64 u.var, .slice p u.args.length c] 47) wq.heap.size (by simp)).trans (heap_alloc_new wq _))
      have hXC := hid (show ((wq.alloc (.cells #[.int .i64 v, .int .i64 u.kind, .string u.name, .string u.num, .int .u64 u.bits, .int .i64 u.var, .slice p u.args.length c] 47)).alloc (.cells #[] 47)).drew.heap[wq.heap.size]? = some (.cells #[.int .i64 v, .int .i64 u.kind, .string u.name, .string u.num, .int .u64 u.bits, .int .i64 u.var, .slice p u.args.length c] 47 (0, 0)) from (Below.heap_alloc (wq.alloc (.cells #[.int .i64 v, .int .i64 u.kind, .string u.name, .string u.num, .int .u64 u.bits, .int .i64 u.var, .slice p u.args.length c] 47)) (.cells #[] 47) wq.heap.size (by simp)).trans (heap_alloc_new wq _))
      have hXB := hid (show ((wq.alloc (.cells #[] 47)).alloc (.cells #[.int .i64 v, .int .i64 u.kind, .string u.name, .string u.num, .int .u64 u.bits, .int .i64 u.var, .slice p u.args.length c] 47)).drew.heap[wq.heap.size + 1]? = some (.cells #[.int .i64 v, .int .i64 u.kind, .string u.name, .string u.num, .int .u64 u.bits, .int .i64 u.var, .slice p u.args.length c] 47 (0, 0)) from by
        have h := heap_alloc_new (wq.alloc (.cells #[] 47)) (.cells #[.int .i64 v, .int .i64 u.kind, .string u.name, .string u.num, .int .u64 u.bits, .int .i64 u.var, .slice p u.args.length c] 47)
        rwa [show (wq.alloc (.cells #[] 47)).heap.size = wq.heap.size + 1 by simp] at h)
      have hEC := hid (show ((wq.alloc (.cells #[.int .i64 v, .int .i64 u.kind, .string u.name, .string u.num, .int .u64 u.bits, .int .i64 u.var, .slice p u.args.length c] 47)).alloc (.cells #[] 47)).drew.heap[wq.heap.size + 1]? = some (.cells #[] 47 (0, 0)) from by
        have h := heap_alloc_new (wq.alloc (.cells #[.int .i64 v, .int .i64 u.kind, .string u.name, .string u.num, .int .u64 u.bits, .int .i64 u.var, .slice p u.args.length c] 47)) (.cells #[] 47)
        rwa [show (wq.alloc (.cells #[.int .i64 v, .int .i64 u.kind, .string u.name, .string u.num, .int .u64 u.bits, .int .i64 u.var, .slice p u.args.length c] 47)).heap.size = wq.heap.size + 1 by simp] at h)
      clear hLC hLT hL hlt1 hld1
      by_cases hck : cl = k
      · have hlk : l.length = k := by omega
        have SD0 := hid (fun (W : World) (h : Below wq.heap.size wq W) => (srcB_nil W b0 o0 (List.drop_eq_nil_of_le (by rw [hLl, hlk]; exact Nat.le_refl _)) : SrcB W (some ⟨b0, o0, none⟩) (L.drop k)))
        have HN0 := hid (show (L.take k).length = k ∧ (L.drop k).length = 0 from ⟨HN.out.1, by rw [HN.out.2]; omega⟩)
        clear SD HN hLl
        have SD := SD0
        have HN := HN0
        clear SD0 HN0
        obtain rfl : cl = k := hck
        have hE := hid hlk
        have hkc : (cl : Int) ≤ (cl : Int) := by omega
        have hcm : cl ≤ 1000000 := by omega
        clear hlk hkl
        rw [hE.out]
        go_region_held3? (fun W => W.cell? ⟨w.heap.size, 0, none⟩ = some (.int .i64 v) ∧ W.cell? ⟨w.heap.size, 1, none⟩ = some (.int .i64 u.kind) ∧ W.cell? ⟨w.heap.size, 2, none⟩ = some (.string u.name) ∧ W.cell? ⟨w.heap.size, 3, none⟩ = some (.string u.num) ∧ W.cell? ⟨w.heap.size, 4, none⟩ = some (.int .u64 u.bits) ∧ W.cell? ⟨w.heap.size, 5, none⟩ = some (.int .i64 u.var) ∧ W.cell? ⟨w.heap.size, 6, none⟩ = some (.slice p u.args.length c))
          (first | exact SK.out _ HG3.out | exact SK.out _ HG2.out | exact SK.out _ HG1.out | exact SK.out _ HG1.out.drew | exact SK.out _ (HG1.out.alloc HG1.out.size _) | exact SK.out _ (HG1.out.alloc HG1.out.size _).drew | exact S0 | exact SK.out _ (Below.refl _ _).drew | exact SK.out _ ((Below.refl _ _).alloc (Nat.le_refl _) _).drew | exact SK.out _ (((Below.refl _ _).alloc (Nat.le_refl _) _).alloc (by simp) _).drew | go_keep)
          (first
            | ((refine step_appB (wq.alloc (.cells #[] 47)).drew (by rfl) (.tmp 23) (.tmp 26) (by rfl) wq.heap.size (wq.heap.size) 0 0 [] (some ⟨b0, o0, none⟩) cl cl (L.take cl) (by rfl) (by rfl) (by first | (simp; done) | (simp; omega)) (OE.out _ _ (heap_alloc_new _ _) (by omega)) HN.out.1 (ST.out _ ((Below.refl _ _).alloc (Nat.le_refl _) _).drew) (by omega) ?_); intro g1 c1 w1 hown1 hgrow1 hat1
               (try simp only [Nat.zero_add])
               have HO1 := hid (show w1.ownsRow wq.heap.size 47 7 (.slice (some ⟨g1, 0, none⟩) cl c1) cl (flatB (L.take cl)) from by simpa using hown1)
               have HG1 := hid (show Below wq.heap.size wq w1 from (show Below wq.heap.size wq (wq.alloc (.cells #[] 47)).drew from ((Below.refl _ _).alloc (Nat.le_refl _) _).drew).grown hgrow1 (by first | (simp; done) | (simp; omega)) (by intro x e; cases e; omega))
               have hge1 : wq.heap.size ≤ g1 := by
                 have e9 : wq.heap.size ≤ (wq.alloc (.cells #[] 47)).drew.heap.size := by first | (simp; done) | (simp; omega)
                 rcases hat1 with h | h <;> omega
               clear hown1 hgrow1 hat1)
            | ((refine step_appB ((wq.alloc (.cells #[] 47)).alloc (.cells #[.int .i64 v, .int .i64 u.kind, .string u.name, .string u.num, .int .u64 u.bits, .int .i64 u.var, .slice p u.args.length c] 47)).drew (by rfl) (.tmp 23) (.tmp 26) (by rfl) wq.heap.size (wq.heap.size) 0 0 [] (some ⟨b0, o0, none⟩) cl cl (L.take cl) (by rfl) (by rfl) (by first | (simp; done) | (simp; omega)) (OE.out _ _ hEB.out (by omega)) HN.out.1 (ST.out _ (((Below.refl _ _).alloc (Nat.le_refl _) _).alloc (by simp) _).drew) (by omega) ?_); intro g1 c1 w1 hown1 hgrow1 hat1
               (try simp only [Nat.zero_add])
               have HO1 := hid (show w1.ownsRow wq.heap.size 47 7 (.slice (some ⟨g1, 0, none⟩) cl c1) cl (flatB (L.take cl)) from by simpa using hown1)
               have HG1 := hid (show Below wq.heap.size wq w1 from (show Below wq.heap.size wq ((wq.alloc (.cells #[] 47)).alloc (.cells #[.int .i64 v, .int .i64 u.kind, .string u.name, .string u.num, .int .u64 u.bits, .int .i64 u.var, .slice p u.args.length c] 47)).drew from (((Below.refl _ _).alloc (Nat.le_refl _) _).alloc (by simp) _).drew).grown hgrow1 (by first | (simp; done) | (simp; omega)) (by intro x e; cases e; omega))
               have hge1 : wq.heap.size ≤ g1 := by
                 have e9 : wq.heap.size ≤ ((wq.alloc (.cells #[] 47)).alloc (.cells #[.int .i64 v, .int .i64 u.kind, .string u.name, .string u.num, .int .u64 u.bits, .int .i64 u.var, .slice p u.args.length c] 47)).drew.heap.size := by first | (simp; done) | (simp; omega)
                 rcases hat1 with h | h <;> omega
               have HX1 := hid (show w1.heap[wq.heap.size + 1]? = some (.cells #[.int .i64 v, .int .i64 u.kind, .string u.name, .string u.num, .int .u64 u.bits, .int .i64 u.var, .slice p u.args.length c] 47 (0, 0)) from (hgrow1.block (wq.heap.size + 1) (by first | (simp; done) | (simp; omega)) (by first | (simp; done) | (simp; omega))).trans hXB.out)
               clear hown1 hgrow1 hat1)
            | ((refine step_appB ((wq.alloc (.cells #[.int .i64 v, .int .i64 u.kind, .string u.name, .string u.num, .int .u64 u.bits, .int .i64 u.var, .slice p u.args.length c] 47)).alloc (.cells #[] 47)).drew (by rfl) (.tmp 23) (.tmp 26) (by rfl) wq.heap.size (wq.heap.size + 1) 0 0 [] (some ⟨b0, o0, none⟩) cl cl (L.take cl) (by rfl) (by rfl) (by first | (simp; done) | (simp; omega)) (OE.out _ _ hEC.out (by omega)) HN.out.1 (ST.out _ (((Below.refl _ _).alloc (Nat.le_refl _) _).alloc (by simp) _).drew) (by omega) ?_); intro g1 c1 w1 hown1 hgrow1 hat1
               (try simp only [Nat.zero_add])
               have HO1 := hid (show w1.ownsRow wq.heap.size 47 7 (.slice (some ⟨g1, 0, none⟩) cl c1) cl (flatB (L.take cl)) from by simpa using hown1)
               have HG1 := hid (show Below wq.heap.size wq w1 from (show Below wq.heap.size wq ((wq.alloc (.cells #[.int .i64 v, .int .i64 u.kind, .string u.name, .string u.num, .int .u64 u.bits, .int .i64 u.var, .slice p u.args.length c] 47)).alloc (.cells #[] 47)).drew from (((Below.refl _ _).alloc (Nat.le_refl _) _).alloc (by simp) _).drew).grown hgrow1 (by first | (simp; done) | (simp; omega)) (by intro x e; cases e; omega))
               have hge1 : wq.heap.size ≤ g1 := by
                 have e9 : wq.heap.size ≤ ((wq.alloc (.cells #[.int .i64 v, .int .i64 u.kind, .string u.name, .string u.num, .int .u64 u.bits, .int .i64 u.var, .slice p u.args.length c] 47)).alloc (.cells #[] 47)).drew.heap.size := by first | (simp; done) | (simp; omega)
                 rcases hat1 with h | h <;> omega
               have HX1 := hid (show w1.heap[wq.heap.size]? = some (.cells #[.int .i64 v, .int .i64 u.kind, .string u.name, .string u.num, .int .u64 u.bits, .int .i64 u.var, .slice p u.args.length c] 47 (0, 0)) from (hgrow1.block (wq.heap.size) (by first | (simp; done) | (simp; omega)) (by first | (simp; done) | (simp; omega))).trans hXC.out)
               clear hown1 hgrow1 hat1)
            | ((refine step_appB (w1.alloc (.cells #[.int .i64 v, .int .i64 u.kind, .string u.name, .string u.num, .int .u64 u.bits, .int .i64 u.var, .slice p u.args.length c] 47)) (by rfl) (.tmp 27) (.tmp 29) (by rfl) wq.heap.size g1 cl c1 (L.take cl) (some ⟨w1.heap.size, 0, none⟩) 1 1 [(v, u, p, c)] (by rfl) (by rfl) (HG1.out.alloc HG1.out.size _).size (ownsRow_alloc HO1.out _) rfl (srcB_block (heap_alloc_new w1 _)) (by omega) ?_); intro g2 c2 w2 hown2 hgrow2 hat2
               have HO2 := hid hown2
               have HG2 := hid (show Below wq.heap.size wq w2 from (show Below wq.heap.size wq (w1.alloc (.cells #[.int .i64 v, .int .i64 u.kind, .string u.name, .string u.num, .int .u64 u.bits, .int .i64 u.var, .slice p u.args.length c] 47)) from HG1.out.alloc HG1.out.size _).grown hgrow2 (HG1.out.alloc HG1.out.size _).size (by intro x e; cases e; exact hge1))
               have hge2 : wq.heap.size ≤ g2 := by
                 have e9 : wq.heap.size ≤ (w1.alloc (.cells #[.int .i64 v, .int .i64 u.kind, .string u.name, .string u.num, .int .u64 u.bits, .int .i64 u.var, .slice p u.args.length c] 47)).heap.size := (HG1.out.alloc HG1.out.size _).size
                 rcases hat2 with h | h <;> omega
               clear hown2 hgrow2 hat2)
            | ((refine step_appB w1 (by rfl) (.tmp 27) (.tmp 29) (by rfl) wq.heap.size g1 cl c1 (L.take cl) (some ⟨wq.heap.size + 1, 0, none⟩) 1 1 [(v, u, p, c)] (by rfl) (by rfl) (HG1.out).size (HO1.out) rfl (srcB_block HX1.out) (by omega) ?_); intro g2 c2 w2 hown2 hgrow2 hat2
               have HO2 := hid hown2
               have HG2 := hid (show Below wq.heap.size wq w2 from (show Below wq.heap.size wq w1 from HG1.out).grown hgrow2 (HG1.out).size (by intro x e; cases e; exact hge1))
               have hge2 : wq.heap.size ≤ g2 := by
                 have e9 : wq.heap.size ≤ w1.heap.size := (HG1.out).size
                 rcases hat2 with h | h <;> omega
               clear hown2 hgrow2 hat2)
            | ((refine step_appB w1 (by rfl) (.tmp 27) (.tmp 29) (by rfl) wq.heap.size g1 cl c1 (L.take cl) (some ⟨wq.heap.size, 0, none⟩) 1 1 [(v, u, p, c)] (by rfl) (by rfl) (HG1.out).size (HO1.out) rfl (srcB_block HX1.out) (by omega) ?_); intro g2 c2 w2 hown2 hgrow2 hat2
               have HO2 := hid hown2
               have HG2 := hid (show Below wq.heap.size wq w2 from (show Below wq.heap.size wq w1 from HG1.out).grown hgrow2 (HG1.out).size (by intro x e; cases e; exact hge1))
               have hge2 : wq.heap.size ≤ g2 := by
                 have e9 : wq.heap.size ≤ w1.heap.size := (HG1.out).size
                 rcases hat2 with h | h <;> omega
               clear hown2 hgrow2 hat2)
            | ((refine step_appB w2 (by rfl) (.tmp 30) (.tmp 33) (by rfl) wq.heap.size g2 (cl + 1) c2 (L.take cl ++ [(v, u, p, c)]) (some ⟨b0, o0, none⟩) (0) (0) (L.drop cl) (by rfl) (by rfl) HG2.out.size HO2.out HN.out.2 (SD.out _ HG2.out) (by omega) ?_); intro g3 c3 w3 hown3 hgrow3 hat3
               have HO3 := hid hown3
               have HG3 := hid (show Below wq.heap.size wq w3 from HG2.out.grown hgrow3 HG2.out.size (by intro x e; cases e; exact hge2))
               clear hown3 hgrow3 hat3)
            | fail)
        all_goals
          go_wp2_with fail
          go_ret
          refine ⟨g3, 0, c3, by rw [show cl + 1 = l.length + 1 by rw [hE.out]]; rfl, ?_⟩
          have Z3 := into_end (q := some ⟨g3, 0, none⟩) (Nat.le_trans hB hBq.out.size) (hBq.out.trans (HG3.out.mono hBq.out.size)) HLM.out HLT.out HU.out hS.out HO3.out
          exact ⟨by have := Z3.1; have := hE.out; omega, Z3.2, hBq.out.trans (HG3.out.mono hBq.out.size)⟩
      have hkc : (k : Int) ≤ (cl : Int) := by omega
      have hkn : k ≤ cl := by omega
      have hkl2 : (k : Int) ≤ (l.length : Int) := by omega
      have hlc2 : (l.length : Int) ≤ (cl : Int) := by omega
      clear hLl
      go_region_held3? (fun W => W.cell? ⟨w.heap.size, 0, none⟩ = some (.int .i64 v) ∧ W.cell? ⟨w.heap.size, 1, none⟩ = some (.int .i64 u.kind) ∧ W.cell? ⟨w.heap.size, 2, none⟩ = some (.string u.name) ∧ W.cell? ⟨w.heap.size, 3, none⟩ = some (.string u.num) ∧ W.cell? ⟨w.heap.size, 4, none⟩ = some (.int .u64 u.bits) ∧ W.cell? ⟨w.heap.size, 5, none⟩ = some (.int .i64 u.var) ∧ W.cell? ⟨w.heap.size, 6, none⟩ = some (.slice p u.args.length c))
        (first | exact SK.out _ HG3.out | exact SK.out _ HG2.out | exact SK.out _ HG1.out | exact SK.out _ HG1.out.drew | exact SK.out _ (HG1.out.alloc HG1.out.size _) | exact SK.out _ (HG1.out.alloc HG1.out.size _).drew | exact S0 | exact SK.out _ (Below.refl _ _).drew | exact SK.out _ ((Below.refl _ _).alloc (Nat.le_refl _) _).drew | exact SK.out _ (((Below.refl _ _).alloc (Nat.le_refl _) _).alloc (by simp) _).drew | go_keep)
        (first
          | ((refine step_appB (wq.alloc (.cells #[] 47)).drew (by rfl) (.tmp 23) (.tmp 26) (by rfl) wq.heap.size (wq.heap.size) 0 0 [] (some ⟨b0, o0, none⟩) k cl (L.take k) (by rfl) (by rfl) (by first | (simp; done) | (simp; omega)) (OE.out _ _ (heap_alloc_new _ _) (by omega)) HN.out.1 (ST.out _ ((Below.refl _ _).alloc (Nat.le_refl _) _).drew) (by omega) ?_); intro g1 c1 w1 hown1 hgrow1 hat1
             (try simp only [Nat.zero_add])
             have HO1 := hid (show w1.ownsRow wq.heap.size 47 7 (.slice (some ⟨g1, 0, none⟩) k c1) k (flatB (L.take k)) from by simpa using hown1)
             have HG1 := hid (show Below wq.heap.size wq w1 from (show Below wq.heap.size wq (wq.alloc (.cells #[] 47)).drew from ((Below.refl _ _).alloc (Nat.le_refl _) _).drew).grown hgrow1 (by first | (simp; done) | (simp; omega)) (by intro x e; cases e; omega))
             have hge1 : wq.heap.size ≤ g1 := by
               have e9 : wq.heap.size ≤ (wq.alloc (.cells #[] 47)).drew.heap.size := by first | (simp; done) | (simp; omega)
               rcases hat1 with h | h <;> omega
             clear hown1 hgrow1 hat1)
          | ((refine step_appB ((wq.alloc (.cells #[] 47)).alloc (.cells #[.int .i64 v, .int .i64 u.kind, .string u.name, .string u.num, .int .u64 u.bits, .int .i64 u.var, .slice p u.args.length c] 47)).drew (by rfl) (.tmp 23) (.tmp 26) (by rfl) wq.heap.size (wq.heap.size) 0 0 [] (some ⟨b0, o0, none⟩) k cl (L.take k) (by rfl) (by rfl) (by first | (simp; done) | (simp; omega)) (OE.out _ _ hEB.out (by omega)) HN.out.1 (ST.out _ (((Below.refl _ _).alloc (Nat.le_refl _) _).alloc (by simp) _).drew) (by omega) ?_); intro g1 c1 w1 hown1 hgrow1 hat1
             (try simp only [Nat.zero_add])
             have HO1 := hid (show w1.ownsRow wq.heap.size 47 7 (.slice (some ⟨g1, 0, none⟩) k c1) k (flatB (L.take k)) from by simpa using hown1)
             have HG1 := hid (show Below wq.heap.size wq w1 from (show Below wq.heap.size wq ((wq.alloc (.cells #[] 47)).alloc (.cells #[.int .i64 v, .int .i64 u.kind, .string u.name, .string u.num, .int .u64 u.bits, .int .i64 u.var, .slice p u.args.length c] 47)).drew from (((Below.refl _ _).alloc (Nat.le_refl _) _).alloc (by simp) _).drew).grown hgrow1 (by first | (simp; done) | (simp; omega)) (by intro x e; cases e; omega))
             have hge1 : wq.heap.size ≤ g1 := by
               have e9 : wq.heap.size ≤ ((wq.alloc (.cells #[] 47)).alloc (.cells #[.int .i64 v, .int .i64 u.kind, .string u.name, .string u.num, .int .u64 u.bits, .int .i64 u.var, .slice p u.args.length c] 47)).drew.heap.size := by first | (simp; done) | (simp; omega)
               rcases hat1 with h | h <;> omega
             have HX1 := hid (show w1.heap[wq.heap.size + 1]? = some (.cells #[.int .i64 v, .int .i64 u.kind, .string u.name, .string u.num, .int .u64 u.bits, .int .i64 u.var, .slice p u.args.length c] 47 (0, 0)) from (hgrow1.block (wq.heap.size + 1) (by first | (simp; done) | (simp; omega)) (by first | (simp; done) | (simp; omega))).trans hXB.out)
             clear hown1 hgrow1 hat1)
          | ((refine step_appB ((wq.alloc (.cells #[.int .i64 v, .int .i64 u.kind, .string u.name, .string u.num, .int .u64 u.bits, .int .i64 u.var, .slice p u.args.length c] 47)).alloc (.cells #[] 47)).drew (by rfl) (.tmp 23) (.tmp 26) (by rfl) wq.heap.size (wq.heap.size + 1) 0 0 [] (some ⟨b0, o0, none⟩) k cl (L.take k) (by rfl) (by rfl) (by first | (simp; done) | (simp; omega)) (OE.out _ _ hEC.out (by omega)) HN.out.1 (ST.out _ (((Below.refl _ _).alloc (Nat.le_refl _) _).alloc (by simp) _).drew) (by omega) ?_); intro g1 c1 w1 hown1 hgrow1 hat1
             (try simp only [Nat.zero_add])
             have HO1 := hid (show w1.ownsRow wq.heap.size 47 7 (.slice (some ⟨g1, 0, none⟩) k c1) k (flatB (L.take k)) from by simpa using hown1)
             have HG1 := hid (show Below wq.heap.size wq w1 from (show Below wq.heap.size wq ((wq.alloc (.cells #[.int .i64 v, .int .i64 u.kind, .string u.name, .string u.num, .int .u64 u.bits, .int .i64 u.var, .slice p u.args.length c] 47)).alloc (.cells #[] 47)).drew from (((Below.refl _ _).alloc (Nat.le_refl _) _).alloc (by simp) _).drew).grown hgrow1 (by first | (simp; done) | (simp; omega)) (by intro x e; cases e; omega))
             have hge1 : wq.heap.size ≤ g1 := by
               have e9 : wq.heap.size ≤ ((wq.alloc (.cells #[.int .i64 v, .int .i64 u.kind, .string u.name, .string u.num, .int .u64 u.bits, .int .i64 u.var, .slice p u.args.length c] 47)).alloc (.cells #[] 47)).drew.heap.size := by first | (simp; done) | (simp; omega)
               rcases hat1 with h | h <;> omega
             have HX1 := hid (show w1.heap[wq.heap.size]? = some (.cells #[.int .i64 v, .int .i64 u.kind, .string u.name, .string u.num, .int .u64 u.bits, .int .i64 u.var, .slice p u.args.length c] 47 (0, 0)) from (hgrow1.block (wq.heap.size) (by first | (simp; done) | (simp; omega)) (by first | (simp; done) | (simp; omega))).trans hXC.out)
             clear hown1 hgrow1 hat1)
          | ((refine step_appB (w1.alloc (.cells #[.int .i64 v, .int .i64 u.kind, .string u.name, .string u.num, .int .u64 u.bits, .int .i64 u.var, .slice p u.args.length c] 47)) (by rfl) (.tmp 27) (.tmp 29) (by rfl) wq.heap.size g1 k c1 (L.take k) (some ⟨w1.heap.size, 0, none⟩) 1 1 [(v, u, p, c)] (by rfl) (by rfl) (HG1.out.alloc HG1.out.size _).size (ownsRow_alloc HO1.out _) rfl (srcB_block (heap_alloc_new w1 _)) (by omega) ?_); intro g2 c2 w2 hown2 hgrow2 hat2
             have HO2 := hid hown2
             have HG2 := hid (show Below wq.heap.size wq w2 from (show Below wq.heap.size wq (w1.alloc (.cells #[.int .i64 v, .int .i64 u.kind, .string u.name, .string u.num, .int .u64 u.bits, .int .i64 u.var, .slice p u.args.length c] 47)) from HG1.out.alloc HG1.out.size _).grown hgrow2 (HG1.out.alloc HG1.out.size _).size (by intro x e; cases e; exact hge1))
             have hge2 : wq.heap.size ≤ g2 := by
               have e9 : wq.heap.size ≤ (w1.alloc (.cells #[.int .i64 v, .int .i64 u.kind, .string u.name, .string u.num, .int .u64 u.bits, .int .i64 u.var, .slice p u.args.length c] 47)).heap.size := (HG1.out.alloc HG1.out.size _).size
               rcases hat2 with h | h <;> omega
             clear hown2 hgrow2 hat2)
          | ((refine step_appB w1 (by rfl) (.tmp 27) (.tmp 29) (by rfl) wq.heap.size g1 k c1 (L.take k) (some ⟨wq.heap.size + 1, 0, none⟩) 1 1 [(v, u, p, c)] (by rfl) (by rfl) (HG1.out).size (HO1.out) rfl (srcB_block HX1.out) (by omega) ?_); intro g2 c2 w2 hown2 hgrow2 hat2
             have HO2 := hid hown2
             have HG2 := hid (show Below wq.heap.size wq w2 from (show Below wq.heap.size wq w1 from HG1.out).grown hgrow2 (HG1.out).size (by intro x e; cases e; exact hge1))
             have hge2 : wq.heap.size ≤ g2 := by
               have e9 : wq.heap.size ≤ w1.heap.size := (HG1.out).size
               rcases hat2 with h | h <;> omega
             clear hown2 hgrow2 hat2)
          | ((refine step_appB w1 (by rfl) (.tmp 27) (.tmp 29) (by rfl) wq.heap.size g1 k c1 (L.take k) (some ⟨wq.heap.size, 0, none⟩) 1 1 [(v, u, p, c)] (by rfl) (by rfl) (HG1.out).size (HO1.out) rfl (srcB_block HX1.out) (by omega) ?_); intro g2 c2 w2 hown2 hgrow2 hat2
             have HO2 := hid hown2
             have HG2 := hid (show Below wq.heap.size wq w2 from (show Below wq.heap.size wq w1 from HG1.out).grown hgrow2 (HG1.out).size (by intro x e; cases e; exact hge1))
             have hge2 : wq.heap.size ≤ g2 := by
               have e9 : wq.heap.size ≤ w1.heap.size := (HG1.out).size
               rcases hat2 with h | h <;> omega
             clear hown2 hgrow2 hat2)
          | ((refine step_appB w2 (by rfl) (.tmp 30) (.tmp 33) (by rfl) wq.heap.size g2 (k + 1) c2 (L.take k ++ [(v, u, p, c)]) (some ⟨b0, o0 + k * 7, none⟩) (l.length - k) (cl - k) (L.drop k) (by rfl) (by rfl) HG2.out.size HO2.out HN.out.2 (SD.out _ HG2.out) (by omega) ?_); intro g3 c3 w3 hown3 hgrow3 hat3
             have HO3 := hid hown3
             have HG3 := hid (show Below wq.heap.size wq w3 from HG2.out.grown hgrow3 HG2.out.size (by intro x e; cases e; exact hge2))
             clear hown3 hgrow3 hat3)
          | fail)
      all_goals
        go_wp2_with fail
        go_ret
        refine ⟨g3, 0, c3, by rw [show k + 1 + (l.length - k) = l.length + 1 by omega]; rfl, ?_⟩
        have Z3 := into_end (q := some ⟨g3, 0, none⟩) (Nat.le_trans hB hBq.out.size) (hBq.out.trans (HG3.out.mono hBq.out.size)) HLM.out HLT.out HU.out hS.out HO3.out
        exact ⟨by have := Z3.1; omega, Z3.2, hBq.out.trans (HG3.out.mono hBq.out.size)⟩
    · have hk1 : 0 < k := by omega
      have hg : decide ((0 : Int) < (k : Int)) = true := by simp; omega
      have hw1 : IntKind.i64.wrap ((k : Int) - 1) = ((k - 1 : Nat) : Int) := by
        rw [show (k : Int) - 1 = ((k - 1 : Nat) : Int) by omega]
        exact IntWalk.i64_in _ (by omega)
      obtain ⟨b, o, hbo, hbb, e1, c1, hv1, hs1, ht1⟩ := HL.out (k - 1) (by omega)
      simp only [Option.some.injEq, Addr.mk.injEq, and_true] at hbo
      obtain ⟨rfl, rfl⟩ := hbo
      have y0 := heap_cell_keep hBr.out hv1
      by_cases hin : v < l[k - 1].1
      · have hd : decide (v < l[k - 1].1) = true := by simp; omega
        have HI2 := hid (show ∀ j (h : j < l.length), k - 1 ≤ j → v < l[j].1 from fun j h h2 => by
          rcases Nat.lt_or_ge j k with h3 | h3
          · obtain rfl : j = k - 1 := by omega
            exact hin
          · exact HI.out j h h3)
        clear hv1 hs1 ht1 HI hin
        generalize l[k - 1].1 = bv at *
        go_wp2_with fail
        go_quiet (fail)
        have hBq := hid (show Below w.heap.size w (wr.drewN nq) from hBr.out.trans ((drewN_below wr nq).mono hBr.out.size))
        have Zq := hid (show (wr.drewN nq).heap[w.heap.size]? = some (.cells #[.int .i64 v, .int .i64 u.kind, .string u.name, .string u.num, .int .u64 u.bits, .int .i64 u.var, .slice p u.args.length c] 47 (0, 0)) by simpa using Z.out)
        generalize wr.drewN nq = wq at *
        clear a0 y0 hBr Z
        go_wp2_with fail
        go_roundw
        case rel => exact ⟨k - 1, by omega, by go_num, Zq, HI2, hBq⟩
        case measure => simp [intOf]; omega
      · have hd : decide (v < l[k - 1].1) = false := by simp; omega
        have HLow := hid (Rises.low HR.out v k hk (fun _ => by omega))
        clear hv1 hs1 ht1 hin
        generalize l[k - 1].1 = bv at *
        go_wp2_with fail
        go_quiet (fail)
        have hBq := hid (show Below w.heap.size w (wr.drewN nq) from hBr.out.trans ((drewN_below wr nq).mono hBr.out.size))
        have Zq := hid (show (wr.drewN nq).heap[w.heap.size]? = some (.cells #[.int .i64 v, .int .i64 u.kind, .string u.name, .string u.num, .int .u64 u.bits, .int .i64 u.var, .slice p u.args.length c] 47 (0, 0)) by simpa using Z.out)
        generalize wr.drewN nq = wq at *
        clear a0 y0 hBr Z hg hd hw1
        go_wp2_with fail
        have r4 := hid (show Below wq.heap.size wq wq.drew from (Below.refl _ _).drew)
        have SK := hid (fun (W : World) (h : Below wq.heap.size wq W) => (show W.cell? ⟨w.heap.size, 0, none⟩ = some (.int .i64 v) ∧ W.cell? ⟨w.heap.size, 1, none⟩ = some (.int .i64 u.kind) ∧ W.cell? ⟨w.heap.size, 2, none⟩ = some (.string u.name) ∧ W.cell? ⟨w.heap.size, 3, none⟩ = some (.string u.num) ∧ W.cell? ⟨w.heap.size, 4, none⟩ = some (.int .u64 u.bits) ∧ W.cell? ⟨w.heap.size, 5, none⟩ = some (.int .i64 u.var) ∧ W.cell? ⟨w.heap.size, 6, none⟩ = some (.slice p u.args.length c) from by
          have z : W.heap[w.heap.size]? = _ := (h.block _ (lt_of_block Zq.out)).trans Zq.out
          exact ⟨(cells_of z _).trans rfl, (cells_of z _).trans rfl, (cells_of z _).trans rfl, (cells_of z _).trans rfl, (cells_of z _).trans rfl, (cells_of z _).trans rfl, (cells_of z _).trans rfl⟩))
        have S0 := SK.out wq (Below.refl _ _)
        have OE := hid (fun (W : World) (g : Nat) (h : W.heap[g]? = some (.cells #[] 47 (0, 0))) (h2 : wq.heap.size ≤ g) => (⟨rfl, .inr ⟨g, 0, #[], rfl, h2, h, Nat.le_refl _, by decide, rfl, rfl⟩⟩ : W.ownsRow wq.heap.size 47 7 (.slice (some ⟨g, 0, none⟩) 0 0) 0 (flatB [])))
        have hS := hid (insB_split l (v, u) k hk HLow.out fun j h h2 => HI.out j h h2)
        obtain ⟨L, hL, hLT, hLC⟩ := HL.out.row
        have hLl : L.length = l.length := by rw [← hL, List.length_map]
        have HLT := hid hLT
        have HLM := hid hL
        have ST := hid (fun (W : World) (h : Below wq.heap.size wq W) => (Or.inr ⟨b0, o0, rfl, fun j x hx => heap_cell_keep (hBq.out.trans (h.mono hBq.out.size)) (hLC j x (by
          have e : flatB L = flatB (L.take k) ++ flatB (L.drop k) := by rw [← flatB_append, List.take_append_drop]
          rw [e, List.getElem?_append_left (List.getElem?_eq_some_iff.1 hx).1]
          exact hx))⟩ : SrcB W (some ⟨b0, o0, none⟩) (L.take k)))
        have SD := hid (fun (W : World) (h : Below wq.heap.size wq W) => (Or.inr ⟨b0, o0 + k * 7, rfl, fun j x hx => by
          rw [Nat.add_assoc]
          refine heap_cell_keep (hBq.out.trans (h.mono hBq.out.size)) (hLC _ x ?_)
          have e : flatB L = flatB (L.take k) ++ flatB (L.drop k) := by rw [← flatB_append, List.take_append_drop]
          have z : (flatB (L.take k)).length = k * 7 := by rw [flatB_length, List.length_take]; congr 1; omega
          rw [e, List.getElem?_append_right (by omega), z, show k * 7 + j - k * 7 = j by omega]
          exact hx⟩ : SrcB W (some ⟨b0, o0 + k * 7, none⟩) (L.drop k)))
        have hlt1 : (L.take k).length = k := by rw [List.length_take]; omega
        have hld1 : (L.drop k).length = l.length - k := by rw [List.length_drop]; omega
        have HN := hid (And.intro hlt1 hld1)
        have hkl : k ≤ l.length := hk
        have hEB := hid (show ((wq.alloc (.cells #[] 47)).alloc (.cells #[.int .i64 v, .int .i64 u.kind, .string u.name, .string u.num, .int .u64 u.bits, .int .i64 u.var, .slice p u.args.length c] 47)).drew.heap[wq.heap.size]? = some (.cells #[] 47 (0, 0)) from (Below.heap_alloc (wq.alloc (.cells #[] 47)) (.cells #[.int .i64 v, .int .i64 u.kind, .string u.name, .string u.num, .int .u64 u.bits, .int .i64 u.var, .slice p u.args.length c] 47) wq.heap.size (by simp)).trans (heap_alloc_new wq _))
        have hXC := hid (show ((wq.alloc (.cells #[.int .i64 v, .int .i64 u.kind, .string u.name, .string u.num, .int .u64 u.bits, .int .i64 u.var, .slice p u.args.length c] 47)).alloc (.cells #[] 47)).drew.heap[wq.heap.size]? = some (.cells #[.int .i64 v, .int .i64 u.kind, .string u.name, .string u.num, .int .u64 u.bits, .int .i64 u.var, .slice p u.args.length c] 47 (0, 0)) from (Below.heap_alloc (wq.alloc (.cells #[.int .i64 v, .int .i64 u.kind, .string u.name, .string u.num, .int .u64 u.bits, .int .i64 u.var, .slice p u.args.length c] 47)) (.cells #[] 47) wq.heap.size (by simp)).trans (heap_alloc_new wq _))
        have hXB := hid (show ((wq.alloc (.cells #[] 47)).alloc (.cells #[.int .i64 v, .int .i64 u.kind, .string u.name, .string u.num, .int .u64 u.bits, .int .i64 u.var, .slice p u.args.length c] 47)).drew.heap[wq.heap.size + 1]? = some (.cells #[.int .i64 v, .int .i64 u.kind, .string u.name, .string u.num, .int .u64 u.bits, .int .i64 u.var, .slice p u.args.length c] 47 (0, 0)) from by
          have h := heap_alloc_new (wq.alloc (.cells #[] 47)) (.cells #[.int .i64 v, .int .i64 u.kind, .string u.name, .string u.num, .int .u64 u.bits, .int .i64 u.var, .slice p u.args.length c] 47)
          rwa [show (wq.alloc (.cells #[] 47)).heap.size = wq.heap.size + 1 by simp] at h)
        have hEC := hid (show ((wq.alloc (.cells #[.int .i64 v, .int .i64 u.kind, .string u.name, .string u.num, .int .u64 u.bits, .int .i64 u.var, .slice p u.args.length c] 47)).alloc (.cells #[] 47)).drew.heap[wq.heap.size + 1]? = some (.cells #[] 47 (0, 0)) from by
          have h := heap_alloc_new (wq.alloc (.cells #[.int .i64 v, .int .i64 u.kind, .string u.name, .string u.num, .int .u64 u.bits, .int .i64 u.var, .slice p u.args.length c] 47)) (.cells #[] 47)
          rwa [show (wq.alloc (.cells #[.int .i64 v, .int .i64 u.kind, .string u.name, .string u.num, .int .u64 u.bits, .int .i64 u.var, .slice p u.args.length c] 47)).heap.size = wq.heap.size + 1 by simp] at h)
        clear hLC hLT hL hlt1 hld1
        by_cases hck : cl = k
        · have hlk : l.length = k := by omega
          have SD0 := hid (fun (W : World) (h : Below wq.heap.size wq W) => (srcB_nil W b0 o0 (List.drop_eq_nil_of_le (by rw [hLl, hlk]; exact Nat.le_refl _)) : SrcB W (some ⟨b0, o0, none⟩) (L.drop k)))
          have HN0 := hid (show (L.take k).length = k ∧ (L.drop k).length = 0 from ⟨HN.out.1, by rw [HN.out.2]; omega⟩)
          clear SD HN hLl
          have SD := SD0
          have HN := HN0
          clear SD0 HN0
          obtain rfl : cl = k := hck
          have hE := hid hlk
          have hkc : (cl : Int) ≤ (cl : Int) := by omega
          have hcm : cl ≤ 1000000 := by omega
          clear hlk hkl
          rw [hE.out]
          go_region_held3? (fun W => W.cell? ⟨w.heap.size, 0, none⟩ = some (.int .i64 v) ∧ W.cell? ⟨w.heap.size, 1, none⟩ = some (.int .i64 u.kind) ∧ W.cell? ⟨w.heap.size, 2, none⟩ = some (.string u.name) ∧ W.cell? ⟨w.heap.size, 3, none⟩ = some (.string u.num) ∧ W.cell? ⟨w.heap.size, 4, none⟩ = some (.int .u64 u.bits) ∧ W.cell? ⟨w.heap.size, 5, none⟩ = some (.int .i64 u.var) ∧ W.cell? ⟨w.heap.size, 6, none⟩ = some (.slice p u.args.length c))
            (first | exact SK.out _ HG3.out | exact SK.out _ HG2.out | exact SK.out _ HG1.out | exact SK.out _ HG1.out.drew | exact SK.out _ (HG1.out.alloc HG1.out.size _) | exact SK.out _ (HG1.out.alloc HG1.out.size _).drew | exact S0 | exact SK.out _ (Below.refl _ _).drew | exact SK.out _ ((Below.refl _ _).alloc (Nat.le_refl _) _).drew | exact SK.out _ (((Below.refl _ _).alloc (Nat.le_refl _) _).alloc (by simp) _).drew | go_keep)
            (first
              | ((refine step_appB (wq.alloc (.cells #[] 47)).drew (by rfl) (.tmp 23) (.tmp 26) (by rfl) wq.heap.size (wq.heap.size) 0 0 [] (some ⟨b0, o0, none⟩) cl cl (L.take cl) (by rfl) (by rfl) (by first | (simp; done) | (simp; omega)) (OE.out _ _ (heap_alloc_new _ _) (by omega)) HN.out.1 (ST.out _ ((Below.refl _ _).alloc (Nat.le_refl _) _).drew) (by omega) ?_); intro g1 c1 w1 hown1 hgrow1 hat1
                 (try simp only [Nat.zero_add])
                 have HO1 := hid (show w1.ownsRow wq.heap.size 47 7 (.slice (some ⟨g1, 0, none⟩) cl c1) cl (flatB (L.take cl)) from by simpa using hown1)
                 have HG1 := hid (show Below wq.heap.size wq w1 from (show Below wq.heap.size wq (wq.alloc (.cells #[] 47)).drew from ((Below.refl _ _).alloc (Nat.le_refl _) _).drew).grown hgrow1 (by first | (simp; done) | (simp; omega)) (by intro x e; cases e; omega))
                 have hge1 : wq.heap.size ≤ g1 := by
                   have e9 : wq.heap.size ≤ (wq.alloc (.cells #[] 47)).drew.heap.size := by first | (simp; done) | (simp; omega)
                   rcases hat1 with h | h <;> omega
                 clear hown1 hgrow1 hat1)
              | ((refine step_appB ((wq.alloc (.cells #[] 47)).alloc (.cells #[.int .i64 v, .int .i64 u.kind, .string u.name, .string u.num, .int .u64 u.bits, .int .i64 u.var, .slice p u.args.length c] 47)).drew (by rfl) (.tmp 23) (.tmp 26) (by rfl) wq.heap.size (wq.heap.size) 0 0 [] (some ⟨b0, o0, none⟩) cl cl (L.take cl) (by rfl) (by rfl) (by first | (simp; done) | (simp; omega)) (OE.out _ _ hEB.out (by omega)) HN.out.1 (ST.out _ (((Below.refl _ _).alloc (Nat.le_refl _) _).alloc (by simp) _).drew) (by omega) ?_); intro g1 c1 w1 hown1 hgrow1 hat1
                 (try simp only [Nat.zero_add])
                 have HO1 := hid (show w1.ownsRow wq.heap.size 47 7 (.slice (some ⟨g1, 0, none⟩) cl c1) cl (flatB (L.take cl)) from by simpa using hown1)
                 have HG1 := hid (show Below wq.heap.size wq w1 from (show Below wq.heap.size wq ((wq.alloc (.cells #[] 47)).alloc (.cells #[.int .i64 v, .int .i64 u.kind, .string u.name, .string u.num, .int .u64 u.bits, .int .i64 u.var, .slice p u.args.length c] 47)).drew from (((Below.refl _ _).alloc (Nat.le_refl _) _).alloc (by simp) _).drew).grown hgrow1 (by first | (simp; done) | (simp; omega)) (by intro x e; cases e; omega))
                 have hge1 : wq.heap.size ≤ g1 := by
                   have e9 : wq.heap.size ≤ ((wq.alloc (.cells #[] 47)).alloc (.cells #[.int .i64 v, .int .i64 u.kind, .string u.name, .string u.num, .int .u64 u.bits, .int .i64 u.var, .slice p u.args.length c] 47)).drew.heap.size := by first | (simp; done) | (simp; omega)
                   rcases hat1 with h | h <;> omega
                 have HX1 := hid (show w1.heap[wq.heap.size + 1]? = some (.cells #[.int .i64 v, .int .i64 u.kind, .string u.name, .string u.num, .int .u64 u.bits, .int .i64 u.var, .slice p u.args.length c] 47 (0, 0)) from (hgrow1.block (wq.heap.size + 1) (by first | (simp; done) | (simp; omega)) (by first | (simp; done) | (simp; omega))).trans hXB.out)
                 clear hown1 hgrow1 hat1)
              | ((refine step_appB ((wq.alloc (.cells #[.int .i64 v, .int .i64 u.kind, .string u.name, .string u.num, .int .u64 u.bits, .int .i64 u.var, .slice p u.args.length c] 47)).alloc (.cells #[] 47)).drew (by rfl) (.tmp 23) (.tmp 26) (by rfl) wq.heap.size (wq.heap.size + 1) 0 0 [] (some ⟨b0, o0, none⟩) cl cl (L.take cl) (by rfl) (by rfl) (by first | (simp; done) | (simp; omega)) (OE.out _ _ hEC.out (by omega)) HN.out.1 (ST.out _ (((Below.refl _ _).alloc (Nat.le_refl _) _).alloc (by simp) _).drew) (by omega) ?_); intro g1 c1 w1 hown1 hgrow1 hat1
                 (try simp only [Nat.zero_add])
                 have HO1 := hid (show w1.ownsRow wq.heap.size 47 7 (.slice (some ⟨g1, 0, none⟩) cl c1) cl (flatB (L.take cl)) from by simpa using hown1)
                 have HG1 := hid (show Below wq.heap.size wq w1 from (show Below wq.heap.size wq ((wq.alloc (.cells #[.int .i64 v, .int .i64 u.kind, .string u.name, .string u.num, .int .u64 u.bits, .int .i64 u.var, .slice p u.args.length c] 47)).alloc (.cells #[] 47)).drew from (((Below.refl _ _).alloc (Nat.le_refl _) _).alloc (by simp) _).drew).grown hgrow1 (by first | (simp; done) | (simp; omega)) (by intro x e; cases e; omega))
                 have hge1 : wq.heap.size ≤ g1 := by
                   have e9 : wq.heap.size ≤ ((wq.alloc (.cells #[.int .i64 v, .int .i64 u.kind, .string u.name, .string u.num, .int .u64 u.bits, .int .i64 u.var, .slice p u.args.length c] 47)).alloc (.cells #[] 47)).drew.heap.size := by first | (simp; done) | (simp; omega)
                   rcases hat1 with h | h <;> omega
                 have HX1 := hid (show w1.heap[wq.heap.size]? = some (.cells #[.int .i64 v, .int .i64 u.kind, .string u.name, .string u.num, .int .u64 u.bits, .int .i64 u.var, .slice p u.args.length c] 47 (0, 0)) from (hgrow1.block (wq.heap.size) (by first | (simp; done) | (simp; omega)) (by first | (simp; done) | (simp; omega))).trans hXC.out)
                 clear hown1 hgrow1 hat1)
              | ((refine step_appB (w1.alloc (.cells #[.int .i64 v, .int .i64 u.kind, .string u.name, .string u.num, .int .u64 u.bits, .int .i64 u.var, .slice p u.args.length c] 47)) (by rfl) (.tmp 27) (.tmp 29) (by rfl) wq.heap.size g1 cl c1 (L.take cl) (some ⟨w1.heap.size, 0, none⟩) 1 1 [(v, u, p, c)] (by rfl) (by rfl) (HG1.out.alloc HG1.out.size _).size (ownsRow_alloc HO1.out _) rfl (srcB_block (heap_alloc_new w1 _)) (by omega) ?_); intro g2 c2 w2 hown2 hgrow2 hat2
                 have HO2 := hid hown2
                 have HG2 := hid (show Below wq.heap.size wq w2 from (show Below wq.heap.size wq (w1.alloc (.cells #[.int .i64 v, .int .i64 u.kind, .string u.name, .string u.num, .int .u64 u.bits, .int .i64 u.var, .slice p u.args.length c] 47)) from HG1.out.alloc HG1.out.size _).grown hgrow2 (HG1.out.alloc HG1.out.size _).size (by intro x e; cases e; exact hge1))
                 have hge2 : wq.heap.size ≤ g2 := by
                   have e9 : wq.heap.size ≤ (w1.alloc (.cells #[.int .i64 v, .int .i64 u.kind, .string u.name, .string u.num, .int .u64 u.bits, .int .i64 u.var, .slice p u.args.length c] 47)).heap.size := (HG1.out.alloc HG1.out.size _).size
                   rcases hat2 with h | h <;> omega
                 clear hown2 hgrow2 hat2)
              | ((refine step_appB w1 (by rfl) (.tmp 27) (.tmp 29) (by rfl) wq.heap.size g1 cl c1 (L.take cl) (some ⟨wq.heap.size + 1, 0, none⟩) 1 1 [(v, u, p, c)] (by rfl) (by rfl) (HG1.out).size (HO1.out) rfl (srcB_block HX1.out) (by omega) ?_); intro g2 c2 w2 hown2 hgrow2 hat2
                 have HO2 := hid hown2
                 have HG2 := hid (show Below wq.heap.size wq w2 from (show Below wq.heap.size wq w1 from HG1.out).grown hgrow2 (HG1.out).size (by intro x e; cases e; exact hge1))
                 have hge2 : wq.heap.size ≤ g2 := by
                   have e9 : wq.heap.size ≤ w1.heap.size := (HG1.out).size
                   rcases hat2 with h | h <;> omega
                 clear hown2 hgrow2 hat2)
              | ((refine step_appB w1 (by rfl) (.tmp 27) (.tmp 29) (by rfl) wq.heap.size g1 cl c1 (L.take cl) (some ⟨wq.heap.size, 0, none⟩) 1 1 [(v, u, p, c)] (by rfl) (by rfl) (HG1.out).size (HO1.out) rfl (srcB_block HX1.out) (by omega) ?_); intro g2 c2 w2 hown2 hgrow2 hat2
                 have HO2 := hid hown2
                 have HG2 := hid (show Below wq.heap.size wq w2 from (show Below wq.heap.size wq w1 from HG1.out).grown hgrow2 (HG1.out).size (by intro x e; cases e; exact hge1))
                 have hge2 : wq.heap.size ≤ g2 := by
                   have e9 : wq.heap.size ≤ w1.heap.size := (HG1.out).size
                   rcases hat2 with h | h <;> omega
                 clear hown2 hgrow2 hat2)
              | ((refine step_appB w2 (by rfl) (.tmp 30) (.tmp 33) (by rfl) wq.heap.size g2 (cl + 1) c2 (L.take cl ++ [(v, u, p, c)]) (some ⟨b0, o0, none⟩) (0) (0) (L.drop cl) (by rfl) (by rfl) HG2.out.size HO2.out HN.out.2 (SD.out _ HG2.out) (by omega) ?_); intro g3 c3 w3 hown3 hgrow3 hat3
                 have HO3 := hid hown3
                 have HG3 := hid (show Below wq.heap.size wq w3 from HG2.out.grown hgrow3 HG2.out.size (by intro x e; cases e; exact hge2))
                 clear hown3 hgrow3 hat3)
              | fail)
          all_goals
            go_wp2_with fail
            go_ret
            refine ⟨g3, 0, c3, by rw [show cl + 1 = l.length + 1 by rw [hE.out]]; rfl, ?_⟩
            have Z3 := into_end (q := some ⟨g3, 0, none⟩) (Nat.le_trans hB hBq.out.size) (hBq.out.trans (HG3.out.mono hBq.out.size)) HLM.out HLT.out HU.out hS.out HO3.out
            exact ⟨by have := Z3.1; have := hE.out; omega, Z3.2, hBq.out.trans (HG3.out.mono hBq.out.size)⟩
        have hkc : (k : Int) ≤ (cl : Int) := by omega
        have hkn : k ≤ cl := by omega
        have hkl2 : (k : Int) ≤ (l.length : Int) := by omega
        have hlc2 : (l.length : Int) ≤ (cl : Int) := by omega
        clear hLl
        go_region_held3? (fun W => W.cell? ⟨w.heap.size, 0, none⟩ = some (.int .i64 v) ∧ W.cell? ⟨w.heap.size, 1, none⟩ = some (.int .i64 u.kind) ∧ W.cell? ⟨w.heap.size, 2, none⟩ = some (.string u.name) ∧ W.cell? ⟨w.heap.size, 3, none⟩ = some (.string u.num) ∧ W.cell? ⟨w.heap.size, 4, none⟩ = some (.int .u64 u.bits) ∧ W.cell? ⟨w.heap.size, 5, none⟩ = some (.int .i64 u.var) ∧ W.cell? ⟨w.heap.size, 6, none⟩ = some (.slice p u.args.length c))
          (first | exact SK.out _ HG3.out | exact SK.out _ HG2.out | exact SK.out _ HG1.out | exact SK.out _ HG1.out.drew | exact SK.out _ (HG1.out.alloc HG1.out.size _) | exact SK.out _ (HG1.out.alloc HG1.out.size _).drew | exact S0 | exact SK.out _ (Below.refl _ _).drew | exact SK.out _ ((Below.refl _ _).alloc (Nat.le_refl _) _).drew | exact SK.out _ (((Below.refl _ _).alloc (Nat.le_refl _) _).alloc (by simp) _).drew | go_keep)
          (first
            | ((refine step_appB (wq.alloc (.cells #[] 47)).drew (by rfl) (.tmp 23) (.tmp 26) (by rfl) wq.heap.size (wq.heap.size) 0 0 [] (some ⟨b0, o0, none⟩) k cl (L.take k) (by rfl) (by rfl) (by first | (simp; done) | (simp; omega)) (OE.out _ _ (heap_alloc_new _ _) (by omega)) HN.out.1 (ST.out _ ((Below.refl _ _).alloc (Nat.le_refl _) _).drew) (by omega) ?_); intro g1 c1 w1 hown1 hgrow1 hat1
               (try simp only [Nat.zero_add])
               have HO1 := hid (show w1.ownsRow wq.heap.size 47 7 (.slice (some ⟨g1, 0, none⟩) k c1) k (flatB (L.take k)) from by simpa using hown1)
               have HG1 := hid (show Below wq.heap.size wq w1 from (show Below wq.heap.size wq (wq.alloc (.cells #[] 47)).drew from ((Below.refl _ _).alloc (Nat.le_refl _) _).drew).grown hgrow1 (by first | (simp; done) | (simp; omega)) (by intro x e; cases e; omega))
               have hge1 : wq.heap.size ≤ g1 := by
                 have e9 : wq.heap.size ≤ (wq.alloc (.cells #[] 47)).drew.heap.size := by first | (simp; done) | (simp; omega)
                 rcases hat1 with h | h <;> omega
               clear hown1 hgrow1 hat1)
            | ((refine step_appB ((wq.alloc (.cells #[] 47)).alloc (.cells #[.int .i64 v, .int .i64 u.kind, .string u.name, .string u.num, .int .u64 u.bits, .int .i64 u.var, .slice p u.args.length c] 47)).drew (by rfl) (.tmp 23) (.tmp 26) (by rfl) wq.heap.size (wq.heap.size) 0 0 [] (some ⟨b0, o0, none⟩) k cl (L.take k) (by rfl) (by rfl) (by first | (simp; done) | (simp; omega)) (OE.out _ _ hEB.out (by omega)) HN.out.1 (ST.out _ (((Below.refl _ _).alloc (Nat.le_refl _) _).alloc (by simp) _).drew) (by omega) ?_); intro g1 c1 w1 hown1 hgrow1 hat1
               (try simp only [Nat.zero_add])
               have HO1 := hid (show w1.ownsRow wq.heap.size 47 7 (.slice (some ⟨g1, 0, none⟩) k c1) k (flatB (L.take k)) from by simpa using hown1)
               have HG1 := hid (show Below wq.heap.size wq w1 from (show Below wq.heap.size wq ((wq.alloc (.cells #[] 47)).alloc (.cells #[.int .i64 v, .int .i64 u.kind, .string u.name, .string u.num, .int .u64 u.bits, .int .i64 u.var, .slice p u.args.length c] 47)).drew from (((Below.refl _ _).alloc (Nat.le_refl _) _).alloc (by simp) _).drew).grown hgrow1 (by first | (simp; done) | (simp; omega)) (by intro x e; cases e; omega))
               have hge1 : wq.heap.size ≤ g1 := by
                 have e9 : wq.heap.size ≤ ((wq.alloc (.cells #[] 47)).alloc (.cells #[.int .i64 v, .int .i64 u.kind, .string u.name, .string u.num, .int .u64 u.bits, .int .i64 u.var, .slice p u.args.length c] 47)).drew.heap.size := by first | (simp; done) | (simp; omega)
                 rcases hat1 with h | h <;> omega
               have HX1 := hid (show w1.heap[wq.heap.size + 1]? = some (.cells #[.int .i64 v, .int .i64 u.kind, .string u.name, .string u.num, .int .u64 u.bits, .int .i64 u.var, .slice p u.args.length c] 47 (0, 0)) from (hgrow1.block (wq.heap.size + 1) (by first | (simp; done) | (simp; omega)) (by first | (simp; done) | (simp; omega))).trans hXB.out)
               clear hown1 hgrow1 hat1)
            | ((refine step_appB ((wq.alloc (.cells #[.int .i64 v, .int .i64 u.kind, .string u.name, .string u.num, .int .u64 u.bits, .int .i64 u.var, .slice p u.args.length c] 47)).alloc (.cells #[] 47)).drew (by rfl) (.tmp 23) (.tmp 26) (by rfl) wq.heap.size (wq.heap.size + 1) 0 0 [] (some ⟨b0, o0, none⟩) k cl (L.take k) (by rfl) (by rfl) (by first | (simp; done) | (simp; omega)) (OE.out _ _ hEC.out (by omega)) HN.out.1 (ST.out _ (((Below.refl _ _).alloc (Nat.le_refl _) _).alloc (by simp) _).drew) (by omega) ?_); intro g1 c1 w1 hown1 hgrow1 hat1
               (try simp only [Nat.zero_add])
               have HO1 := hid (show w1.ownsRow wq.heap.size 47 7 (.slice (some ⟨g1, 0, none⟩) k c1) k (flatB (L.take k)) from by simpa using hown1)
               have HG1 := hid (show Below wq.heap.size wq w1 from (show Below wq.heap.size wq ((wq.alloc (.cells #[.int .i64 v, .int .i64 u.kind, .string u.name, .string u.num, .int .u64 u.bits, .int .i64 u.var, .slice p u.args.length c] 47)).alloc (.cells #[] 47)).drew from (((Below.refl _ _).alloc (Nat.le_refl _) _).alloc (by simp) _).drew).grown hgrow1 (by first | (simp; done) | (simp; omega)) (by intro x e; cases e; omega))
               have hge1 : wq.heap.size ≤ g1 := by
                 have e9 : wq.heap.size ≤ ((wq.alloc (.cells #[.int .i64 v, .int .i64 u.kind, .string u.name, .string u.num, .int .u64 u.bits, .int .i64 u.var, .slice p u.args.length c] 47)).alloc (.cells #[] 47)).drew.heap.size := by first | (simp; done) | (simp; omega)
                 rcases hat1 with h | h <;> omega
               have HX1 := hid (show w1.heap[wq.heap.size]? = some (.cells #[.int .i64 v, .int .i64 u.kind, .string u.name, .string u.num, .int .u64 u.bits, .int .i64 u.var, .slice p u.args.length c] 47 (0, 0)) from (hgrow1.block (wq.heap.size) (by first | (simp; done) | (simp; omega)) (by first | (simp; done) | (simp; omega))).trans hXC.out)
               clear hown1 hgrow1 hat1)
            | ((refine step_appB (w1.alloc (.cells #[.int .i64 v, .int .i64 u.kind, .string u.name, .string u.num, .int .u64 u.bits, .int .i64 u.var, .slice p u.args.length c] 47)) (by rfl) (.tmp 27) (.tmp 29) (by rfl) wq.heap.size g1 k c1 (L.take k) (some ⟨w1.heap.size, 0, none⟩) 1 1 [(v, u, p, c)] (by rfl) (by rfl) (HG1.out.alloc HG1.out.size _).size (ownsRow_alloc HO1.out _) rfl (srcB_block (heap_alloc_new w1 _)) (by omega) ?_); intro g2 c2 w2 hown2 hgrow2 hat2
               have HO2 := hid hown2
               have HG2 := hid (show Below wq.heap.size wq w2 from (show Below wq.heap.size wq (w1.alloc (.cells #[.int .i64 v, .int .i64 u.kind, .string u.name, .string u.num, .int .u64 u.bits, .int .i64 u.var, .slice p u.args.length c] 47)) from HG1.out.alloc HG1.out.size _).grown hgrow2 (HG1.out.alloc HG1.out.size _).size (by intro x e; cases e; exact hge1))
               have hge2 : wq.heap.size ≤ g2 := by
                 have e9 : wq.heap.size ≤ (w1.alloc (.cells #[.int .i64 v, .int .i64 u.kind, .string u.name, .string u.num, .int .u64 u.bits, .int .i64 u.var, .slice p u.args.length c] 47)).heap.size := (HG1.out.alloc HG1.out.size _).size
                 rcases hat2 with h | h <;> omega
               clear hown2 hgrow2 hat2)
            | ((refine step_appB w1 (by rfl) (.tmp 27) (.tmp 29) (by rfl) wq.heap.size g1 k c1 (L.take k) (some ⟨wq.heap.size + 1, 0, none⟩) 1 1 [(v, u, p, c)] (by rfl) (by rfl) (HG1.out).size (HO1.out) rfl (srcB_block HX1.out) (by omega) ?_); intro g2 c2 w2 hown2 hgrow2 hat2
               have HO2 := hid hown2
               have HG2 := hid (show Below wq.heap.size wq w2 from (show Below wq.heap.size wq w1 from HG1.out).grown hgrow2 (HG1.out).size (by intro x e; cases e; exact hge1))
               have hge2 : wq.heap.size ≤ g2 := by
                 have e9 : wq.heap.size ≤ w1.heap.size := (HG1.out).size
                 rcases hat2 with h | h <;> omega
               clear hown2 hgrow2 hat2)
            | ((refine step_appB w1 (by rfl) (.tmp 27) (.tmp 29) (by rfl) wq.heap.size g1 k c1 (L.take k) (some ⟨wq.heap.size, 0, none⟩) 1 1 [(v, u, p, c)] (by rfl) (by rfl) (HG1.out).size (HO1.out) rfl (srcB_block HX1.out) (by omega) ?_); intro g2 c2 w2 hown2 hgrow2 hat2
               have HO2 := hid hown2
               have HG2 := hid (show Below wq.heap.size wq w2 from (show Below wq.heap.size wq w1 from HG1.out).grown hgrow2 (HG1.out).size (by intro x e; cases e; exact hge1))
               have hge2 : wq.heap.size ≤ g2 := by
                 have e9 : wq.heap.size ≤ w1.heap.size := (HG1.out).size
                 rcases hat2 with h | h <;> omega
               clear hown2 hgrow2 hat2)
            | ((refine step_appB w2 (by rfl) (.tmp 30) (.tmp 33) (by rfl) wq.heap.size g2 (k + 1) c2 (L.take k ++ [(v, u, p, c)]) (some ⟨b0, o0 + k * 7, none⟩) (l.length - k) (cl - k) (L.drop k) (by rfl) (by rfl) HG2.out.size HO2.out HN.out.2 (SD.out _ HG2.out) (by omega) ?_); intro g3 c3 w3 hown3 hgrow3 hat3
               have HO3 := hid hown3
               have HG3 := hid (show Below wq.heap.size wq w3 from HG2.out.grown hgrow3 HG2.out.size (by intro x e; cases e; exact hge2))
               clear hown3 hgrow3 hat3)
            | fail)
        all_goals
          go_wp2_with fail
          go_ret
          refine ⟨g3, 0, c3, by rw [show k + 1 + (l.length - k) = l.length + 1 by omega]; rfl, ?_⟩
          have Z3 := into_end (q := some ⟨g3, 0, none⟩) (Nat.le_trans hB hBq.out.size) (hBq.out.trans (HG3.out.mono hBq.out.size)) HLM.out HLT.out HU.out hS.out HO3.out
          exact ⟨by have := Z3.1; omega, Z3.2, hBq.out.trans (HG3.out.mono hBq.out.size)⟩
set_option maxRecDepth 100000 in
set_option maxHeartbeats 16000000 in
theorem into_nil (v : Int) (u : Tm) (p : Option Addr) (c : Nat) (w : World) (B : Nat) (hu : TmHi w B u p) (hB : B ≤ w.heap.size) :
    Calls Tryz.prog 86 #[.slice none 0 0, .agg #[.int .i64 v, .int .i64 u.kind, .string u.name, .string u.num, .int .u64 u.bits, .int .i64 u.var, .slice p u.args.length c]] w fun e w' => ∃ b o c', e = .returned (.slice (some ⟨b, o, none⟩) 1 c') ∧ 1 ≤ c' ∧ BindHi w' B [(v, u)] (some ⟨b, o, none⟩) ∧ Below w.heap.size w w' := by
  have HU := hid hu
  obtain ⟨W0, hW0⟩ : ∃ W0, W0 = w.alloc (.cells #[.int .i64 v, .int .i64 u.kind, .string u.name, .string u.num, .int .u64 u.bits, .int .i64 u.var, .slice p u.args.length c] 47) := ⟨_, rfl⟩
  have B0 := hid (show Below w.heap.size w W0 by rw [hW0]; exact (Below.refl _ _).alloc (Nat.le_refl _) _)
  have Z0 := hid (show W0.heap[w.heap.size]? = some (.cells #[.int .i64 v, .int .i64 u.kind, .string u.name, .string u.num, .int .u64 u.bits, .int .i64 u.var, .slice p u.args.length c] 47 (0, 0)) by rw [hW0]; exact heap_alloc_new w _)
  clear hu
  go_enter Tryz.func86, Tryz.ntmps86
  go_wp2_with fail
  rw [← hW0]
  clear hW0
  refine wp_loop_rounds 1 ?_
  rw [rounds_succ]
  have a0 : W0.cell? ⟨w.heap.size, 0, none⟩ = some (.int .i64 v) := (cells_of Z0.out _).trans rfl
  go_wp2_with fail
  go_quiet (fail)
  have hBq := hid (show Below w.heap.size w (W0.drewN nq) from B0.out.trans ((drewN_below W0 nq).mono B0.out.size))
  have Zq := hid (show (W0.drewN nq).heap[w.heap.size]? = some (.cells #[.int .i64 v, .int .i64 u.kind, .string u.name, .string u.num, .int .u64 u.bits, .int .i64 u.var, .slice p u.args.length c] 47 (0, 0)) by simpa using Z0.out)
  generalize W0.drewN nq = wq at *
  clear a0 B0 Z0
  go_wp2_with fail
  have r4 := hid (show Below wq.heap.size wq wq.drew from (Below.refl _ _).drew)
  have SK := hid (fun (W : World) (h : Below wq.heap.size wq W) => (show W.cell? ⟨w.heap.size, 0, none⟩ = some (.int .i64 v) ∧ W.cell? ⟨w.heap.size, 1, none⟩ = some (.int .i64 u.kind) ∧ W.cell? ⟨w.heap.size, 2, none⟩ = some (.string u.name) ∧ W.cell? ⟨w.heap.size, 3, none⟩ = some (.string u.num) ∧ W.cell? ⟨w.heap.size, 4, none⟩ = some (.int .u64 u.bits) ∧ W.cell? ⟨w.heap.size, 5, none⟩ = some (.int .i64 u.var) ∧ W.cell? ⟨w.heap.size, 6, none⟩ = some (.slice p u.args.length c) from by
    have z : W.heap[w.heap.size]? = _ := (h.block _ (lt_of_block Zq.out)).trans Zq.out
    exact ⟨(cells_of z _).trans rfl, (cells_of z _).trans rfl, (cells_of z _).trans rfl, (cells_of z _).trans rfl, (cells_of z _).trans rfl, (cells_of z _).trans rfl, (cells_of z _).trans rfl⟩))
  have S0 := SK.out wq (Below.refl _ _)
  have OE := hid (fun (W : World) (g : Nat) (h : W.heap[g]? = some (.cells #[] 47 (0, 0))) (h2 : wq.heap.size ≤ g) => (⟨rfl, .inr ⟨g, 0, #[], rfl, h2, h, Nat.le_refl _, by decide, rfl, rfl⟩⟩ : W.ownsRow wq.heap.size 47 7 (.slice (some ⟨g, 0, none⟩) 0 0) 0 (flatB [])))
  obtain ⟨L, hL0⟩ : ∃ L : RowB, L = [] := ⟨_, rfl⟩
  have HN := hid (show (L.take 0).length = 0 ∧ (L.drop 0).length = 0 by rw [hL0]; exact ⟨rfl, rfl⟩)
  have ST := hid (fun (W : World) (h : Below wq.heap.size wq W) => (Or.inl ⟨rfl, by rw [hL0]; rfl⟩ : SrcB W none (L.take 0)))
  have SD := hid (fun (W : World) (h : Below wq.heap.size wq W) => (Or.inl ⟨rfl, by rw [hL0]; rfl⟩ : SrcB W none (L.drop 0)))
  have HLM := hid (show L.map bindOf = [] by rw [hL0]; rfl)
  have HLT := hid (show ∀ x ∈ L, TmHi w B x.2.1 x.2.2.1 by rw [hL0]; intro x hx; cases hx)
  have hEB := hid (show ((wq.alloc (.cells #[] 47)).alloc (.cells #[.int .i64 v, .int .i64 u.kind, .string u.name, .string u.num, .int .u64 u.bits, .int .i64 u.var, .slice p u.args.length c] 47)).drew.heap[wq.heap.size]? = some (.cells #[] 47 (0, 0)) from (Below.heap_alloc (wq.alloc (.cells #[] 47)) (.cells #[.int .i64 v, .int .i64 u.kind, .string u.name, .string u.num, .int .u64 u.bits, .int .i64 u.var, .slice p u.args.length c] 47) wq.heap.size (by simp)).trans (heap_alloc_new wq _))
  have hXC := hid (show ((wq.alloc (.cells #[.int .i64 v, .int .i64 u.kind, .string u.name, .string u.num, .int .u64 u.bits, .int .i64 u.var, .slice p u.args.length c] 47)).alloc (.cells #[] 47)).drew.heap[wq.heap.size]? = some (.cells #[.int .i64 v, .int .i64 u.kind, .string u.name, .string u.num, .int .u64 u.bits, .int .i64 u.var, .slice p u.args.length c] 47 (0, 0)) from (Below.heap_alloc (wq.alloc (.cells #[.int .i64 v, .int .i64 u.kind, .string u.name, .string u.num, .int .u64 u.bits, .int .i64 u.var, .slice p u.args.length c] 47)) (.cells #[] 47) wq.heap.size (by simp)).trans (heap_alloc_new wq _))
  have hXB := hid (show ((wq.alloc (.cells #[] 47)).alloc (.cells #[.int .i64 v, .int .i64 u.kind, .string u.name, .string u.num, .int .u64 u.bits, .int .i64 u.var, .slice p u.args.length c] 47)).drew.heap[wq.heap.size + 1]? = some (.cells #[.int .i64 v, .int .i64 u.kind, .string u.name, .string u.num, .int .u64 u.bits, .int .i64 u.var, .slice p u.args.length c] 47 (0, 0)) from by
    have h := heap_alloc_new (wq.alloc (.cells #[] 47)) (.cells #[.int .i64 v, .int .i64 u.kind, .string u.name, .string u.num, .int .u64 u.bits, .int .i64 u.var, .slice p u.args.length c] 47)
    rwa [show (wq.alloc (.cells #[] 47)).heap.size = wq.heap.size + 1 by simp] at h)
  have hEC := hid (show ((wq.alloc (.cells #[.int .i64 v, .int .i64 u.kind, .string u.name, .string u.num, .int .u64 u.bits, .int .i64 u.var, .slice p u.args.length c] 47)).alloc (.cells #[] 47)).drew.heap[wq.heap.size + 1]? = some (.cells #[] 47 (0, 0)) from by
    have h := heap_alloc_new (wq.alloc (.cells #[.int .i64 v, .int .i64 u.kind, .string u.name, .string u.num, .int .u64 u.bits, .int .i64 u.var, .slice p u.args.length c] 47)) (.cells #[] 47)
    rwa [show (wq.alloc (.cells #[.int .i64 v, .int .i64 u.kind, .string u.name, .string u.num, .int .u64 u.bits, .int .i64 u.var, .slice p u.args.length c] 47)).heap.size = wq.heap.size + 1 by simp] at h)
  clear hL0
  go_region_held3? (fun W => W.cell? ⟨w.heap.size, 0, none⟩ = some (.int .i64 v) ∧ W.cell? ⟨w.heap.size, 1, none⟩ = some (.int .i64 u.kind) ∧ W.cell? ⟨w.heap.size, 2, none⟩ = some (.string u.name) ∧ W.cell? ⟨w.heap.size, 3, none⟩ = some (.string u.num) ∧ W.cell? ⟨w.heap.size, 4, none⟩ = some (.int .u64 u.bits) ∧ W.cell? ⟨w.heap.size, 5, none⟩ = some (.int .i64 u.var) ∧ W.cell? ⟨w.heap.size, 6, none⟩ = some (.slice p u.args.length c))
    (first | exact SK.out _ HG3.out | exact SK.out _ HG2.out | exact SK.out _ HG1.out | exact SK.out _ HG1.out.drew | exact SK.out _ (HG1.out.alloc HG1.out.size _) | exact SK.out _ (HG1.out.alloc HG1.out.size _).drew | exact S0 | exact SK.out _ (Below.refl _ _).drew | exact SK.out _ ((Below.refl _ _).alloc (Nat.le_refl _) _).drew | exact SK.out _ (((Below.refl _ _).alloc (Nat.le_refl _) _).alloc (by simp) _).drew | go_keep)
    (first
      | ((refine step_appB (wq.alloc (.cells #[] 47)).drew (by rfl) (.tmp 23) (.tmp 26) (by rfl) wq.heap.size (wq.heap.size) 0 0 [] (none) 0 0 (L.take 0) (by rfl) (by rfl) (by first | (simp; done) | (simp; omega)) (OE.out _ _ (heap_alloc_new _ _) (by omega)) HN.out.1 (ST.out _ ((Below.refl _ _).alloc (Nat.le_refl _) _).drew) (by omega) ?_); intro g1 c1 w1 hown1 hgrow1 hat1
         (try simp only [Nat.zero_add])
         have HO1 := hid (show w1.ownsRow wq.heap.size 47 7 (.slice (some ⟨g1, 0, none⟩) 0 c1) 0 (flatB (L.take 0)) from by simpa using hown1)
         have HG1 := hid (show Below wq.heap.size wq w1 from (show Below wq.heap.size wq (wq.alloc (.cells #[] 47)).drew from ((Below.refl _ _).alloc (Nat.le_refl _) _).drew).grown hgrow1 (by first | (simp; done) | (simp; omega)) (by intro x e; cases e; omega))
         have hge1 : wq.heap.size ≤ g1 := by
           have e9 : wq.heap.size ≤ (wq.alloc (.cells #[] 47)).drew.heap.size := by first | (simp; done) | (simp; omega)
           rcases hat1 with h | h <;> omega
         clear hown1 hgrow1 hat1)
      | ((refine step_appB ((wq.alloc (.cells #[] 47)).alloc (.cells #[.int .i64 v, .int .i64 u.kind, .string u.name, .string u.num, .int .u64 u.bits, .int .i64 u.var, .slice p u.args.length c] 47)).drew (by rfl) (.tmp 23) (.tmp 26) (by rfl) wq.heap.size (wq.heap.size) 0 0 [] (none) 0 0 (L.take 0) (by rfl) (by rfl) (by first | (simp; done) | (simp; omega)) (OE.out _ _ hEB.out (by omega)) HN.out.1 (ST.out _ (((Below.refl _ _).alloc (Nat.le_refl _) _).alloc (by simp) _).drew) (by omega) ?_); intro g1 c1 w1 hown1 hgrow1 hat1
         (try simp only [Nat.zero_add])
         have HO1 := hid (show w1.ownsRow wq.heap.size 47 7 (.slice (some ⟨g1, 0, none⟩) 0 c1) 0 (flatB (L.take 0)) from by simpa using hown1)
         have HG1 := hid (show Below wq.heap.size wq w1 from (show Below wq.heap.size wq ((wq.alloc (.cells #[] 47)).alloc (.cells #[.int .i64 v, .int .i64 u.kind, .string u.name, .string u.num, .int .u64 u.bits, .int .i64 u.var, .slice p u.args.length c] 47)).drew from (((Below.refl _ _).alloc (Nat.le_refl _) _).alloc (by simp) _).drew).grown hgrow1 (by first | (simp; done) | (simp; omega)) (by intro x e; cases e; omega))
         have hge1 : wq.heap.size ≤ g1 := by
           have e9 : wq.heap.size ≤ ((wq.alloc (.cells #[] 47)).alloc (.cells #[.int .i64 v, .int .i64 u.kind, .string u.name, .string u.num, .int .u64 u.bits, .int .i64 u.var, .slice p u.args.length c] 47)).drew.heap.size := by first | (simp; done) | (simp; omega)
           rcases hat1 with h | h <;> omega
         have HX1 := hid (show w1.heap[wq.heap.size + 1]? = some (.cells #[.int .i64 v, .int .i64 u.kind, .string u.name, .string u.num, .int .u64 u.bits, .int .i64 u.var, .slice p u.args.length c] 47 (0, 0)) from (hgrow1.block (wq.heap.size + 1) (by first | (simp; done) | (simp; omega)) (by first | (simp; done) | (simp; omega))).trans hXB.out)
         clear hown1 hgrow1 hat1)
      | ((refine step_appB ((wq.alloc (.cells #[.int .i64 v, .int .i64 u.kind, .string u.name, .string u.num, .int .u64 u.bits, .int .i64 u.var, .slice p u.args.length c] 47)).alloc (.cells #[] 47)).drew (by rfl) (.tmp 23) (.tmp 26) (by rfl) wq.heap.size (wq.heap.size + 1) 0 0 [] (none) 0 0 (L.take 0) (by rfl) (by rfl) (by first | (simp; done) | (simp; omega)) (OE.out _ _ hEC.out (by omega)) HN.out.1 (ST.out _ (((Below.refl _ _).alloc (Nat.le_refl _) _).alloc (by simp) _).drew) (by omega) ?_); intro g1 c1 w1 hown1 hgrow1 hat1
         (try simp only [Nat.zero_add])
         have HO1 := hid (show w1.ownsRow wq.heap.size 47 7 (.slice (some ⟨g1, 0, none⟩) 0 c1) 0 (flatB (L.take 0)) from by simpa using hown1)
         have HG1 := hid (show Below wq.heap.size wq w1 from (show Below wq.heap.size wq ((wq.alloc (.cells #[.int .i64 v, .int .i64 u.kind, .string u.name, .string u.num, .int .u64 u.bits, .int .i64 u.var, .slice p u.args.length c] 47)).alloc (.cells #[] 47)).drew from (((Below.refl _ _).alloc (Nat.le_refl _) _).alloc (by simp) _).drew).grown hgrow1 (by first | (simp; done) | (simp; omega)) (by intro x e; cases e; omega))
         have hge1 : wq.heap.size ≤ g1 := by
           have e9 : wq.heap.size ≤ ((wq.alloc (.cells #[.int .i64 v, .int .i64 u.kind, .string u.name, .string u.num, .int .u64 u.bits, .int .i64 u.var, .slice p u.args.length c] 47)).alloc (.cells #[] 47)).drew.heap.size := by first | (simp; done) | (simp; omega)
           rcases hat1 with h | h <;> omega
         have HX1 := hid (show w1.heap[wq.heap.size]? = some (.cells #[.int .i64 v, .int .i64 u.kind, .string u.name, .string u.num, .int .u64 u.bits, .int .i64 u.var, .slice p u.args.length c] 47 (0, 0)) from (hgrow1.block (wq.heap.size) (by first | (simp; done) | (simp; omega)) (by first | (simp; done) | (simp; omega))).trans hXC.out)
         clear hown1 hgrow1 hat1)
      | ((refine step_appB (w1.alloc (.cells #[.int .i64 v, .int .i64 u.kind, .string u.name, .string u.num, .int .u64 u.bits, .int .i64 u.var, .slice p u.args.length c] 47)) (by rfl) (.tmp 27) (.tmp 29) (by rfl) wq.heap.size g1 0 c1 (L.take 0) (some ⟨w1.heap.size, 0, none⟩) 1 1 [(v, u, p, c)] (by rfl) (by rfl) (HG1.out.alloc HG1.out.size _).size (ownsRow_alloc HO1.out _) rfl (srcB_block (heap_alloc_new w1 _)) (by omega) ?_); intro g2 c2 w2 hown2 hgrow2 hat2
         have HO2 := hid hown2
         have HG2 := hid (show Below wq.heap.size wq w2 from (show Below wq.heap.size wq (w1.alloc (.cells #[.int .i64 v, .int .i64 u.kind, .string u.name, .string u.num, .int .u64 u.bits, .int .i64 u.var, .slice p u.args.length c] 47)) from HG1.out.alloc HG1.out.size _).grown hgrow2 (HG1.out.alloc HG1.out.size _).size (by intro x e; cases e; exact hge1))
         have hge2 : wq.heap.size ≤ g2 := by
           have e9 : wq.heap.size ≤ (w1.alloc (.cells #[.int .i64 v, .int .i64 u.kind, .string u.name, .string u.num, .int .u64 u.bits, .int .i64 u.var, .slice p u.args.length c] 47)).heap.size := (HG1.out.alloc HG1.out.size _).size
           rcases hat2 with h | h <;> omega
         clear hown2 hgrow2 hat2)
      | ((refine step_appB w1 (by rfl) (.tmp 27) (.tmp 29) (by rfl) wq.heap.size g1 0 c1 (L.take 0) (some ⟨wq.heap.size + 1, 0, none⟩) 1 1 [(v, u, p, c)] (by rfl) (by rfl) (HG1.out).size (HO1.out) rfl (srcB_block HX1.out) (by omega) ?_); intro g2 c2 w2 hown2 hgrow2 hat2
         have HO2 := hid hown2
         have HG2 := hid (show Below wq.heap.size wq w2 from (show Below wq.heap.size wq w1 from HG1.out).grown hgrow2 (HG1.out).size (by intro x e; cases e; exact hge1))
         have hge2 : wq.heap.size ≤ g2 := by
           have e9 : wq.heap.size ≤ w1.heap.size := (HG1.out).size
           rcases hat2 with h | h <;> omega
         clear hown2 hgrow2 hat2)
      | ((refine step_appB w1 (by rfl) (.tmp 27) (.tmp 29) (by rfl) wq.heap.size g1 0 c1 (L.take 0) (some ⟨wq.heap.size, 0, none⟩) 1 1 [(v, u, p, c)] (by rfl) (by rfl) (HG1.out).size (HO1.out) rfl (srcB_block HX1.out) (by omega) ?_); intro g2 c2 w2 hown2 hgrow2 hat2
         have HO2 := hid hown2
         have HG2 := hid (show Below wq.heap.size wq w2 from (show Below wq.heap.size wq w1 from HG1.out).grown hgrow2 (HG1.out).size (by intro x e; cases e; exact hge1))
         have hge2 : wq.heap.size ≤ g2 := by
           have e9 : wq.heap.size ≤ w1.heap.size := (HG1.out).size
           rcases hat2 with h | h <;> omega
         clear hown2 hgrow2 hat2)
      | ((refine step_appB w2 (by rfl) (.tmp 30) (.tmp 33) (by rfl) wq.heap.size g2 (0 + 1) c2 (L.take 0 ++ [(v, u, p, c)]) (none) (0) (0) (L.drop 0) (by rfl) (by rfl) HG2.out.size HO2.out HN.out.2 (SD.out _ HG2.out) (by omega) ?_); intro g3 c3 w3 hown3 hgrow3 hat3
         have HO3 := hid hown3
         have HG3 := hid (show Below wq.heap.size wq w3 from HG2.out.grown hgrow3 HG2.out.size (by intro x e; cases e; exact hge2))
         clear hown3 hgrow3 hat3)
      | fail)
  all_goals
    go_wp2_with fail
    go_ret
    refine ⟨g3, 0, c3, by rfl, ?_⟩
    have Z3 := into_end (l := []) (k := 0) (q := some ⟨g3, 0, none⟩) (Nat.le_trans hB hBq.out.size) (hBq.out.trans (HG3.out.mono hBq.out.size)) HLM.out HLT.out HU.out rfl HO3.out
    exact ⟨by have := Z3.1; omega, Z3.2, hBq.out.trans (HG3.out.mono hBq.out.size)⟩
theorem into_all (l : List Bnd) (ql : Option Addr) (cl : Nat) (v : Int) (u : Tm) (p : Option Addr) (c : Nat) (w : World) (B : Nat) (hl : BindHi w B l ql) (hq : LstQ l ql cl) (hr : Rises l) (hu : TmHi w B u p) (hB : B ≤ w.heap.size) (hlm : l.length ≤ 1000000) (hlc : l.length ≤ cl) :
    Calls Tryz.prog 86 #[.slice ql l.length cl, .agg #[.int .i64 v, .int .i64 u.kind, .string u.name, .string u.num, .int .u64 u.bits, .int .i64 u.var, .slice p u.args.length c]] w fun e w' => ∃ b o c', e = .returned (.slice (some ⟨b, o, none⟩) (l.length + 1) c') ∧ l.length + 1 ≤ c' ∧ BindHi w' B (insB l (v, u)) (some ⟨b, o, none⟩) ∧ Below w.heap.size w w' := by
  rcases hq with ⟨rfl, rfl, rfl⟩ | ⟨b, o, rfl⟩
  · exact into_nil v u p c w B hu hB
  · exact into_any l b o cl v u p c w B hl hr hu hB hlm hlc
end Go.Proofs.YtkapejcbmonfkaaGreatDoor
