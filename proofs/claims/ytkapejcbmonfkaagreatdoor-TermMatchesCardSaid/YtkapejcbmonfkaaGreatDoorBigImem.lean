/- How the document's answer lies in memory: a slice of bigInts that reads as a list of numbers; an integer as a sign and bits. Plain facts on worlds; no condition but those that each theorem names. -/
import Derived.Test.YtkapejcbmonfkaaGreatDoorBigGcpm
import Derived.Test.YtkapejcbmonfkaaGreatDoorBigW39m
namespace Go.Proofs.YtkapejcbmonfkaaGreatDoor
open Go.RowKit Lm

/-- The slice of that address, length and capacity reads as these bigInts. -/
structure Ri (w : World) (ao : Option Addr) (len cap : Nat) (A : List Nat) : Prop where
  size : A.length = len
  room : len ≤ cap
  most : len ≤ 4294967296
  cells : 0 < len → ∃ b off, ao = some ⟨b, off, none⟩ ∧ ∀ i, i < len → w.cell? ⟨b, off + i, none⟩ = some (.int .i64 (dg A i : Int))

theorem Ri.keep {w w' : World} {ao : Option Addr} {len cap : Nat} {A : List Nat} (h : Ri w ao len cap A) (hb : Below w.heap.size w w') : Ri w' ao len cap A :=
  ⟨h.size, h.room, h.most, fun h0 => by
    obtain ⟨b, off, e, hc⟩ := h.cells h0
    exact ⟨b, off, e, fun i hi => (hb.cell (World.block_lt_of_cell? w _ (hc i hi))).trans (hc i hi)⟩⟩
theorem Ri.alloc {w : World} {ao : Option Addr} {len cap : Nat} {A : List Nat} (h : Ri w ao len cap A) (o : Obj) : Ri (w.alloc o) ao len cap A :=
  h.keep ((Below.refl _ _).alloc (Nat.le_refl _) _)
theorem Ri.nil (w : World) : Ri w none 0 0 [] := ⟨rfl, Nat.le_refl _, by omega, fun h => by omega⟩
theorem Ri.take {w : World} {ao : Option Addr} {len cap : Nat} {A : List Nat} (h : Ri w ao len cap A) {n : Nat} (hn : n ≤ len) : Ri w ao n cap (A.take n) :=
  ⟨by rw [List.length_take, h.size]; omega, by have := h.room; omega, by have := h.most; omega, fun h0 => by
    obtain ⟨b, off, e, hc⟩ := h.cells (by omega)
    exact ⟨b, off, e, fun i hi => by rw [dg_take _ _ _ hi]; exact hc i (by omega)⟩⟩
theorem Ri.tl {w : World} {ao : Option Addr} {len cap : Nat} {A : List Nat} (h : Ri w ao len cap A) : Ri w ao (tl A).length cap (tl A) := by
  have := h.take (n := (Lm.tl A).length) (by rw [← h.size]; exact tl_length_le _)
  rwa [← tl_take] at this

def bigInts (L : List Nat) : List Value := L.map fun x : Nat => Value.int .i64 (x : Int)
theorem ints_get (L : List Nat) (i : Nat) (h : i < L.length) : (bigInts L)[i]? = some (.int .i64 (dg L i : Int)) := by
  unfold bigInts dg; rw [getD_in _ _ h]; simp [h]
theorem ints_set (L : List Nat) (i : Nat) {z : Int} (x : Nat) (hz : z = (x : Int)) : (bigInts L).set i (.int .i64 z) = bigInts (L.set i x) := by
  subst hz; unfold bigInts; rw [List.map_set]
theorem ints_snoc (L : List Nat) {z : Int} (x : Nat) (hz : z = (x : Int)) : bigInts L ++ [.int .i64 z] = bigInts (L ++ [x]) := by subst hz; simp [bigInts]

theorem Tryz.infoI : (Tryz.prog.info? 3).map (fun i => (i.zero, i.size, i.bytes)) = some (some (.int .i64 0), 1, 8) := by kernel_rfl

/-- A slice of bigInts of the call's own that may grow. -/
def Gri (B : Nat) (w : World) (v : Value) (L : List Nat) : Prop := w.ownsRow B 3 1 v L.length (bigInts L)
theorem Gri.nil (B : Nat) (w : World) : Gri B w (.slice none 0 0) [] := World.ownsRow_nil _ _ _ _
theorem Gri.alloc {B : Nat} {w : World} {v : Value} {L : List Nat} (h : Gri B w v L) (o : Obj) : Gri B (w.alloc o) v L := World.ownsRow.alloc h o
theorem Gri.le {B : Nat} {w : World} {v : Value} {L : List Nat} (h : Gri B w v L) : ∀ k, v.ownBlock = some k → B ≤ k := by
  intro k hk
  rcases h.2 with ⟨rfl, _⟩ | ⟨g, cap, cur, rfl, hb, _⟩
  · simp [Value.ownBlock] at hk
  · simp [Value.ownBlock] at hk; omega
theorem Gri.keep {B : Nat} {w w' : World} {v : Value} {L : List Nat} (h : Gri B w v L) (hb : Below w.heap.size w w') : Gri B w' v L :=
  World.ownsRow.kept h (row := none) ⟨hb.os, hb.tape, hb.output, hb.size, fun k hk _ => hb.block k hk⟩ (by cases v.ownBlock <;> simp)
theorem Gri.rd {B : Nat} {w : World} {v : Value} {L : List Nat} (h : Gri B w v L) (hl : L.length ≤ 4294967296) : ∃ ao cap, v = .slice ao L.length cap ∧ Ri w ao L.length cap L := by
  have hc := h
  rcases h.2 with ⟨rfl, h0⟩ | ⟨g, cap, cur, rfl, hb, hg, hnc, hcm, hcs, htk⟩
  · have : L = [] := List.eq_nil_of_length_eq_zero h0
    subst this
    exact ⟨none, 0, rfl, rfl, Nat.le_refl _, by simp, fun h => by simp at h⟩
  · refine ⟨_, cap, rfl, rfl, hnc, hl, fun _ => ⟨g, 0, rfl, fun i hi => ?_⟩⟩
    rw [Nat.zero_add, hc.cellAt i (by omega), ints_get L i hi]
/-! ### A block of bigInts, known whole -/
structure Rwi (w : World) (g : Nat) (L : List Nat) : Prop where
  block : w.heap[g]? = some (.cells (bigInts L).toArray 3 (0, 0))
theorem Rwi.lt {w : World} {g : Nat} {L : List Nat} (h : Rwi w g L) : g < w.heap.size := lt_of_block h.block
theorem Rwi.cell {w : World} {g : Nat} {L : List Nat} (h : Rwi w g L) (i : Nat) (hi : i < L.length) : w.cell? ⟨g, i, none⟩ = some (.int .i64 (dg L i : Int)) := by
  have e := ints_get L i hi
  simp [World.cell?, h.block, e]
theorem Rwi.free {w : World} {g : Nat} {L : List Nat} (h : Rwi w g L) (i : Nat) : w.frozen? ⟨g, i, none⟩ = false := by simp [World.frozen?, h.block]
theorem Rwi.set' {w : World} {g : Nat} {L : List Nat} (h : Rwi w g L) (i : Nat) {z : Int} (x : Nat) (hz : z = (x : Int)) : Rwi (w.setCell ⟨g, i, none⟩ (.int .i64 z)) g (L.set i x) := by
  refine ⟨?_⟩
  rw [heap_setCell_same w g i (bigInts L).toArray 3 _ h.block]
  have := ints_set L i x hz
  simp [← this]
theorem Rwi.keep {w w' : World} {g B : Nat} {L : List Nat} (h : Rwi w g L) (hb : Below B w w') (hg : g < B) : Rwi w' g L := ⟨by rw [hb.block g hg]; exact h.block⟩
theorem Rwi.keep' {w w' : World} {g : Nat} {L : List Nat} (h : Rwi w g L) (hb : Below w.heap.size w w') : Rwi w' g L := h.keep hb h.lt
theorem Rwi.alloc {w : World} {g : Nat} {L : List Nat} (h : Rwi w g L) (o : Obj) : Rwi (w.alloc o) g L := h.keep' ((Below.refl _ _).alloc (Nat.le_refl _) _)
theorem Rwi.other {w : World} {g : Nat} {L : List Nat} (h : Rwi w g L) {p : Addr} (hp : g ≠ p.block) (u : Value) : Rwi (w.setCell p u) g L := ⟨by rw [Below.heap_setCell _ _ _ _ hp]; exact h.block⟩
theorem Rwi.rd {w : World} {g : Nat} {L : List Nat} (h : Rwi w g L) (off n cap : Nat) (hn : off + n ≤ L.length) (hc : n ≤ cap) (hm : n ≤ 4294967296) :
    Ri w (some ⟨g, off, none⟩) n cap ((L.drop off).take n) :=
  ⟨by rw [List.length_take, List.length_drop]; omega, hc, hm, fun _ => ⟨g, off, rfl, fun i hi => by
    rw [dg_take _ _ _ hi, dg_drop]; exact h.cell _ (by omega)⟩⟩
theorem Rwi.whole {w : World} {g : Nat} {L : List Nat} (h : Rwi w g L) (cap : Nat) (hc : L.length ≤ cap) (hm : L.length ≤ 4294967296) : Ri w (some ⟨g, 0, none⟩) L.length cap L := by
  have := h.rd 0 L.length cap (by omega) hc hm
  rwa [List.drop_zero, List.take_length] at this
theorem Rwi.of_own {w : World} {base g n : Nat} {L : List Nat} {xs : List Value} (h : w.ownsRow base 3 1 (.slice (some ⟨g, 0, none⟩) n n) n xs) (hx : xs = bigInts L) : Rwi w g L := by
  rcases h.2 with ⟨h', _⟩ | ⟨g', cap', cur, h', hb, hg, hnc, hcm, hcs, htake⟩
  · simp at h'
  · simp only [Value.slice.injEq, Option.some.injEq, Addr.mk.injEq, and_true, true_and] at h'
    obtain ⟨rfl, rfl⟩ := h'
    refine ⟨?_⟩
    rw [hg]
    have e : cur = (bigInts L).toArray := by
      rw [← hx, ← htake, List.take_of_length_le (by rw [Array.length_toList, hcs]; exact Nat.le_refl _)]
    rw [e]
theorem made_zeros_i (n m : Nat) (h : m = n) : (madeCells (Value.int .i64 0).cells m).toList = bigInts (List.replicate n 0) := by
  rw [h, show (Value.int .i64 0).cells = #[Value.int .i64 0] from rfl, toList_madeCells_one]
  simp [bigInts]

/-! ### Integers as the document's answer has them -/
/-- A sign and bits that stand for a number, normal. -/
def Big (w : World) (n : Bool) (ao : Option Addr) (len cap : Nat) (v : Int) : Prop := ∃ L, Ri w ao len cap L ∧ B1 L ∧ Top L ∧ (L = [] → n = false) ∧ sg n L = v
theorem Big.keep {w w' : World} {n : Bool} {ao : Option Addr} {len cap : Nat} {v : Int} (h : Big w n ao len cap v) (hb : Below w.heap.size w w') : Big w' n ao len cap v := by
  obtain ⟨L, h1, h2⟩ := h; exact ⟨L, h1.keep hb, h2⟩
theorem Big.alloc {w : World} {n : Bool} {ao : Option Addr} {len cap : Nat} {v : Int} (h : Big w n ao len cap v) (o : Obj) : Big (w.alloc o) n ao len cap v := h.keep ((Below.refl _ _).alloc (Nat.le_refl _) _)
theorem Big.len {w : World} {n : Bool} {ao : Option Addr} {len cap : Nat} {v : Int} (h : Big w n ao len cap v) : len = bl v.natAbs := by
  obtain ⟨L, h1, h2, h3, _, h4⟩ := h
  rw [← h1.size, btop_len h2 h3, ← h4, sg_abs]
theorem Big.sign {w : World} {n : Bool} {ao : Option Addr} {len cap : Nat} {v : Int} (h : Big w n ao len cap v) : n = decide (v < 0) := by
  obtain ⟨L, h1, h2, h3, h5, h4⟩ := h
  subst h4
  cases n with
  | false => unfold sg; simp
  | true =>
    have hl : L ≠ [] := fun e => by have := h5 e; cases this
    have := btop_ge h3 hl
    have := Nat.pow_pos (n := L.length - 1) (show 0 < 2 by decide)
    unfold sg; simp; omega
theorem Big.zero (w : World) : Big w false none 0 0 0 := ⟨[], Ri.nil w, B1.nil, fun h => absurd rfl h, fun _ => rfl, rfl⟩
/-- What 'laid' makes. -/
theorem Big.of {w : World} {n : Bool} {ao : Option Addr} {len cap : Nat} {L : List Nat} (h : Ri w ao len cap L) (hb : B1 L) : Big w (n && decide (0 < (tl L).length)) ao (tl L).length cap (sg n L) :=
  ⟨tl L, h.tl, hb.tl, tl_top L, fun e => by rw [e]; simp, by
    rw [← sg_tl n L]
    by_cases h0 : tl L = []
    · rw [h0, sg_nil, sg_nil]
    · have := List.length_pos_iff.2 h0
      simp [this]⟩
end Go.Proofs.YtkapejcbmonfkaaGreatDoor
