/- Walks: lowDigitsFirst. Walks: slices.Reverse at []byte. Walks: Text where nothing is wrong. -/
import Derived.Test.YtkapejcbmonfkaaGreatDoorBigW13m
import Derived.Test.YtkapejcbmonfkaaGreatDoorBigW26m
import Derived.Laws.BytesArg
import Derived.Deep.AppendLies
import Derived.Test.YtkapejcbmonfkaaGreatDoorBigW28m
namespace Go.Proofs.YtkapejcbmonfkaaGreatDoor
open Go.RowKit Lm

/-- The digits of a number, the lowest first; f is how many there may be. -/
def lowD (r : Nat) : Nat → Nat → List Nat
  | 0, _ => []
  | f + 1, v => if v = 0 then [] else v % r :: lowD r f (v / r)
theorem lowD_zero (r f : Nat) : lowD r f 0 = [] := by cases f <;> rfl
theorem lowD_step (r f v : Nat) (h : v ≠ 0) : lowD r (f + 1) v = v % r :: lowD r f (v / r) := by rw [lowD, if_neg h]

/-- A digit's letter. -/
def dch (d : Nat) : Nat := if d < 10 then 48 + d else 87 + d
def chs (E : List Nat) : List Value := E.map fun d : Nat => Value.int .u8 (dch d : Int)

theorem Tryz.info5 : (Tryz.prog.info? 5).map (fun i => (i.zero, i.size, i.bytes)) = some (some (.int .u8 0), 1, 1) := by kernel_rfl

/-- A slice of letters of the call's own that may grow. -/
def GrowB (B : Nat) (w : World) (v : Value) (E : List Nat) : Prop := w.ownsRow B 5 1 v E.length (chs E)

theorem digit_at' : ∀ d : Fin 36, (({ data := #[48, 49, 50, 51, 52, 53, 54, 55, 56, 57, 97, 98, 99, 100, 101, 102, 103, 104, 105, 106, 107, 108, 109, 110, 111, 112, 113, 114, 115, 116, 117, 118, 119, 120, 121, 122] } : ByteArray)[d.1]'(d.2)).toNat = dch d.1 := by decide
theorem digit_at (d : Nat) (h : d < 36) : (({ data := #[48, 49, 50, 51, 52, 53, 54, 55, 56, 57, 97, 98, 99, 100, 101, 102, 103, 104, 105, 106, 107, 108, 109, 110, 111, 112, 113, 114, 115, 116, 117, 118, 119, 120, 121, 122] } : ByteArray)[d]'h).toNat = dch d := digit_at' ⟨d, h⟩

theorem GrowB.le {B : Nat} {w : World} {v : Value} {E : List Nat} (h : GrowB B w v E) : ∀ k, v.ownBlock = some k → B ≤ k := by
  rcases h.2 with ⟨rfl, -⟩ | ⟨g', cap, cur, rfl, hB, -⟩
  · simp [Value.ownBlock]
  · intro k e
    simp [Value.ownBlock] at e
    omega
theorem GrowB.keep {B : Nat} {w w' : World} {v : Value} {E : List Nat} (h : GrowB B w v E) (hb : Below w.heap.size w w') : GrowB B w' v E :=
  World.ownsRow.kept h (row := none) ⟨hb.os, hb.tape, hb.output, hb.size, fun k hk _ => hb.block k hk⟩ (by cases v.ownBlock <;> simp)
theorem Rw.grownN {w w' : World} {g : Nat} {Q : List Nat} {row : Option Nat} (h : Rw w g Q) (hg : w.grownBy w' row) (hn : some g ≠ row) : Rw w' g Q :=
  ⟨by rw [hg.block g h.lt hn]; exact h.block⟩

def slen : Value → Nat
  | .slice _ n _ => n
  | _ => 0
theorem chs_snoc (E : List Nat) (d : Nat) : chs E ++ [.int .u8 (dch d : Int)] = chs (E ++ [d]) := by simp [chs]

end Go.Proofs.YtkapejcbmonfkaaGreatDoor

namespace Go.Proofs.YtkapejcbmonfkaaGreatDoor
open Go.RowKit Lm

def bys (L : List Nat) : List Value := L.map fun x : Nat => Value.int .u8 (x : Int)
theorem bys_get (L : List Nat) (i : Nat) (h : i < L.length) : (bys L)[i]? = some (.int .u8 (dg L i : Int)) := by
  unfold bys dg; rw [getD_in _ _ h]; simp [h]
/-- A slice of bytes of the call's own that may grow. -/
def GrowC (B : Nat) (w : World) (v : Value) (L : List Nat) : Prop := w.ownsRow B 5 1 v L.length (bys L)

theorem chs_bys (E : List Nat) : chs E = bys (E.map dch) := by simp [chs, bys, List.map_map, Function.comp_def]
theorem GrowB.bytes {B : Nat} {w : World} {v : Value} {E : List Nat} (h : GrowB B w v E) : GrowC B w v (E.map dch) := by
  unfold GrowC; rw [List.length_map, ← chs_bys]; exact h
end Go.Proofs.YtkapejcbmonfkaaGreatDoor

namespace Go.Proofs.YtkapejcbmonfkaaGreatDoor
open Go.RowKit Lm

/-- What is written, byte by byte. -/
def txt (n : Bool) (r v : Nat) : List Nat := if v = 0 then [48] else (if n then [45] else []) ++ ((lowD r 4096 v).map dch).reverse
def strOf (L : List Nat) : ByteArray := ⟨(L.map UInt8.ofNat).toArray⟩
theorem strOf_nums (L : List Nat) : strOfNums (L.map fun x : Nat => (x : Int)) = strOf L := by
  unfold strOfNums strOf
  simp [List.map_map, Function.comp_def]

theorem GrowC.str {B : Nat} {w : World} {v : Value} {L : List Nat} (h : GrowC B w v L) (h0 : L ≠ []) : ∃ g cap, v = .slice (some ⟨g, 0, none⟩) L.length cap ∧ (convert 172 9 v).run Tryz.prog w = .ok (.string (strOf L)) w := by
  obtain ⟨g, cap, rfl, _, _⟩ := World.ownsRow.form h (List.length_pos_iff.2 h0)
  refine ⟨g, cap, rfl, ?_⟩
  rw [← strOf_nums]
  refine run_convert_bytes_arg w 172 5 Tryz.underlying172 Tryz.underlying5 g 0 L.length cap _ (by simp) (fun i hi => ?_) 9 Tryz.underlying9
  rw [Nat.zero_add, World.ownsRow.cellAt h i (by omega), bys_get _ _ hi]
  unfold dg
  rw [getD_in _ _ hi]; simp [List.getD, hi]

end Go.Proofs.YtkapejcbmonfkaaGreatDoor
