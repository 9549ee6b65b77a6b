/- DERIVED: THE SHELF's CONTRACTS AT THIS DUMP, IN PLAIN WORDS (tools/lay-plain.mjs out of 'TryzValidShelf.lean', which tools/lay-shelf.mjs wrote): THE SAME DECLARATIONS UNDER THE SAME NAMES: 'import', 'namespace', 'open', 'def', 'theorem' AND NOTHING ELSE: no command of the shelf's: FOR A HAND-IN. Each laying: the table of numbers ('.._ren') and one theorem, a field a fact of the dump's own or the kernel's comparison; each contract: ONE APPLICATION. What looks at names and at integers' texts, for the nodes that awake makes, where the tables of unicode/utf8 lie as its text lays them. No condition but those that each theorem names. awake answers true, where the tables of unicode/utf8 lie as its text lays them. No condition but that. -/
import Derived.Shelf.Unicode.ValidAny
import Derived.Ground.NamesProg
import Derived.Test.YtkapejcbmonfkaaGreatDoorProg
import Derived.Test.YtkapejcbmonfkaaGreatDoorT6m
import Derived.Test.YtkapejcbmonfkaaGreatDoorT14
import Derived.Test.YtkapejcbmonfkaaGreatDoorT17m
import Derived.Test.YtkapejcbmonfkaaGreatDoorT19m
import Derived.Test.YtkapejcbmonfkaaGreatDoorT10m
namespace Go.Proofs
open Go.Shelf
def Tryz.laysValid_ren : Go.Shelf.Ren := ⟨fun | 196 => 121 | 259 => 140 | n => n, fun | 9 => 9 | 4 => 4 | 3 => 3 | 5 => 5 | 12 => 12 | 119 => 156 | 0 => 0 | 46 => 115 | 139 => 159 | 138 => 158 | 53 => 22 | n => n, fun | 3 => 1 | 4 => 2 | n => n⟩
theorem Tryz.laysValid : Go.Proofs.Lays.n196 Tryz.prog Tryz.laysValid_ren := {
  mixed := by kernel_rfl
  f196 := Tryz.func121.trans (congrArg some (by kernel_rfl))
  f259 := Tryz.func140.trans (congrArg some (by kernel_rfl))
  t0 := Tryz.underlying0
  a0 := Tryz.isAgg0
  z0 := Tryz.sizeOf0
  v0 := Tryz.zeroValue0
  t3 := Tryz.underlying3
  a3 := Tryz.isAgg3
  z3 := Tryz.sizeOf3
  v3 := Tryz.zeroValue3
  t4 := Tryz.underlying4
  a4 := Tryz.isAgg4
  z4 := Tryz.sizeOf4
  v4 := Tryz.zeroValue4
  t5 := Tryz.underlying5
  a5 := Tryz.isAgg5
  z5 := Tryz.sizeOf5
  v5 := Tryz.zeroValue5
  t9 := Tryz.underlying9
  a9 := Tryz.isAgg9
  z9 := Tryz.sizeOf9
  v9 := Tryz.zeroValue9
  t12 := Tryz.underlying12
  a12 := Tryz.isAgg12
  z12 := Tryz.sizeOf12
  v12 := Tryz.zeroValue12
  t46 := Tryz.underlying115
  a46 := Tryz.isAgg115
  z46 := Tryz.sizeOf115
  v46 := Tryz.zeroValue115
  t53 := Tryz.underlying22
  a53 := Tryz.isAgg22
  z53 := Tryz.sizeOf22
  v53 := Tryz.zeroValue22
  t119 := Tryz.underlying156
  a119 := Tryz.isAgg156
  z119 := Tryz.sizeOf156
  t138 := Tryz.underlying158
  a138 := Tryz.isAgg158
  z138 := Tryz.sizeOf158
  v138 := Tryz.zeroValue158
  t139 := Tryz.underlying159
  a139 := Tryz.isAgg159
  z139 := Tryz.sizeOf159
  v139 := Tryz.zeroValue159
  g3 := by kernel_rfl
  g4 := by kernel_rfl }
open Go.RowKit in
/-- utf8.ValidString. -/
theorem Tryz.utf8_ValidString (s : ByteArray) (w : World) (hs : s.size ≤ 9223372036854775807) (hT : Lib.Utf8Tabs 1 2 w) :
    Calls Tryz.prog 121 #[.string s] w fun e w' => e = .returned (.bool (Lib.validD s.data.toList)) ∧ Below w.heap.size w w' := Any.utf8_ValidString Tryz.laysValid s w hs hT
end Go.Proofs

namespace Go.Proofs.YtkapejcbmonfkaaGreatDoor
open Go.RowKit Lm

/-- The tables of unicode/utf8. -/
def Utf (w : World) : Prop := Lib.Utf8Tabs 1 2 w
theorem Utf.keep {w w' : World} (h : Utf w) (hb : Below w.heap.size w w') : Utf w' :=
  ⟨fun c hc => heap_cell_keep hb (h.1 c hc), fun i hi => ⟨heap_cell_keep hb (h.2 i hi).1, heap_cell_keep hb (h.2 i hi).2⟩⟩
def n5 : ByteArray := ⟨#[45, 53]⟩
def n40 : ByteArray := ⟨#[45, 52, 48]⟩
def n007 : ByteArray := ⟨#[48, 48, 55]⟩
/-- The nodes that awake makes. -/
structure Dom (t : Tm) : Prop where
  name : t.name.size ≤ 9223372036854775807
  num : t.kind = 3 → t.num = n5 ∨ t.num = n40 ∨ t.num = n007
  bits : t.kind ≠ 4
def vName (s : ByteArray) : Bool := Lib.validD s.data.toList
def vNum (s : ByteArray) : Bool := decide (s = n5) || decide (s = n40)
def vBits (_ : Int) : Bool := true
set_option maxRecDepth 100000 in
theorem num5 (w : World) : Calls Tryz.prog 122 #[.string n5] w fun e w' => e = .returned (.bool true) ∧ Below w.heap.size w w' :=
  isNum_good n5 w (by decide +kernel) (by decide +kernel) (by unfold maxLen; decide +kernel) (by decide +kernel) (by decide +kernel) (by decide +kernel) (by decide +kernel)
set_option maxRecDepth 100000 in
theorem num40 (w : World) : Calls Tryz.prog 122 #[.string n40] w fun e w' => e = .returned (.bool true) ∧ Below w.heap.size w w' :=
  isNum_good n40 w (by decide +kernel) (by decide +kernel) (by unfold maxLen; decide +kernel) (by decide +kernel) (by decide +kernel) (by decide +kernel) (by decide +kernel)
theorem num007 (w : World) : Calls Tryz.prog 122 #[.string n007] w fun e w' => e = .returned (.bool false) ∧ Below w.heap.size w w' :=
  isNum_bad n007 w (by decide +kernel) (by decide +kernel)
theorem oracle (w : World) (hU : Utf w) : Oracle vName vNum vBits Dom w :=
  ⟨fun W hW t hD => Tryz.utf8_ValidString t.name W hD.name (hU.keep hW),
   fun W _ t hD hk => by
    rcases hD.num hk with h | h | h
    · rw [h]; exact num5 W
    · rw [h]; exact num40 W
    · rw [h]; exact num007 W,
   fun W _ t hD hk => absurd hk hD.bits⟩
end Go.Proofs.YtkapejcbmonfkaaGreatDoor

namespace Go.Proofs.YtkapejcbmonfkaaGreatDoor
open Go.RowKit

def sA : ByteArray := ⟨#[97]⟩
def sF : ByteArray := ⟨#[102]⟩
def sE : ByteArray := ⟨#[91, 93]⟩
def vT (n : Int) : Tm := leaf 1 ⟨#[]⟩ ⟨#[]⟩ n
def rowX : Row := [(vT 7, none, 0), (vT 3, none, 0), (vT 7, none, 0)]
def xT : Tm := .mk 5 sF ⟨#[]⟩ 0 0 [vT 7, vT 3, vT 7]
theorem callA (s : ByteArray) (W : World) : Calls Tryz.prog 40 #[.string s] W fun e w' => e = .returned (.agg #[.int .i64 2, .string s, .string ⟨#[]⟩, .int .u64 0, .int .i64 0, .slice none 0 0]) ∧ Below W.heap.size W w' := makeA s W
theorem callV (n : Int) (W : World) : Calls Tryz.prog 42 #[.int .i64 n] W fun e w' => e = .returned (.agg #[.int .i64 1, .string ⟨#[]⟩, .string ⟨#[]⟩, .int .u64 0, .int .i64 n, .slice none 0 0]) ∧ Below W.heap.size W w' := makeV n W
theorem callN (s : ByteArray) (W : World) : Calls Tryz.prog 43 #[.string s] W fun e w' => e = .returned (.agg #[.int .i64 3, .string ⟨#[]⟩, .string s, .int .u64 0, .int .i64 0, .slice none 0 0]) ∧ Below W.heap.size W w' := makeN s W
theorem rowX_own (W : World) : (W.alloc (.cells (flat rowX).toArray 25)).ownsRow 0 25 6 (.slice (some ⟨W.heap.size, 0, none⟩) 3 3) rowX.length (flat rowX) :=
  ⟨rfl, .inr ⟨W.heap.size, 3, (flat rowX).toArray, rfl, Nat.zero_le _, World.alloc_heap_new W _, Nat.le_refl _, by unfold maxLen; decide, rfl, rfl⟩⟩
theorem callF (W : World) : Calls Tryz.prog 41 #[.string sF, .slice (some ⟨W.heap.size, 0, none⟩) 3 3] (W.alloc (.cells (flat rowX).toArray 25)) fun e w' => ∃ p cap, e = .returned (.agg #[.int .i64 5, .string sF, .string ⟨#[]⟩, .int .u64 0, .int .i64 0, .slice p 3 cap]) ∧ TmAt w' xT p ∧ Below W.heap.size W w' :=
  (makeF sF _ 0 rowX _ (by decide) (rowX_own W) (fun x hx => by
    simp only [rowX, List.mem_cons, List.not_mem_nil, or_false] at hx
    rcases hx with rfl | rfl | rfl <;> exact leaf_at _ _ _ _ _ _) (by unfold maxLen; decide) (by decide)).mono fun e w' ⟨p, cap, h1, h2, h3⟩ => ⟨p, cap, h1, h2, ((Below.refl _ _).alloc (Nat.le_refl _) _).trans (h3.mono (by simp))⟩
theorem xT_checks : checksErr vName vNum vBits [xT] = 0 := by decide +kernel
theorem xT_dom : AllR Dom [xT] := by
  have hv : ∀ n, AllT Dom (vT n) := fun n => by
    unfold vT leaf AllT AllR
    exact ⟨⟨by show (⟨#[]⟩ : ByteArray).size ≤ _; decide, by simp [Tm.kind], by simp [Tm.kind]⟩, trivial⟩
  unfold AllR
  refine ⟨?_, by unfold AllR; trivial⟩
  unfold xT AllT
  refine ⟨⟨by show sF.size ≤ _; decide, by simp [Tm.kind], by simp [Tm.kind]⟩, ?_⟩
  unfold AllR AllR AllR AllR
  exact ⟨hv 7, hv 3, hv 7, trivial⟩
theorem xT_vars : AllR VarOk [xT] := by
  have hv : ∀ n, (Lit.int .i64 n).wf = true → AllT VarOk (vT n) := fun n h => by
    unfold vT leaf AllT AllR
    exact ⟨h, trivial⟩
  unfold AllR
  refine ⟨?_, by unfold AllR; trivial⟩
  unfold xT AllT
  refine ⟨by unfold VarOk; decide +kernel, ?_⟩
  unfold AllR AllR AllR AllR
  exact ⟨hv 7 (by decide +kernel), hv 3 (by decide +kernel), hv 7 (by decide +kernel), trivial⟩
theorem callVars (W : World) (p : Option Addr) (cap : Nat) (hT : TmAt W xT p) (hU : Utf W) : Calls Tryz.prog 16 #[.slice (some ⟨W.heap.size, 0, none⟩) 1 1] (W.alloc (.cells #[.int .i64 5, .string sF, .string ⟨#[]⟩, .int .u64 0, .int .i64 0, .slice p 3 cap] 25)) fun e w' => ∃ v, e = .returned (.tuple #[v, .int .i64 0]) ∧ w'.ownsRow 0 3 1 v 2 (ints [7, 3]) ∧ Below W.heap.size W w' := by
  have hB : Below W.heap.size W (W.alloc (tobj xT p cap)) := (Below.refl _ _).alloc (Nat.le_refl _) _
  have hr : RowT (W.alloc (tobj xT p cap)) [xT] W.heap.size 0 := by
    unfold RowT
    refine ⟨⟨p, cap, six_of (World.alloc_heap_new W _), hT.keep hB⟩, ?_⟩
    unfold RowT
    trivial
  have h := variables_good vName vNum vBits Dom [xT] (some ⟨W.heap.size, 0, none⟩) 1 (W.alloc (tobj xT p cap)) (by unfold maxLen; simp) (.inr ⟨_, _, rfl, hr⟩) (oracle _ (hU.keep hB)) xT_dom xT_checks xT_vars (by decide +kernel)
  have e : varsR [xT] [] = [7, 3] := by decide +kernel
  rw [e] at h
  exact h.mono fun e w' ⟨v, h1, h2, h3⟩ => ⟨v, h1, rowI_base h2 (Nat.zero_le _), hB.trans (h3.mono hB.size)⟩
theorem atom_dom (s : ByteArray) (hs : s.size ≤ 9223372036854775807) : AllT Dom (atomT s) := by
  unfold atomT leaf AllT AllR
  exact ⟨⟨hs, by simp [Tm.kind], by simp [Tm.kind]⟩, trivial⟩
theorem int_dom (s : ByteArray) (h : s = n5 ∨ s = n40 ∨ s = n007) : AllT Dom (leaf 3 ⟨#[]⟩ s 0) := by
  unfold leaf AllT AllR
  exact ⟨⟨by show (⟨#[]⟩ : ByteArray).size ≤ _; decide, fun _ => h, by simp [Tm.kind]⟩, trivial⟩
def lT : Tm := consT (atomT sA) (consT (atomT sA) (atomT sE))
theorem callList (g : Nat) (W : World) (hg : W.heap[g]? = some (pobj (atomT sA) (atomT sA) none none 0 0)) (hU : Utf W) :
    Calls Tryz.prog 28 #[.slice (some ⟨g, 0, none⟩) 2 2, .agg #[.int .i64 2, .string sE, .string ⟨#[]⟩, .int .u64 0, .int .i64 0, .slice none 0 0]] W fun e w' => ∃ p q, e = .returned (.tuple #[.agg #[.int .i64 5, .string ⟨#[46]⟩, .string ⟨#[]⟩, .int .u64 0, .int .i64 0, .slice p 2 q], .int .i64 0]) ∧ TmAt (above w' W.heap.size) lT p ∧ Below W.heap.size W w' :=
  list_two vName vNum vBits Dom sA sA sE g 2 W hg (oracle W hU) (by unfold AllR AllR AllR; exact ⟨atom_dom _ (by decide), atom_dom _ (by decide), trivial⟩) (atom_dom _ (by decide)) (by decide +kernel) (by decide +kernel)
theorem callCompare (W : World) (hU : Utf W) : Calls Tryz.prog 11 #[.agg #[.int .i64 3, .string ⟨#[]⟩, .string n5, .int .u64 0, .int .i64 0, .slice none 0 0], .agg #[.int .i64 3, .string ⟨#[]⟩, .string n40, .int .u64 0, .int .i64 0, .slice none 0 0]] W fun e w' => e = .returned (.tuple #[.int .i64 1, .int .i64 0]) ∧ Below W.heap.size W w' := by
  have h := compare_ints vName vNum vBits Dom (leaf 3 ⟨#[]⟩ n5 0) (leaf 3 ⟨#[]⟩ n40 0) none none 0 0 W rfl rfl (by unfold maxLen; decide +kernel) (by unfold maxLen; decide +kernel) (leaf_at _ _ _ _ _ _) (leaf_at _ _ _ _ _ _) (oracle W hU)
    (by unfold AllR AllR AllR; exact ⟨int_dom _ (.inl rfl), int_dom _ (.inr (.inl rfl)), trivial⟩) (by decide +kernel)
  have e : numsWay (leaf 3 ⟨#[]⟩ n5 0).num (leaf 3 ⟨#[]⟩ n40 0).num = 1 := by decide +kernel
  rw [e] at h
  exact h
theorem callCheck (W : World) (hU : Utf W) : Calls Tryz.prog 45 #[.agg #[.int .i64 3, .string ⟨#[]⟩, .string n007, .int .u64 0, .int .i64 0, .slice none 0 0]] W fun e w' => e = .returned (.int .i64 22) ∧ Below W.heap.size W w' := by
  have h := check_any vName vNum vBits Dom (leaf 3 ⟨#[]⟩ n007 0) none 0 W (leaf_at _ _ _ _ _ _) (oracle W hU) (int_dom _ (.inr (.inr rfl)))
  have e : checkErr vName vNum vBits (leaf 3 ⟨#[]⟩ n007 0) = 22 := by decide +kernel
  rw [e] at h
  exact h
theorem callNodes (p : Option Addr) (q : Nat) (W : World) (hT : TmAt W lT p) : Calls Tryz.prog 44 #[.agg #[.int .i64 5, .string ⟨#[46]⟩, .string ⟨#[]⟩, .int .u64 0, .int .i64 0, .slice p 2 q]] W fun e w' => e = .returned (.int .i64 5) ∧ Below W.heap.size W w' := by
  have h := nodes_any lT p q W hT
  have e : capped (nodes lT) 4001 = 5 := by decide +kernel
  rw [e] at h
  exact h
theorem ints_own (W : World) : (W.alloc (.cells #[.int .i64 7, .int .i64 3] 3)).ownsRow 0 3 1 (.slice (some ⟨W.heap.size, 0, none⟩) 2 2) 2 (ints [7, 3]) :=
  ⟨rfl, .inr ⟨W.heap.size, 2, #[.int .i64 7, .int .i64 3], rfl, Nat.zero_le _, World.alloc_heap_new W _, Nat.le_refl _, by unfold maxLen; decide, rfl, rfl⟩⟩
theorem callSame (v : Value) (W : World) (hv : W.ownsRow 0 3 1 v 2 (ints [7, 3])) : Calls Tryz.prog 17 #[v, .slice (some ⟨W.heap.size, 0, none⟩) 2 2] (W.alloc (.cells #[.int .i64 7, .int .i64 3] 3)) fun e w' => e = .returned (.bool true) ∧ Below W.heap.size W w' :=
  (sameInts_yes [7, 3] v _ 0 0 _ (hv.alloc _) (ints_own W) (by decide)).mono fun e w' ⟨h1, h2⟩ => ⟨h1, ((Below.refl _ _).alloc (Nat.le_refl _) _).trans (h2.mono (by simp))⟩
end Go.Proofs.YtkapejcbmonfkaaGreatDoor
