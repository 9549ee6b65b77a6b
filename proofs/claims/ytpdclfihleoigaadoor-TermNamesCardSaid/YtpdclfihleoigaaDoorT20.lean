/- What looks at names and at integers' texts, for the nodes that awake makes, where the tables of unicode/utf8 lie as its text lays them. No condition but those that each theorem names. -/
import Derived.Test.YtpdclfihleoigaaDoorT6
import Derived.Test.YtpdclfihleoigaaDoorT14
import Derived.Test.YtpdclfihleoigaaDoorT15
import Derived.Test.YtpdclfihleoigaaDoorVal
namespace Go.Proofs.YtpdclfihleoigaaDoor
open Go.RowKit Lm

/-- The tables of unicode/utf8. -/
def Utf (w : World) : Prop := Lib.Utf8Tabs 0 1 w
theorem Utf.keep {w w' : World} (h : Utf w) (hb : Below w.heap.size w w') : Utf w' :=
  ⟨fun c hc => heap_cell_keep hb (h.1 c hc), fun i hi => ⟨heap_cell_keep hb (h.2 i hi).1, heap_cell_keep hb (h.2 i hi).2⟩⟩
def n5 : ByteArray := ⟨#[45, 53]⟩
def n40 : ByteArray := ⟨#[45, 52, 48]⟩
def n007 : ByteArray := ⟨#[48, 48, 55]⟩
/-- The nodes that awake makes. -/
structure Dom (t : Tm) : Prop where
  name : t.name.size ≤ 9223372036854775807
  num : t.kind = 3 → t.num = n5 ∨ t.num = n40 ∨ t.num = n007
  bits : t.kind ≠ 4
def vName (s : ByteArray) : Bool := Lib.validD s.data.toList
def vNum (s : ByteArray) : Bool := decide (s = n5) || decide (s = n40)
def vBits (_ : Int) : Bool := true
set_option maxRecDepth 100000 in
theorem num5 (w : World) : Calls Tryd.prog 43 #[.string n5] w fun e w' => e = .returned (.bool true) ∧ Below w.heap.size w w' :=
  isNum_good n5 w (by decide +kernel) (by decide +kernel) (by unfold maxLen; decide +kernel) (by decide +kernel) (by decide +kernel) (by decide +kernel) (by decide +kernel)
set_option maxRecDepth 100000 in
theorem num40 (w : World) : Calls Tryd.prog 43 #[.string n40] w fun e w' => e = .returned (.bool true) ∧ Below w.heap.size w w' :=
  isNum_good n40 w (by decide +kernel) (by decide +kernel) (by unfold maxLen; decide +kernel) (by decide +kernel) (by decide +kernel) (by decide +kernel) (by decide +kernel)
theorem num007 (w : World) : Calls Tryd.prog 43 #[.string n007] w fun e w' => e = .returned (.bool false) ∧ Below w.heap.size w w' :=
  isNum_bad n007 w (by decide +kernel) (by decide +kernel)
theorem oracle (w : World) (hU : Utf w) : Oracle vName vNum vBits Dom w :=
  ⟨fun W hW t hD => Tryd.utf8_ValidString t.name W hD.name (hU.keep hW),
   fun W _ t hD hk => by
    rcases hD.num hk with h | h | h
    · rw [h]; exact num5 W
    · rw [h]; exact num40 W
    · rw [h]; exact num007 W,
   fun W _ t hD hk => absurd hk hD.bits⟩
end Go.Proofs.YtpdclfihleoigaaDoor
