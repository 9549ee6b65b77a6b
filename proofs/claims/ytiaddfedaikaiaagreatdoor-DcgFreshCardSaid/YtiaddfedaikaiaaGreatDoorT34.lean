/- What looks at names, integers' texts and floats' bits, for any nodes, where the tables of unicode/utf8 lie as its text lays them: the program's and the document's are the same. -/
import Derived.Lib.ValidLaws
import Derived.Test.YtiaddfedaikaiaaGreatDoorT31m
import Derived.Test.YtiaddfedaikaiaaGreatDoorT22
namespace Go.Proofs.YtiaddfedaikaiaaGreatDoor
open Go.RowKit

/-- What each node of a tree in memory holds: texts that may be, bits of 64 binary digits, a number of 64. -/
structure DomA (t : Tm) : Prop where
  name : t.name.size ≤ 9223372036854775807
  num : t.num.size ≤ 9223372036854775807
  lo : 0 ≤ t.bits
  hi : t.bits < 18446744073709551616
  var : (Lit.int .i64 t.var).wf = true
  kind : (Lit.int .i64 t.kind).wf = true
theorem oracleA (w : World) (hU : Utf w) : Oracle vName numOk bitsOk DomA w :=
  ⟨fun W hW t hD => Tryz.utf8_ValidString t.name W hD.name (hU.keep hW),
   fun W _ t hD _ => isNum_any t.num W (by unfold maxLen; exact hD.num),
   fun W _ t hD _ => by
    obtain ⟨n, hn⟩ : ∃ n : Nat, t.bits = (n : Int) := ⟨t.bits.toNat, by have := hD.lo; omega⟩
    have h2 := hD.hi
    rw [hn]
    exact (areBits_any n W (by omega)).mono fun e w' ⟨h1, h2⟩ => ⟨h1, by subst h2; exact Below.refl _ _⟩⟩
end Go.Proofs.YtiaddfedaikaiaaGreatDoor
