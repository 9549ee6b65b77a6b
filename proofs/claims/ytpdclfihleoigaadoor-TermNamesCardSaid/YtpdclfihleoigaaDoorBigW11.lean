/- Walks: long. -/
import Derived.Test.YtpdclfihleoigaaDoorBigW8
namespace Go.Proofs.YtpdclfihleoigaaDoor
open Go.RowKit Lm

/-- Too many bits. -/
def tooLong (A : List Nat) : Bool := decide (4096 < bl (val A))

end Go.Proofs.YtpdclfihleoigaaDoor
