/- Walks: limbs from a word, sums. -/
import Derived.Test.YtpdclfihleoigaaDoorBigW2
namespace Go.Proofs.YtpdclfihleoigaaDoor
open Go.RowKit Lm

end Go.Proofs.YtpdclfihleoigaaDoor
