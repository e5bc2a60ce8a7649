/-
  Arrays of four numbers as values: an element of one, two of them compared. No conditions.
-/
import Derived.Test.YtolighoceecheaaLcf
import Derived.ChangeKeysEq
import Derived.Laws.StructEq
namespace Go.Proofs.Ytolighoceecheaa
open Go.RowKit Go.Flo Go.Bit
set_option maxRecDepth 100000

end Go.Proofs.Ytolighoceecheaa
