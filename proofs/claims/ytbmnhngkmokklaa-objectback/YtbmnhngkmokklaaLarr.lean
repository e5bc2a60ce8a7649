/-
  Arrays of four numbers as values: an element of one, two of them compared. No conditions.
-/
import Derived.Test.YtbmnhngkmokklaaLcf
import Derived.ChangeKeysEq
import Derived.Laws.StructEq
namespace Go.Proofs.Ytbmnhngkmokklaa
open Go.RowKit Go.Flo Go.Bit
set_option maxRecDepth 100000

end Go.Proofs.Ytbmnhngkmokklaa
