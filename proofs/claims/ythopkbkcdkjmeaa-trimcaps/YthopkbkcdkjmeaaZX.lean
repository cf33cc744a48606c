import Derived.Test.YthopkbkcdkjmeaaMS
import Derived.Laws.StructEq
namespace Go.Proofs.Ythopkbkcdkjmeaa
open Go.RowKit
set_option linter.unusedVariables false

end Go.Proofs.Ythopkbkcdkjmeaa

