import Derived.Test.YtifdicafanglaaaGreatMS
import Derived.Laws.StructEq
namespace Go.Proofs.YtifdicafanglaaaGreat
open Go.RowKit
set_option linter.unusedVariables false

end Go.Proofs.YtifdicafanglaaaGreat

