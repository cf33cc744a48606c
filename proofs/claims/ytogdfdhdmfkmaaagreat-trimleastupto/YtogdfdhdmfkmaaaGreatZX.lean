import Derived.Test.YtogdfdhdmfkmaaaGreatMS
import Derived.Laws.StructEq
namespace Go.Proofs.YtogdfdhdmfkmaaaGreat
open Go.RowKit
set_option linter.unusedVariables false

end Go.Proofs.YtogdfdhdmfkmaaaGreat

