import Derived.Test.YtcpbccckjlnkaaaMS
import Derived.Laws.StructEq
namespace Go.Proofs.Ytcpbccckjlnkaaa
open Go.RowKit
set_option linter.unusedVariables false

end Go.Proofs.Ytcpbccckjlnkaaa

