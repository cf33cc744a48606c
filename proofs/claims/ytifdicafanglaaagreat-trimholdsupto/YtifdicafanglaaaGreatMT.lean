import Derived.Test.YtifdicafanglaaaGreatMS
import Derived.LoopN
namespace Go.Proofs.YtifdicafanglaaaGreat
open Go.RowKit
set_option linter.unusedVariables false

end Go.Proofs.YtifdicafanglaaaGreat


namespace Go.Proofs.YtifdicafanglaaaGreat
open Go.RowKit
set_option linter.unusedVariables false

end Go.Proofs.YtifdicafanglaaaGreat

