import Derived.Test.YtogdfdhdmfkmaaaGreatMS
import Derived.LoopN
namespace Go.Proofs.YtogdfdhdmfkmaaaGreat
open Go.RowKit
set_option linter.unusedVariables false

end Go.Proofs.YtogdfdhdmfkmaaaGreat


namespace Go.Proofs.YtogdfdhdmfkmaaaGreat
open Go.RowKit
set_option linter.unusedVariables false

end Go.Proofs.YtogdfdhdmfkmaaaGreat

