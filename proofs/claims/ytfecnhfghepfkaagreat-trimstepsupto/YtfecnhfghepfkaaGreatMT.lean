import Derived.Test.YtfecnhfghepfkaaGreatMS
import Derived.LoopN
namespace Go.Proofs.YtfecnhfghepfkaaGreat
open Go.RowKit
set_option linter.unusedVariables false

end Go.Proofs.YtfecnhfghepfkaaGreat


namespace Go.Proofs.YtfecnhfghepfkaaGreat
open Go.RowKit
set_option linter.unusedVariables false

end Go.Proofs.YtfecnhfghepfkaaGreat

