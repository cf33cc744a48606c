import Derived.Test.YtfecnhfghepfkaaGreatMS
import Derived.Laws.StructEq
namespace Go.Proofs.YtfecnhfghepfkaaGreat
open Go.RowKit
set_option linter.unusedVariables false

end Go.Proofs.YtfecnhfghepfkaaGreat

