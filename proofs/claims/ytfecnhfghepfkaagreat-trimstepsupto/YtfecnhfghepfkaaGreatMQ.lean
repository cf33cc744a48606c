import Derived.Test.YtfecnhfghepfkaaGreatMN
import Derived.Deep.RegionHeld3
import Derived.Test.YtfecnhfghepfkaaGreatPur
import Derived.BigRegion
namespace Go.Proofs.YtfecnhfghepfkaaGreat
open Go.RowKit
set_option linter.unusedVariables false

end Go.Proofs.YtfecnhfghepfkaaGreat


namespace Go.Proofs.YtfecnhfghepfkaaGreat
open Go.RowKit
set_option linter.unusedVariables false

end Go.Proofs.YtfecnhfghepfkaaGreat


namespace Go.Proofs.YtfecnhfghepfkaaGreat
open Go.RowKit
set_option linter.unusedVariables false

end Go.Proofs.YtfecnhfghepfkaaGreat


namespace Go.Proofs.YtfecnhfghepfkaaGreat
open Go.RowKit
set_option linter.unusedVariables false

end Go.Proofs.YtfecnhfghepfkaaGreat


namespace Go.Proofs.YtfecnhfghepfkaaGreat
open Go.RowKit
set_option linter.unusedVariables false

end Go.Proofs.YtfecnhfghepfkaaGreat

