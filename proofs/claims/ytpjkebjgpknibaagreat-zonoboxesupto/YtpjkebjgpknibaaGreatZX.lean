import Derived.Test.YtpjkebjgpknibaaGreatMS
import Derived.Laws.StructEq
namespace Go.Proofs.YtpjkebjgpknibaaGreat
open Go.RowKit
set_option linter.unusedVariables false

end Go.Proofs.YtpjkebjgpknibaaGreat

