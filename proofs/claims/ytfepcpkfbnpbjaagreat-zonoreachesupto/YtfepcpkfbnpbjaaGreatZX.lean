import Derived.Test.YtfepcpkfbnpbjaaGreatMS
import Derived.Laws.StructEq
namespace Go.Proofs.YtfepcpkfbnpbjaaGreat
open Go.RowKit
set_option linter.unusedVariables false

end Go.Proofs.YtfepcpkfbnpbjaaGreat

