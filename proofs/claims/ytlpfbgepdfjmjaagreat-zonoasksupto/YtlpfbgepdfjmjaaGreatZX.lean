import Derived.Test.YtlpfbgepdfjmjaaGreatMS
import Derived.Laws.StructEq
namespace Go.Proofs.YtlpfbgepdfjmjaaGreat
open Go.RowKit
set_option linter.unusedVariables false

end Go.Proofs.YtlpfbgepdfjmjaaGreat

