import Derived.Test.YtbjnkefjlaplkaaMS
import Derived.Laws.StructEq
namespace Go.Proofs.Ytbjnkefjlaplkaa
open Go.RowKit
set_option linter.unusedVariables false

end Go.Proofs.Ytbjnkefjlaplkaa

