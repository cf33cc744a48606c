import Derived.Test.YtbjnkefjlaplkaaMS
import Derived.LoopN
namespace Go.Proofs.Ytbjnkefjlaplkaa
open Go.RowKit
set_option linter.unusedVariables false

end Go.Proofs.Ytbjnkefjlaplkaa


namespace Go.Proofs.Ytbjnkefjlaplkaa
open Go.RowKit
set_option linter.unusedVariables false

end Go.Proofs.Ytbjnkefjlaplkaa

