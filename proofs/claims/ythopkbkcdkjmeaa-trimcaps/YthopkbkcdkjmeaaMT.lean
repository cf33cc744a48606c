import Derived.Test.YthopkbkcdkjmeaaMS
import Derived.LoopN
namespace Go.Proofs.Ythopkbkcdkjmeaa
open Go.RowKit
set_option linter.unusedVariables false

end Go.Proofs.Ythopkbkcdkjmeaa


namespace Go.Proofs.Ythopkbkcdkjmeaa
open Go.RowKit
set_option linter.unusedVariables false

end Go.Proofs.Ythopkbkcdkjmeaa

