import Derived.Test.YthopkbkcdkjmeaaMN
import Derived.Deep.RegionHeld3
import Derived.Test.YthopkbkcdkjmeaaPur
import Derived.BigRegion
namespace Go.Proofs.Ythopkbkcdkjmeaa
open Go.RowKit
set_option linter.unusedVariables false

end Go.Proofs.Ythopkbkcdkjmeaa


namespace Go.Proofs.Ythopkbkcdkjmeaa
open Go.RowKit
set_option linter.unusedVariables false

end Go.Proofs.Ythopkbkcdkjmeaa


namespace Go.Proofs.Ythopkbkcdkjmeaa
open Go.RowKit
set_option linter.unusedVariables false

end Go.Proofs.Ythopkbkcdkjmeaa


namespace Go.Proofs.Ythopkbkcdkjmeaa
open Go.RowKit
set_option linter.unusedVariables false

end Go.Proofs.Ythopkbkcdkjmeaa


namespace Go.Proofs.Ythopkbkcdkjmeaa
open Go.RowKit
set_option linter.unusedVariables false

end Go.Proofs.Ythopkbkcdkjmeaa

