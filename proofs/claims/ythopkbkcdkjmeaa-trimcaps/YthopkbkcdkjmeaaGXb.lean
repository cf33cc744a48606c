import Derived.Test.YthopkbkcdkjmeaaJXd
import Derived.Test.YthopkbkcdkjmeaaMV
namespace Go.Proofs.Ythopkbkcdkjmeaa
open Go.RowKit Go.Shelf
set_option linter.unusedVariables false
set_option linter.unusedSimpArgs false

end Go.Proofs.Ythopkbkcdkjmeaa


namespace Go.Proofs.Ythopkbkcdkjmeaa
open Go.RowKit Go.Shelf
set_option linter.unusedVariables false
set_option linter.unusedSimpArgs false

end Go.Proofs.Ythopkbkcdkjmeaa


namespace Go.Proofs.Ythopkbkcdkjmeaa
open Go.RowKit Go.Shelf
set_option linter.unusedVariables false
set_option linter.unusedSimpArgs false

end Go.Proofs.Ythopkbkcdkjmeaa

