import Derived.Test.YthopkbkcdkjmeaaGJj
import Derived.Test.YthopkbkcdkjmeaaGJe
import Derived.Test.YthopkbkcdkjmeaaNCc
import Derived.Test.YthopkbkcdkjmeaaMZ
import Derived.Test.YthopkbkcdkjmeaaMN
namespace Go.Proofs.Ythopkbkcdkjmeaa
open Go.RowKit Go.Shelf
set_option linter.unusedVariables false
set_option linter.unusedSimpArgs false

end Go.Proofs.Ythopkbkcdkjmeaa


namespace Go.Proofs.Ythopkbkcdkjmeaa
open Go.RowKit Go.Shelf
set_option linter.unusedVariables false
set_option linter.unusedSimpArgs false

end Go.Proofs.Ythopkbkcdkjmeaa


namespace Go.Proofs.Ythopkbkcdkjmeaa
open Go.RowKit Go.Shelf
set_option linter.unusedVariables false
set_option linter.unusedSimpArgs false

end Go.Proofs.Ythopkbkcdkjmeaa


namespace Go.Proofs.Ythopkbkcdkjmeaa
open Go.RowKit Go.Shelf
set_option linter.unusedVariables false
set_option linter.unusedSimpArgs false

end Go.Proofs.Ythopkbkcdkjmeaa


namespace Go.Proofs.Ythopkbkcdkjmeaa
open Go.RowKit Go.Shelf
set_option linter.unusedVariables false
set_option linter.unusedSimpArgs false

end Go.Proofs.Ythopkbkcdkjmeaa

