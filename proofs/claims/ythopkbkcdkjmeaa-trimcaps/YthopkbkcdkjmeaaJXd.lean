import Derived.Test.YthopkbkcdkjmeaaGXa
import Derived.Test.YthopkbkcdkjmeaaGJf
import Derived.Test.YthopkbkcdkjmeaaJZu
namespace Go.Proofs.Ythopkbkcdkjmeaa
open Go.RowKit Go.Shelf
set_option linter.unusedVariables false
set_option linter.unusedSimpArgs false

end Go.Proofs.Ythopkbkcdkjmeaa

