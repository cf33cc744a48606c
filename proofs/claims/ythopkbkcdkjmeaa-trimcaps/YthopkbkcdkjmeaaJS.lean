import Derived.Test.YthopkbkcdkjmeaaGJc
namespace Go.Proofs.Ythopkbkcdkjmeaa
open Go.RowKit Go.Shelf
set_option linter.unusedVariables false
set_option linter.unusedSimpArgs false

end Go.Proofs.Ythopkbkcdkjmeaa

