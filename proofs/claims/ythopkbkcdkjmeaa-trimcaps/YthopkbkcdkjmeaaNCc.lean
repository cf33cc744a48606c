import Derived.Test.YthopkbkcdkjmeaaMZ
namespace Go.Proofs.Ythopkbkcdkjmeaa
open Go.RowKit
set_option linter.unusedVariables false

end Go.Proofs.Ythopkbkcdkjmeaa

