import Derived.Test.YtifdicafanglaaaGreatGJc
namespace Go.Proofs.YtifdicafanglaaaGreat
open Go.RowKit Go.Shelf
set_option linter.unusedVariables false
set_option linter.unusedSimpArgs false

end Go.Proofs.YtifdicafanglaaaGreat

