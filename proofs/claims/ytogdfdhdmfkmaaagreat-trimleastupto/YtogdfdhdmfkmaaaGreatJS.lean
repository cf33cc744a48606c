import Derived.Test.YtogdfdhdmfkmaaaGreatGJc
namespace Go.Proofs.YtogdfdhdmfkmaaaGreat
open Go.RowKit Go.Shelf
set_option linter.unusedVariables false
set_option linter.unusedSimpArgs false

end Go.Proofs.YtogdfdhdmfkmaaaGreat

