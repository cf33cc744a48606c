import Derived.Test.YtifdicafanglaaaGreatPur
namespace Go.Proofs.YtifdicafanglaaaGreat
set_option linter.unusedVariables false

end Go.Proofs.YtifdicafanglaaaGreat

