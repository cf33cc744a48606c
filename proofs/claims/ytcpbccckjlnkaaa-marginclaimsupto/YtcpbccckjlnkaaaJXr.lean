import Derived.Test.YtcpbccckjlnkaaaJXq
namespace Go.Proofs.Ytcpbccckjlnkaaa
open Go.RowKit Go.Shelf
set_option linter.unusedVariables false
set_option linter.unusedSimpArgs false

end Go.Proofs.Ytcpbccckjlnkaaa

