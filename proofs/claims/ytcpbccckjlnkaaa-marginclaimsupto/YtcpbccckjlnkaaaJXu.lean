import Derived.Test.YtcpbccckjlnkaaaJXs
import Derived.Test.YtcpbccckjlnkaaaGXc
namespace Go.Proofs.Ytcpbccckjlnkaaa
open Go.RowKit Go.Shelf
set_option linter.unusedVariables false
set_option linter.unusedSimpArgs false
open Ieee

end Go.Proofs.Ytcpbccckjlnkaaa

