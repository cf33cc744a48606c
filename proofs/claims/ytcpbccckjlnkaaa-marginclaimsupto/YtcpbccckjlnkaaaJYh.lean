import Derived.Test.YtcpbccckjlnkaaaGYa
import Derived.Test.YtcpbccckjlnkaaaJZy
import Derived.Test.YtcpbccckjlnkaaaGJi
import Derived.Test.YtcpbccckjlnkaaaGJd
import Derived.Test.YtcpbccckjlnkaaaGJh
namespace Go.Proofs.Ytcpbccckjlnkaaa
open Go.RowKit Go.Shelf
set_option linter.unusedVariables false
open Ieee

end Go.Proofs.Ytcpbccckjlnkaaa

