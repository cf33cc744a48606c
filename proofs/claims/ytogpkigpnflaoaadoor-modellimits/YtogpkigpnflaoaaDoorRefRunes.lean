import Derived.Test.YtogpkigpnflaoaaDoorRuneMath
namespace Go.Proofs.YtogpkigpnflaoaaDoor
open Go.RowKit
set_option linter.unusedVariables false
end Go.Proofs.YtogpkigpnflaoaaDoor
