import Derived.Test.YtjeghdmclmelfaaGreatMS
import Derived.Laws.StructEq
namespace Go.Proofs.YtjeghdmclmelfaaGreat
open Go.RowKit
set_option linter.unusedVariables false
end Go.Proofs.YtjeghdmclmelfaaGreat
