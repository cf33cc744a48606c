import Derived.Test.YtkpplacilehngaaGreatMS
import Derived.Laws.StructEq
namespace Go.Proofs.YtkpplacilehngaaGreat
open Go.RowKit
set_option linter.unusedVariables false

end Go.Proofs.YtkpplacilehngaaGreat

