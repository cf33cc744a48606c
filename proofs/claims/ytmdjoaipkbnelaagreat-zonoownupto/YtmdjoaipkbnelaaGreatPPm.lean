import Derived.Test.YtmdjoaipkbnelaaGreatPPl
set_option linter.unusedVariables false
set_option linter.unusedSimpArgs false
namespace Go.Proofs.YtmdjoaipkbnelaaGreat
open Go.RowKit Go.Shelf
end Go.Proofs.YtmdjoaipkbnelaaGreat
