import Derived.Test.YtfecnhfghepfkaaGreatJYa
namespace Go.Proofs.YtfecnhfghepfkaaGreat
open Go.RowKit Go.Shelf
set_option linter.unusedVariables false
set_option linter.unusedSimpArgs false

end Go.Proofs.YtfecnhfghepfkaaGreat

