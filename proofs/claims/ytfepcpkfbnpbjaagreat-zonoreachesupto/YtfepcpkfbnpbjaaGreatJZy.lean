import Derived.Test.YtfepcpkfbnpbjaaGreatJZv
namespace Go.Proofs.YtfepcpkfbnpbjaaGreat
open Go.RowKit Go.Shelf
set_option linter.unusedVariables false
set_option linter.unusedSimpArgs false

def u0N (n : Nat) : Array Value := madeCells #[.int .u64 0] n
end Go.Proofs.YtfepcpkfbnpbjaaGreat

