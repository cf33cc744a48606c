import Derived.Test.YthopkbkcdkjmeaaPur
namespace Go.Proofs.Ythopkbkcdkjmeaa
set_option linter.unusedVariables false

end Go.Proofs.Ythopkbkcdkjmeaa

