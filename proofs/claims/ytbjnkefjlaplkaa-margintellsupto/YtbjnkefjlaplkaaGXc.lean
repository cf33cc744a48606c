import Derived.Test.YtbjnkefjlaplkaaGXb
import Derived.Test.YtbjnkefjlaplkaaJYk
import Derived.Test.YtbjnkefjlaplkaaSpi
import Derived.Test.YtbjnkefjlaplkaaGJk
namespace Go.Proofs.Ytbjnkefjlaplkaa
open Go.RowKit Go.Shelf
set_option linter.unusedVariables false
set_option linter.unusedSimpArgs false

end Go.Proofs.Ytbjnkefjlaplkaa


namespace Go.Proofs.Ytbjnkefjlaplkaa
open Go.RowKit Go.Shelf
set_option linter.unusedVariables false
set_option linter.unusedSimpArgs false

theorem SmZ.good {u z : ZD} (m : SmZ u z) : (!u.bad && wholeB u) = (!z.bad && wholeB z) := good_eq m.bad (checkB_eq u z m.N m.bad m.cs m.rs m.ids m.gs m.cn m.dn m.gn m.rn)
theorem SmZ.symm {u z : ZD} (m : SmZ u z) : SmZ z u := ⟨m.N.symm, m.bad.symm, m.cs.symm, m.rs.symm, m.ids.symm, m.gs.symm, m.dn.symm, m.gn.symm, m.cn.symm, m.rn.symm⟩
theorem SmZ.trans {u z x : ZD} (m : SmZ u z) (k : SmZ z x) : SmZ u x := ⟨m.N.trans k.N, m.bad.trans k.bad, m.cs.trans k.cs, m.rs.trans k.rs, m.ids.trans k.ids, m.gs.trans k.gs, m.dn.trans k.dn, m.gn.trans k.gn, m.cn.trans k.cn, m.rn.trans k.rn⟩
theorem SmZ.bits {x u z : ZD} (m : SmZ x z) (k : SmZ u z) : bitsB x u = true := by
  unfold bitsB
  rw [m.N, m.bad, m.cs, m.rs, m.ids, m.gs, k.N, k.bad, k.cs, k.rs, k.ids, k.gs]
  simp
end Go.Proofs.Ytbjnkefjlaplkaa


namespace Go.Proofs.Ytbjnkefjlaplkaa
open Go.RowKit Go.Shelf
set_option linter.unusedVariables false
set_option linter.unusedSimpArgs false

end Go.Proofs.Ytbjnkefjlaplkaa

