import Derived.Test.YtpinpcefgbhdmaaDoorRunes
import Derived.Test.YtpinpcefgbhdmaaDoorRows
import Derived.Lib.LaidU8
namespace Go.Proofs.YtpinpcefgbhdmaaDoor
open Go.RowKit
set_option linter.unusedVariables false
set_option maxRecDepth 100000

theorem u8Extra : U8Extra Tryd.prog Tryd.lays197_ren where
  n3 := by kernel_rfl
  n4 := by kernel_rfl
  y3 := by kernel_rfl
  y4 := by kernel_rfl
  c5 := by kernel_rfl
  c119 := by kernel_rfl
  c138 := by kernel_rfl
theorem first_is : Rows.laid_unicode_utf8_first = Lib.firstData := by kernel_rfl
theorem accept_is : (Rows.laid_unicode_utf8_acceptRanges : DataW Unit) = Lib.acceptData := by kernel_rfl
/-- The tables lie in a world in which the row's variables are laid. -/
theorem u8_of {l : List (String × DataW Unit)} {W : World} (hL : laidMet Tryd.prog l W) (h1 : ("unicode/utf8.first", Rows.laid_unicode_utf8_first) ∈ l) (h2 : ("unicode/utf8.acceptRanges", Rows.laid_unicode_utf8_acceptRanges) ∈ l) : U8 W := by
  have k1 := Lib.laidMet.reads hL h1
  have k2 := Lib.laidMet.reads hL h2
  rw [first_is] at k1
  rw [accept_is] at k2
  exact utf8Tabs_of_reads { Tryd.lays197 with } u8Extra k1 k2
end Go.Proofs.YtpinpcefgbhdmaaDoor
