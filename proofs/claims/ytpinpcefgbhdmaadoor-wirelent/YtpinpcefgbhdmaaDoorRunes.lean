import Derived.Test.YtpinpcefgbhdmaaDoorShelfU
import Derived.Test.YtpinpcefgbhdmaaDoorChecked
import Derived.Test.YtpinpcefgbhdmaaDoorBase
import Derived.WalkKit
import Derived.WalkSpells
import Derived.WalkSmall
import Derived.Lib.OthersKept
namespace Go.Proofs.YtpinpcefgbhdmaaDoor
open Go.RowKit
set_option linter.unusedVariables false

/-- The two tables of unicode/utf8 lie in the world. -/
def U8 (w : World) : Prop := Lib.Utf8Tabs 1 2 w
theorem U8.later {w w' : World} (h : U8 w) (hb : Below w.heap.size w w') : U8 w' := Utf8Tabs_below h hb

theorem runeLen3 : Lib.runeLen 65533 = 3 := by decide

set_option maxRecDepth 100000 in
theorem broken_any (s : ByteArray) (w : World) (hT : U8 w) :
    Calls Tryd.prog 37 #[.string s] w fun e w' => e = .returned (.bool (decide ((Lib.decodeGo s).2 < 3))) ∧ Below w.heap.size w w' := by
  have h1 := Tryd.utf8_DecodeRuneInString s w hT
  have H1 : Hid _ := h1
  clear h1 hT
  have h2 := fun w => Tryd.utf8_RuneLen 65533 w
  rw [runeLen3] at h2
  have H2 : Hid _ := h2
  clear h2
  generalize hR : (Lib.decodeGo s).1 = R at *
  generalize hD : (Lib.decodeGo s).2 = D at *
  clear hR hD
  have hb : decide (((D : Nat) : Int) < 3) = decide (D < 3) := by
    by_cases h : D < 3
    · rw [decide_eq_true h]; exact decide_eq_true (by omega)
    · rw [decide_eq_false h]; exact decide_eq_false (by omega)
  have HB : Hid _ := hb
  clear hb
  go_enter Tryd.func37, Tryd.ntmps37
  go_wp2_with fail
  refine Calls.mono H1.out ?_
  rintro e w1 ⟨rfl, hb1⟩
  go_wp2_with fail
  refine Calls.mono (H2.out _) ?_
  rintro e w2 ⟨rfl, rfl⟩
  go_wp2
  go_ret
  exact ⟨by rw [← HB.out]; rfl, hb1⟩
end Go.Proofs.YtpinpcefgbhdmaaDoor
