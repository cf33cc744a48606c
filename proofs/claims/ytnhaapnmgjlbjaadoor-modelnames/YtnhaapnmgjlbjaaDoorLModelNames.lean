import Derived.Test.YtnhaapnmgjlbjaaDoorKQ
namespace Go.Proofs.YtnhaapnmgjlbjaaDoor
open Go.RowKit
set_option linter.unusedVariables false

set_option maxRecDepth 100000 in
set_option maxHeartbeats 1000000 in
theorem modelNames_walk (s : ByteArray) (hs : s.size ≤ 140737488351232) (w : World) (hT : U8 w) :
    Calls Tryd.prog 3 #[.string s] w fun e w' => e = .returned (.bool true) ∧ Below w.heap.size w w' := by
  have HT : Hid (U8 w) := hT
  have H1 : Hid _ := told_any w hT
  have H2 : Hid (∀ w, U8 w → Calls Tryd.prog 7 #[.string s] w fun e w' => e = .returned (.bool (nameB s)) ∧ Below w.heap.size w w') := fun w h => name_any s w h (by omega)
  have H3 : Hid (∀ w, Calls Tryd.prog 8 #[.string s] w fun e w' => e = .returned (.bool (nameB s)) ∧ Below w.heap.size w w') := fun w => refName_any s w (by omega)
  generalize nameB s = b at *
  clear hT hs
  go_enter Tryd.func3, Tryd.ntmps3
  go_wp2_with fail
  refine Calls.mono H1.out ?_
  rintro e w1 ⟨rfl, hb⟩
  have HB1 : Hid (Below w.heap.size w w1) := hb
  have H4 : Hid _ := H2.out w1 (HT.out.later hb)
  clear hb H1 H2
  go_wp2_with fail
  refine Calls.mono H4.out ?_
  rintro e w2 ⟨rfl, hb⟩
  have HB2 : Hid (Below w.heap.size w w2) := to_call HB1.out hb
  clear hb H4
  go_wp2_with fail
  refine Calls.mono (H3.out _) ?_
  rintro e w3 ⟨rfl, hb⟩
  have HB3 : Hid (Below w.heap.size w w3) := to_call HB2.out hb
  clear hb H3
  cases b
  · go_wp2
    go_ret
    exact ⟨rfl, HB3.out⟩
  · go_wp2
    go_ret
    exact ⟨rfl, HB3.out⟩
end Go.Proofs.YtnhaapnmgjlbjaaDoor
