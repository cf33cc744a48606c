import Derived.Test.YtpinpcefgbhdmaaDoorTexts
import Derived.Test.YtpinpcefgbhdmaaDoorRefUint
namespace Go.Proofs.YtpinpcefgbhdmaaDoor
open Go.RowKit
set_option linter.unusedVariables false

set_option maxRecDepth 100000 in
set_option maxHeartbeats 1000000 in
theorem refText_any (s : ByteArray) (w : World) (hs : s.size ≤ 35184372088832) :
    Calls Tryd.prog 14 #[.string s] w fun e w' => ∃ v, e = .returned (.tuple #[v, .int .i64 (textE s)]) ∧ Own w' w.heap.size v (textB s) ∧ Below w.heap.size w w' := by
  have hlen := grp_len 9 s.size (by omega) (by omega)
  have HR : Hid _ := refRunes_any s w (by omega)
  have H0 : Hid (rn s = none → textB s = [] ∧ textE s = 14) := fun h => by unfold textB textE; rw [h]; exact ⟨rfl, rfl⟩
  have H1 : Hid (∀ k, rn s = some k → textB s = grp s.size ++ strL s ∧ textE s = 0) := fun k h => by unfold textB textE; rw [h]; exact ⟨rfl, rfl⟩
  generalize textB s = B at *
  generalize textE s = E at *
  go_enter Tryd.func14, Tryd.ntmps14
  go_wp2_with fail
  refine Calls.mono HR.out ?_
  clear HR
  rintro e w1 ⟨rfl, hb1⟩
  cases hrn : rn s with
  | none =>
    obtain ⟨rfl, rfl⟩ := H0.out hrn
    clear hrn H0 H1
    unfold rnV
    go_wp2
    go_ret2
    exact ⟨_, rfl, Own.nil _ _, hb1⟩
  | some k =>
    obtain ⟨rfl, rfl⟩ := H1.out k hrn
    clear hrn H0 H1
    unfold rnV
    go_wp2_with fail
    refine (refUint_pos s.size (by omega) _).mono ?_
    rintro e w2 ⟨v2, rfl, hO2, hb2⟩
    have hO := hO2.mono hb1.size
    have hB2 := below_trans hb1 hb2
    have hsz2 := hB2.size
    clear hO2 hb1 hb2
    go_wp2_with (at_builtin; refine append_str _ rfl _ _ rfl w.heap.size _ _ rfl hO s rfl (by omega) hsz2 ?_; intro v3 w3 hO3 hb3)
    go_ret2
    exact ⟨_, rfl, hO3, hB2.trans hb3⟩
end Go.Proofs.YtpinpcefgbhdmaaDoor
