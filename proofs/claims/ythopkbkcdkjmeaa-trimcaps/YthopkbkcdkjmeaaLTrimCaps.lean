import Derived.Test.YthopkbkcdkjmeaaGTd
namespace Go.Proofs.Ythopkbkcdkjmeaa
open Go.RowKit Go.Shelf
set_option linter.unusedVariables false
set_option linter.unusedSimpArgs false

set_option maxRecDepth 100000 in
set_option maxHeartbeats 1000000 in
theorem trimCaps_walk (k : Int) (h1 : -9223372036854775808 ≤ k) (h2 : k ≤ 9223372036854775807) (n : Int) (h3 : -9223372036854775808 ≤ n) (h4 : n ≤ 9223372036854775807) (w : World) : Calls Try.prog 3 #[.int .i64 k, .int .i64 n] w fun e w' => e = .returned (.bool true) ∧ Below w.heap.size w w' := by
  clear h1 h2 h3 h4
  have HC1 : Hid (∀ w, _) := capT_any k n
  have HC2 : Hid (∀ w, _) := refCapT_any k n
  obtain ⟨v, hv⟩ : ∃ v, capV k n = v := ⟨_, rfl⟩
  rw [hv] at HC1 HC2
  clear hv
  have hvv : (v == v) = true := by simp
  go_enter Try.func3, Try.ntmps3
  go_wp2_with (first
    | (go_at_call 4; refine Calls.mono (told11_any _) ?_; rintro e w1 ⟨rfl, hb⟩)
    | (go_at_call 5; refine Calls.mono (HC1.out _) ?_; rintro e wz ⟨rfl, hw⟩; rw [hw]; clear hw)
    | (go_at_call 6; refine Calls.mono (HC2.out _) ?_; rintro e wz ⟨rfl, hw⟩; rw [hw]; clear hw))
  go_ret
  exact ⟨rfl, hb⟩
end Go.Proofs.Ythopkbkcdkjmeaa
