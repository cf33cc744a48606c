import Derived.Test.YtogpkigpnflaoaaDoorVA
namespace Go.Proofs.YtogpkigpnflaoaaDoor
open Go.RowKit
set_option linter.unusedVariables false

def flV (us : List Nat) : List Value := us.map (Value.float .f64)
theorem flV_len (us : List Nat) : (flV us).length = us.length := by simp [flV]
theorem flV_app (us vs : List Nat) : flV (us ++ vs) = flV us ++ flV vs := by simp [flV]
theorem flV_at (us : List Nat) (j : Nat) (h : j < us.length) : (flV us)[j]? = some (.float .f64 (us[j]?.getD 0)) := by
  simp [flV, List.getElem?_eq_getElem h]
theorem flV_one (us : List Nat) : ∀ u ∈ flV us, u.oneCell' = true := by
  intro u hu
  simp only [flV, List.mem_map] at hu
  obtain ⟨x, _, rfl⟩ := hu
  rfl
def OwnFl (w : World) (base : Nat) (v : Value) (us : List Nat) : Prop := w.ownsRow base 29 1 v (flV us).length (flV us)
theorem OwnFl.nil (w : World) (base : Nat) : OwnFl w base (.slice none 0 0) [] := World.ownsRow_nil w base _ 1
/-- What was laid out, with its marks. -/
theorem OwnFl.mk {w : World} {base : Nat} {v : Value} {us : List Nat} (hu : ∀ u ∈ us, u < 18446744073709551616) (hm : us.length ≤ 300) (h : OwnFl w base v (us ++ List.replicate 9 13873417816952012800)) :
    ∃ g cap, v = .slice (some ⟨g, 0, none⟩) (us.length + 9) cap ∧ us.length + 9 ≤ cap ∧ Mk w base (.slice (some ⟨g, 0, none⟩) us.length cap) us := by
  have hl : (flV (us ++ List.replicate 9 13873417816952012800)).length = us.length + 9 := by rw [flV_len]; simp
  unfold OwnFl at h
  rw [hl] at h
  rcases h.2 with ⟨_, h0⟩ | ⟨g, cap, cur, rfl, hg, hh, hc, hx, hs, ht⟩
  · omega
  · refine ⟨g, cap, rfl, hc, g, cap, cur, rfl, hg, hh, by omega, hx, hu, by omega, fun j hj => ?_, ?_⟩
    · have h1 : (cur.toList.take ((us.length + 9) * 1))[j]? = cur[j]? := by rw [List.getElem?_take, if_pos (by omega), Array.getElem?_toList]
      rw [← h1, ht, flV_app, List.getElem?_append_left (by rw [flV_len]; exact hj), flV_at us j hj]
    · have h1 : (cur.toList.take ((us.length + 9) * 1))[us.length]? = cur[us.length]? := by rw [List.getElem?_take, if_pos (by omega), Array.getElem?_toList]
      rw [← h1, ht, flV_app, List.getElem?_append_right (by rw [flV_len]; exact Nat.le_refl _), flV_len, Nat.sub_self]
      rfl
end Go.Proofs.YtogpkigpnflaoaaDoor
