import Derived.Test.YtlpfbgepdfjmjaaGreatJYe
namespace Go.Proofs.YtlpfbgepdfjmjaaGreat
open Go.RowKit Go.Shelf
set_option linter.unusedVariables false
open Ieee

theorem rz_order {X Y : Int} {D : Nat} {p q : Nat × Bool} (hD : 0 < D) (h : RndZ 2 X D p) (h' : RndZ 1 Y D q) (hle : X ≤ Y) (hp : p.2 = true) (hq : q.2 = true) : srung p.1 ≤ srung q.1 := by
  obtain ⟨f, hf⟩ := Sf.some X hD
  obtain ⟨g, hg⟩ := Sf.some Y hD
  have hfg : f ≤ g := (floor_le hD hg f).1 (Int.le_trans hf.1 hle)
  have hgc : g ≤ ceilK Y D g := by unfold ceilK; split <;> omega
  rcases rz_down h hf with ⟨_, _, a⟩ | ⟨a, _⟩
  · rcases rz_up h' hg with ⟨_, _, b⟩ | ⟨b, _⟩
    · rw [a, b]; omega
    · rw [b] at hq; cases hq
  · rw [a] at hp; cases hp
theorem canon_plainM {x : Nat} (h : Canon x) : plainM x = x := by
  unfold plainM
  split
  · rename_i e
    unfold Canon at h
    rw [e] at h
    rw [h]; rfl
  · rfl
theorem RndO.some_iff {d : Int} {x : Int} {u a : Nat} {b : Bool} (ha : a = 1166) (h : RndO d (some x) u b) : RndZ d x (2 ^ a) (u, b) := h a ha
theorem one1_is {a c : Nat} (ha : a = 1166) (hc : Fin c) : one1 c = some (fval c * ((2 ^ a : Nat) : Int)) := by
  obtain ⟨F, hF⟩ : ∃ F : Nat, F = 2098 := ⟨_, rfl⟩
  obtain ⟨E, hE⟩ : ∃ E : Nat, E = 2140 := ⟨_, rfl⟩
  have hg := great_bound hF hE
  have hr := fval_ltJ hc hF
  rw [← fval_absJ] at hr
  unfold one1
  have := prodO_step (x := 0) ha hE hc (by decide) (prodZ_oneJ ha _) (by rw [Int.zero_add]; generalize 2 ^ F = X at *; generalize 2 ^ E = Y at *; omega)
  rw [Int.zero_mul, Int.zero_add] at this
  exact this
end Go.Proofs.YtlpfbgepdfjmjaaGreat

