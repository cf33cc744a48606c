import Derived.Test.YtigaggkipmcgeaaNU
import Derived.Test.YtigaggkipmcgeaaPur
namespace Go.Proofs.Ytigaggkipmcgeaa
open Go.RowKit
set_option linter.unusedVariables false

/-- v is the real z 2^-s, below 2^T. -/
def NumZ (w : World) (v : Value) (s : Nat) (T : Int) (z : Int) : Prop := ∃ neg m e, NumV w v neg m e ∧ -(s : Int) ≤ e ∧ (bl m : Int) + e ≤ T ∧ zv s neg m e = z
theorem NumZ.later {w w' : World} {v : Value} {s : Nat} {T z : Int} (h : NumZ w v s T z) (hb : Below w.heap.size w w') : NumZ w' v s T z := by
  obtain ⟨neg, m, e, h1, h2⟩ := h
  exact ⟨neg, m, e, h1.later hb, h2⟩
theorem NumZ.more {w : World} {v : Value} {s : Nat} {T z : Int} (h : NumZ w v s T z) (k : Nat) : NumZ w v (s + k) T (z * ((2 ^ k : Nat) : Int)) := by
  obtain ⟨neg, m, e, h1, h2, h3, h4⟩ := h
  exact ⟨neg, m, e, h1, by omega, h3, by rw [zv_more k neg m h2, h4]⟩
theorem NumZ.mono {w : World} {v : Value} {s : Nat} {T T' z : Int} (h : NumZ w v s T z) (hT : T ≤ T') : NumZ w v s T' z := by
  obtain ⟨neg, m, e, h1, h2, h3, h4⟩ := h
  exact ⟨neg, m, e, h1, h2, by omega, h4⟩

/-- What a sum's parts are. -/
def PlusOk (nx : Bool) (mx : Nat) (ex : Int) (ny : Bool) (my : Nat) (ey : Int) (neg : Bool) (m : Nat) (e : Int) : Prop :=
  ∀ (s : Nat) (T : Int), -(s : Int) ≤ ex → -(s : Int) ≤ ey → (bl mx : Int) + ex ≤ T → (bl my : Int) + ey ≤ T → 0 ≤ T → -(s : Int) ≤ e ∧ (bl m : Int) + e ≤ T + 1 ∧ zv s neg m e = zv s nx mx ex + zv s ny my ey
theorem plus_left {nx : Bool} {mx : Nat} {ex : Int} {ny : Bool} {my : Nat} {ey : Int} (h : mx = 0) : PlusOk nx mx ex ny my ey ny my ey := by
  intro s T h1 h2 h3 h4 h5
  refine ⟨h2, by omega, ?_⟩
  rw [h, zv_zero, Int.zero_add]
theorem plus_right {nx : Bool} {mx : Nat} {ex : Int} {ny : Bool} {my : Nat} {ey : Int} (h : my = 0) : PlusOk nx mx ex ny my ey nx mx ex := by
  intro s T h1 h2 h3 h4 h5
  refine ⟨h1, by omega, ?_⟩
  rw [h, zv_zero, Int.add_zero]
theorem level_zv {mx : Nat} {ex : Int} {my : Nat} {ey : Int} {A B : Nat} {e : Int} (hL : LevelOf mx ex my ey A B e) (hx : mx ≠ 0) (hy : my ≠ 0) (s : Nat) (T : Int) (h1 : -(s : Int) ≤ ex) (h2 : -(s : Int) ≤ ey) (h3 : (bl mx : Int) + ex ≤ T) (h4 : (bl my : Int) + ey ≤ T) :
    -(s : Int) ≤ e ∧ (∀ g, zv s g mx ex = zv s g A e) ∧ (∀ g, zv s g my ey = zv s g B e) ∧ (bl A : Int) + e ≤ T ∧ (bl B : Int) + e ≤ T := by
  rcases hL with ⟨h, -⟩ | ⟨-, h, -⟩ | ⟨-, -, he, hA, hB⟩
  · exact absurd h hx
  · exact absurd h hy
  · have b1 := bl_mul_pow mx (ex - e).toNat
    have b2 := bl_mul_pow my (ey - e).toNat
    rw [← hA] at b1
    rw [← hB] at b2
    refine ⟨by omega, fun g => ?_, fun g => ?_, by omega, by omega⟩
    · rw [hA]; exact zv_down g mx (by omega) (by omega)
    · rw [hB]; exact zv_down g my (by omega) (by omega)
theorem plus_same {g : Bool} {mx : Nat} {ex : Int} {my : Nat} {ey : Int} {A B : Nat} {e : Int} (hL : LevelOf mx ex my ey A B e) (hx : mx ≠ 0) (hy : my ≠ 0) : PlusOk g mx ex g my ey g (A + B) e := by
  intro s T h1 h2 h3 h4 h5
  obtain ⟨k1, k2, k3, k4, k5⟩ := level_zv hL hx hy s T h1 h2 h3 h4
  have := bl_add A B
  exact ⟨k1, by omega, by rw [k2, k3, zv_add]⟩
theorem plus_ge {g : Bool} {mx : Nat} {ex : Int} {my : Nat} {ey : Int} {A B : Nat} {e : Int} (hL : LevelOf mx ex my ey A B e) (hx : mx ≠ 0) (hy : my ≠ 0) (hB : B ≤ A) : PlusOk g mx ex (!g) my ey g (A - B) e := by
  intro s T h1 h2 h3 h4 h5
  obtain ⟨k1, k2, k3, k4, k5⟩ := level_zv hL hx hy s T h1 h2 h3 h4
  have := bl_mono (show A - B ≤ A by omega)
  exact ⟨k1, by omega, by rw [k2, k3, zv_sub _ _ _ hB]⟩
theorem plus_lt {g : Bool} {mx : Nat} {ex : Int} {my : Nat} {ey : Int} {A B : Nat} {e : Int} (hL : LevelOf mx ex my ey A B e) (hx : mx ≠ 0) (hy : my ≠ 0) (hB : A ≤ B) : PlusOk g mx ex (!g) my ey (!g) (B - A) e := by
  intro s T h1 h2 h3 h4 h5
  obtain ⟨k1, k2, k3, k4, k5⟩ := level_zv hL hx hy s T h1 h2 h3 h4
  have := bl_mono (show B - A ≤ B by omega)
  exact ⟨k1, by omega, by rw [k2, k3, zv_sub _ _ _ hB, Bool.not_not, Int.add_comm]⟩
theorem plus_eq {g : Bool} {mx : Nat} {ex : Int} {my : Nat} {ey : Int} {A B : Nat} {e : Int} (hL : LevelOf mx ex my ey A B e) (hx : mx ≠ 0) (hy : my ≠ 0) (hB : A = B) : PlusOk g mx ex (!g) my ey false 0 0 := by
  intro s T h1 h2 h3 h4 h5
  obtain ⟨k1, k2, k3, k4, k5⟩ := level_zv hL hx hy s T h1 h2 h3 h4
  refine ⟨by omega, by rw [bl_zero]; omega, ?_⟩
  rw [k2, k3, hB, zv_zero, zv_not]; omega
theorem level_ne {mx : Nat} {ex : Int} {my : Nat} {ey : Int} {A B : Nat} {e : Int} (hL : LevelOf mx ex my ey A B e) (hx : mx ≠ 0) (hy : my ≠ 0) : 0 < A ∧ 0 < B := by
  rcases hL with ⟨h, -⟩ | ⟨-, h, -⟩ | ⟨-, -, he, hA, hB⟩
  · exact absurd h hx
  · exact absurd h hy
  · rw [hA, hB]; exact ⟨Nat.mul_pos (by omega) (Nat.two_pow_pos _), Nat.mul_pos (by omega) (Nat.two_pow_pos _)⟩
def PlusRes (nx : Bool) (mx : Nat) (ex : Int) (ny : Bool) (my : Nat) (ey : Int) (w : World) (e' : Ending) (w' : World) : Prop :=
  ∃ v' neg m e, e' = .returned v' ∧ NumV w' v' neg m e ∧ (PlusOk nx mx ex ny my ey neg m e ∧ (m = 0 → (mx = 0 → ex = 0) → (my = 0 → ey = 0) → e = 0)) ∧ Below w.heap.size w w'
end Go.Proofs.Ytigaggkipmcgeaa
