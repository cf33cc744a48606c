import Derived.Test.YtmeechafeeaenaaMN
import Derived.Deep.RegionHeld3
import Derived.Test.YtmeechafeeaenaaPur
import Derived.BigRegion
namespace Go.Proofs.Ytmeechafeeaenaa
open Go.RowKit
set_option linter.unusedVariables false

theorem rd4_none' (w : World) : Rd4 w none 0 0 [] := Rd4.none w
/-- Two numbers brought to one power of 2. -/
def LevelOf (mx : Nat) (ex : Int) (my : Nat) (ey : Int) (A B : Nat) (e : Int) : Prop :=
  (mx = 0 ∧ A = 0 ∧ B = my ∧ e = ey) ∨ (mx ≠ 0 ∧ my = 0 ∧ A = mx ∧ B = 0 ∧ e = ex) ∨ (mx ≠ 0 ∧ my ≠ 0 ∧ e = min ex ey ∧ A = mx * 2 ^ (ex - e).toNat ∧ B = my * 2 ^ (ey - e).toNat)
def LevelRes (mx : Nat) (ex : Int) (my : Nat) (ey : Int) (w : World) (e' : Ending) (w' : World) : Prop :=
  ∃ a1 l1 c1 xs a2 l2 c2 ys A B e, e' = .returned (.tuple #[.slice a1 l1 c1, .slice a2 l2 c2, .int .i64 e]) ∧ Rd4 w' a1 l1 c1 xs ∧ Rd4 w' a2 l2 c2 ys ∧ Nm xs ∧ Nm ys ∧ dig xs = A ∧ dig ys = B ∧ LevelOf mx ex my ey A B e ∧ Below w.heap.size w w'
end Go.Proofs.Ytmeechafeeaenaa

namespace Go.Proofs.Ytmeechafeeaenaa
open Go.RowKit
set_option linter.unusedVariables false

/-- v is the real z 2^-s, below 2^T. -/
def NumZ (w : World) (v : Value) (s : Nat) (T : Int) (z : Int) : Prop := ∃ neg m e, NumV w v neg m e ∧ -(s : Int) ≤ e ∧ (bl m : Int) + e ≤ T ∧ zv s neg m e = z
theorem NumZ.later {w w' : World} {v : Value} {s : Nat} {T z : Int} (h : NumZ w v s T z) (hb : Below w.heap.size w w') : NumZ w' v s T z := by
  obtain ⟨neg, m, e, h1, h2⟩ := h
  exact ⟨neg, m, e, h1.later hb, h2⟩
theorem NumZ.more {w : World} {v : Value} {s : Nat} {T z : Int} (h : NumZ w v s T z) (k : Nat) : NumZ w v (s + k) T (z * ((2 ^ k : Nat) : Int)) := by
  obtain ⟨neg, m, e, h1, h2, h3, h4⟩ := h
  exact ⟨neg, m, e, h1, by omega, h3, by rw [zv_more k neg m h2, h4]⟩
theorem NumZ.mono {w : World} {v : Value} {s : Nat} {T T' z : Int} (h : NumZ w v s T z) (hT : T ≤ T') : NumZ w v s T' z := by
  obtain ⟨neg, m, e, h1, h2, h3, h4⟩ := h
  exact ⟨neg, m, e, h1, h2, by omega, h4⟩

/-- What a sum's parts are. -/
def PlusOk (nx : Bool) (mx : Nat) (ex : Int) (ny : Bool) (my : Nat) (ey : Int) (neg : Bool) (m : Nat) (e : Int) : Prop :=
  ∀ (s : Nat) (T : Int), -(s : Int) ≤ ex → -(s : Int) ≤ ey → (bl mx : Int) + ex ≤ T → (bl my : Int) + ey ≤ T → 0 ≤ T → -(s : Int) ≤ e ∧ (bl m : Int) + e ≤ T + 1 ∧ zv s neg m e = zv s nx mx ex + zv s ny my ey
theorem plus_left {nx : Bool} {mx : Nat} {ex : Int} {ny : Bool} {my : Nat} {ey : Int} (h : mx = 0) : PlusOk nx mx ex ny my ey ny my ey := by
  intro s T h1 h2 h3 h4 h5
  refine ⟨h2, by omega, ?_⟩
  rw [h, zv_zero, Int.zero_add]
theorem plus_right {nx : Bool} {mx : Nat} {ex : Int} {ny : Bool} {my : Nat} {ey : Int} (h : my = 0) : PlusOk nx mx ex ny my ey nx mx ex := by
  intro s T h1 h2 h3 h4 h5
  refine ⟨h1, by omega, ?_⟩
  rw [h, zv_zero, Int.add_zero]
theorem level_zv {mx : Nat} {ex : Int} {my : Nat} {ey : Int} {A B : Nat} {e : Int} (hL : LevelOf mx ex my ey A B e) (hx : mx ≠ 0) (hy : my ≠ 0) (s : Nat) (T : Int) (h1 : -(s : Int) ≤ ex) (h2 : -(s : Int) ≤ ey) (h3 : (bl mx : Int) + ex ≤ T) (h4 : (bl my : Int) + ey ≤ T) :
    -(s : Int) ≤ e ∧ (∀ g, zv s g mx ex = zv s g A e) ∧ (∀ g, zv s g my ey = zv s g B e) ∧ (bl A : Int) + e ≤ T ∧ (bl B : Int) + e ≤ T := by
  rcases hL with ⟨h, -⟩ | ⟨-, h, -⟩ | ⟨-, -, he, hA, hB⟩
  · exact absurd h hx
  · exact absurd h hy
  · have b1 := bl_mul_pow mx (ex - e).toNat
    have b2 := bl_mul_pow my (ey - e).toNat
    rw [← hA] at b1
    rw [← hB] at b2
    refine ⟨by omega, fun g => ?_, fun g => ?_, by omega, by omega⟩
    · rw [hA]; exact zv_down g mx (by omega) (by omega)
    · rw [hB]; exact zv_down g my (by omega) (by omega)
theorem plus_same {g : Bool} {mx : Nat} {ex : Int} {my : Nat} {ey : Int} {A B : Nat} {e : Int} (hL : LevelOf mx ex my ey A B e) (hx : mx ≠ 0) (hy : my ≠ 0) : PlusOk g mx ex g my ey g (A + B) e := by
  intro s T h1 h2 h3 h4 h5
  obtain ⟨k1, k2, k3, k4, k5⟩ := level_zv hL hx hy s T h1 h2 h3 h4
  have := bl_add A B
  exact ⟨k1, by omega, by rw [k2, k3, zv_add]⟩
theorem plus_ge {g : Bool} {mx : Nat} {ex : Int} {my : Nat} {ey : Int} {A B : Nat} {e : Int} (hL : LevelOf mx ex my ey A B e) (hx : mx ≠ 0) (hy : my ≠ 0) (hB : B ≤ A) : PlusOk g mx ex (!g) my ey g (A - B) e := by
  intro s T h1 h2 h3 h4 h5
  obtain ⟨k1, k2, k3, k4, k5⟩ := level_zv hL hx hy s T h1 h2 h3 h4
  have := bl_mono (show A - B ≤ A by omega)
  exact ⟨k1, by omega, by rw [k2, k3, zv_sub _ _ _ hB]⟩
theorem plus_lt {g : Bool} {mx : Nat} {ex : Int} {my : Nat} {ey : Int} {A B : Nat} {e : Int} (hL : LevelOf mx ex my ey A B e) (hx : mx ≠ 0) (hy : my ≠ 0) (hB : A ≤ B) : PlusOk g mx ex (!g) my ey (!g) (B - A) e := by
  intro s T h1 h2 h3 h4 h5
  obtain ⟨k1, k2, k3, k4, k5⟩ := level_zv hL hx hy s T h1 h2 h3 h4
  have := bl_mono (show B - A ≤ B by omega)
  exact ⟨k1, by omega, by rw [k2, k3, zv_sub _ _ _ hB, Bool.not_not, Int.add_comm]⟩
theorem plus_eq {g : Bool} {mx : Nat} {ex : Int} {my : Nat} {ey : Int} {A B : Nat} {e : Int} (hL : LevelOf mx ex my ey A B e) (hx : mx ≠ 0) (hy : my ≠ 0) (hB : A = B) : PlusOk g mx ex (!g) my ey false 0 0 := by
  intro s T h1 h2 h3 h4 h5
  obtain ⟨k1, k2, k3, k4, k5⟩ := level_zv hL hx hy s T h1 h2 h3 h4
  refine ⟨by omega, by rw [bl_zero]; omega, ?_⟩
  rw [k2, k3, hB, zv_zero, zv_not]; omega
theorem level_ne {mx : Nat} {ex : Int} {my : Nat} {ey : Int} {A B : Nat} {e : Int} (hL : LevelOf mx ex my ey A B e) (hx : mx ≠ 0) (hy : my ≠ 0) : 0 < A ∧ 0 < B := by
  rcases hL with ⟨h, -⟩ | ⟨-, h, -⟩ | ⟨-, -, he, hA, hB⟩
  · exact absurd h hx
  · exact absurd h hy
  · rw [hA, hB]; exact ⟨Nat.mul_pos (by omega) (Nat.two_pow_pos _), Nat.mul_pos (by omega) (Nat.two_pow_pos _)⟩
def PlusRes (nx : Bool) (mx : Nat) (ex : Int) (ny : Bool) (my : Nat) (ey : Int) (w : World) (e' : Ending) (w' : World) : Prop :=
  ∃ v' neg m e, e' = .returned v' ∧ NumV w' v' neg m e ∧ (PlusOk nx mx ex ny my ey neg m e ∧ (m = 0 → (mx = 0 → ex = 0) → (my = 0 → ey = 0) → e = 0)) ∧ Below w.heap.size w w'
end Go.Proofs.Ytmeechafeeaenaa

namespace Go.Proofs.Ytmeechafeeaenaa
open Go.RowKit
set_option linter.unusedVariables false

theorem times_step {Z Z' W c x y o S Yk I P : Nat} (hW : 0 < W) (hS : S = c + x * y + o) (hset : Z' + W * o = Z + W * (S % 4294967296)) (h : Z + W * c = P + I * x * Yk) (wk : Nat) (hWk : W = I * wk) :
    Z' + 4294967296 * W * (S / 4294967296) = P + I * x * (Yk + wk * y) := by
  have e1 := Nat.div_add_mod S 4294967296
  have e2 : 4294967296 * W * (S / 4294967296) + W * (S % 4294967296) = W * S := by
    rw [Nat.mul_comm 4294967296 W, Nat.mul_assoc, ← Nat.mul_add, e1]
  have e3 : W * S = W * c + W * (x * y) + W * o := by rw [hS, Nat.mul_add, Nat.mul_add]
  have e4 : I * x * (Yk + wk * y) = I * x * Yk + W * (x * y) := by
    rw [Nat.mul_add, hWk]; congr 1
    rw [Nat.mul_assoc, Nat.mul_assoc]; congr 1
    rw [← Nat.mul_assoc, ← Nat.mul_assoc, Nat.mul_comm x wk]
  omega
end Go.Proofs.Ytmeechafeeaenaa

namespace Go.Proofs.Ytmeechafeeaenaa
open Go.RowKit
set_option linter.unusedVariables false

theorem alloc3_facts (w : World) (o1 o2 o3 : Obj) : (((w.alloc o1).alloc o2).alloc o3).heap[w.heap.size]? = some o1 ∧ (((w.alloc o1).alloc o2).alloc o3).heap[w.heap.size + 1]? = some o2 ∧ (((w.alloc o1).alloc o2).alloc o3).heap[w.heap.size + 1 + 1]? = some o3 ∧ (((w.alloc o1).alloc o2).alloc o3).heap.size = w.heap.size + 3 ∧ Below w.heap.size w (((w.alloc o1).alloc o2).alloc o3) := by
  have e1 := heap_alloc_new w o1
  have e2 := heap_alloc_new (w.alloc o1) o2
  have e3 := heap_alloc_new ((w.alloc o1).alloc o2) o3
  rw [show (w.alloc o1).heap.size = w.heap.size + 1 by simp] at e2
  rw [show ((w.alloc o1).alloc o2).heap.size = w.heap.size + 1 + 1 by simp] at e3
  refine ⟨?_, ?_, e3, by simp, (((Below.refl _ _).alloc (Nat.le_refl _) _).alloc (by simp) _).alloc (by simp; omega) _⟩
  · rw [Below.heap_alloc _ _ _ (by simp; omega), Below.heap_alloc _ _ _ (by simp), e1]
  · rw [Below.heap_alloc _ _ _ (by simp), e2]
theorem level_bounds {mx : Nat} {ex : Int} {my : Nat} {ey : Int} {A B : Nat} {e : Int} (hL : LevelOf mx ex my ey A B e) (hex : -20000 ≤ ex ∧ ex ≤ 20000) (hey : -20000 ≤ ey ∧ ey ≤ 20000) (hbx : bl mx ≤ 40000) (hby : bl my ≤ 40000) :
    bl A ≤ 80000 ∧ bl B ≤ 80000 ∧ (mx = 0 → A = 0) ∧ (mx ≠ 0 → A ≠ 0) ∧ (mx ≠ 0 → my = 0 → B = 0) ∧ (mx ≠ 0 → my ≠ 0 → B ≠ 0) := by
  rcases hL with ⟨h, hA, hB, he⟩ | ⟨h, h2, hA, hB, he⟩ | ⟨h1, h2, he, hA, hB⟩
  · subst hA hB
    exact ⟨by rw [bl_zero]; omega, by omega, fun _ => rfl, fun c => absurd h c, fun c => absurd h c, fun c => absurd h c⟩
  · subst hA hB
    exact ⟨by omega, by rw [bl_zero]; omega, fun c => c, fun c => c, fun _ _ => rfl, fun _ c => absurd h2 c⟩
  · have b1 := bl_mul_pow mx (ex - e).toNat
    have b2 := bl_mul_pow my (ey - e).toNat
    rw [← hA] at b1
    rw [← hB] at b2
    refine ⟨by omega, by omega, fun c => absurd c h1, fun _ => ?_, fun _ c => absurd c h2, fun _ _ => ?_⟩
    · rw [hA]; exact Nat.mul_ne_zero h1 (by have := Nat.two_pow_pos (ex - e).toNat; omega)
    · rw [hB]; exact Nat.mul_ne_zero h2 (by have := Nat.two_pow_pos (ey - e).toNat; omega)
/-- What the last steps of a sum find in memory. -/
theorem out_facts {w w2 w4 : World} {nx : Bool} {e : Int} (M : Value) (hsz : w.heap.size + 3 ≤ w2.heap.size) (q2 : w2.heap[w.heap.size + 1 + 1]? = some (Obj.cells #[Value.bool false, Value.slice none 0 0, Value.int IntKind.i64 0] 52)) (hb4 : Below (w2.alloc (Obj.cells #[Value.bool nx, Value.slice none 0 0, Value.int IntKind.i64 e] 52)).heap.size (w2.alloc (Obj.cells #[Value.bool nx, Value.slice none 0 0, Value.int IntKind.i64 e] 52)) w4) :
    w4.heap[w2.heap.size]? = some (Obj.cells #[Value.bool nx, Value.slice none 0 0, Value.int IntKind.i64 e] 52) ∧ w4.heap[w.heap.size + 1 + 1]? = some (Obj.cells #[Value.bool false, Value.slice none 0 0, Value.int IntKind.i64 0] 52) ∧
    (w4.setCell ⟨w2.heap.size, 1, none⟩ M).heap[w2.heap.size]? = some (Obj.cells #[Value.bool nx, M, Value.int IntKind.i64 e] 52) ∧ (w4.setCell ⟨w2.heap.size, 1, none⟩ M).heap[w.heap.size + 1 + 1]? = some (Obj.cells #[Value.bool false, Value.slice none 0 0, Value.int IntKind.i64 0] 52) := by
  have h1 : w4.heap[w2.heap.size]? = some (Obj.cells #[Value.bool nx, Value.slice none 0 0, Value.int IntKind.i64 e] 52) := (hb4.block w2.heap.size (by simp)).trans (heap_alloc_new w2 _)
  have h2 : w4.heap[w.heap.size + 1 + 1]? = some (Obj.cells #[Value.bool false, Value.slice none 0 0, Value.int IntKind.i64 0] 52) := by
    rw [hb4.block (w.heap.size + 1 + 1) (by simp; omega), Below.heap_alloc _ _ _ (by omega)]; exact q2
  refine ⟨h1, h2, heap_setCell_same _ _ 1 _ _ M h1, ?_⟩
  rw [heap_setCell_other _ _ _ _ (by show w.heap.size + 1 + 1 ≠ w2.heap.size; omega)]; exact h2
end Go.Proofs.Ytmeechafeeaenaa

namespace Go.Proofs.Ytmeechafeeaenaa
open Go.RowKit
set_option linter.unusedVariables false

theorem NumZ.set3 {w : World} {B : Nat} (x y z : Value) (hB : NumB w B) {v : Value} {s : Nat} {T r : Int} (h : NumZ w v s T r) : NumZ (((w.setCell ⟨B, 0, none⟩ x).setCell ⟨B, 1, none⟩ y).setCell ⟨B, 2, none⟩ z) v s T r := by
  obtain ⟨neg, m, e, ⟨ao, len, cap, xs, h1, h2, h3⟩, h4⟩ := h
  exact ⟨neg, m, e, ⟨ao, len, cap, xs, h1, rd4_set3 x y z hB h2, h3⟩, h4⟩
theorem below_set3 {w0 w : World} {base B : Nat} (x y z : Value) (h : Below base w0 w) (hB : base ≤ B) : Below base w0 (((w.setCell ⟨B, 0, none⟩ x).setCell ⟨B, 1, none⟩ y).setCell ⟨B, 2, none⟩ z) :=
  ((h.setCell (p := ⟨B, 0, none⟩) hB x).setCell (p := ⟨B, 1, none⟩) hB y).setCell (p := ⟨B, 2, none⟩) hB z
theorem signZ_any (v : Value) (s : Nat) (T x : Int) (w : World) (hx : NumZ w v s T x) :
    Calls Try.prog 10 #[v] w fun e' w' => e' = .returned (.int .i64 (sgi x)) ∧ Below w.heap.size w w' := by
  obtain ⟨nx, mx, ex, h1, h2, h3, h4⟩ := hx
  refine (sign_any v nx mx ex w h1).mono ?_
  rintro e' w' ⟨rfl, hB⟩
  exact ⟨by rw [← h4, sgi_zv], hB⟩
theorem alloc2_facts (w : World) (o1 o2 : Obj) : ((w.alloc o1).alloc o2).heap[w.heap.size]? = some o1 ∧ ((w.alloc o1).alloc o2).heap[w.heap.size + 1]? = some o2 ∧ ((w.alloc o1).alloc o2).heap.size = w.heap.size + 2 ∧ Below w.heap.size w ((w.alloc o1).alloc o2) := by
  have e1 := heap_alloc_new w o1
  have e2 := heap_alloc_new (w.alloc o1) o2
  rw [show (w.alloc o1).heap.size = w.heap.size + 1 by simp] at e2
  exact ⟨by rw [Below.heap_alloc _ _ _ (by simp), e1], e2, by simp, ((Below.refl _ _).alloc (Nat.le_refl _) _).alloc (by simp) _⟩
def TimesRes (nx ny : Bool) (mx my : Nat) (ex ey : Int) (w : World) (e' : Ending) (w' : World) : Prop := ∃ v' neg e, e' = .returned v' ∧ NumV w' v' neg (mx * my) e ∧ (mx * my = 0 → e = 0) ∧ (mx * my ≠ 0 → neg = (nx != ny) ∧ e = ex + ey) ∧ Below w.heap.size w w'
end Go.Proofs.Ytmeechafeeaenaa
