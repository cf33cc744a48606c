import Derived.Test.YtbjnkefjlaplkaaMN
import Derived.Deep.RegionHeld3
import Derived.Test.YtbjnkefjlaplkaaPur
import Derived.BigRegion
namespace Go.Proofs.Ytbjnkefjlaplkaa
open Go.RowKit
set_option linter.unusedVariables false

theorem rd4_none' (w : World) : Rd4 w none 0 0 [] := Rd4.none w
/-- Two numbers brought to one power of 2. -/
def LevelOf (mx : Nat) (ex : Int) (my : Nat) (ey : Int) (A B : Nat) (e : Int) : Prop :=
  (mx = 0 ∧ A = 0 ∧ B = my ∧ e = ey) ∨ (mx ≠ 0 ∧ my = 0 ∧ A = mx ∧ B = 0 ∧ e = ex) ∨ (mx ≠ 0 ∧ my ≠ 0 ∧ e = min ex ey ∧ A = mx * 2 ^ (ex - e).toNat ∧ B = my * 2 ^ (ey - e).toNat)
def LevelRes (mx : Nat) (ex : Int) (my : Nat) (ey : Int) (w : World) (e' : Ending) (w' : World) : Prop :=
  ∃ a1 l1 c1 xs a2 l2 c2 ys A B e, e' = .returned (.tuple #[.slice a1 l1 c1, .slice a2 l2 c2, .int .i64 e]) ∧ Rd4 w' a1 l1 c1 xs ∧ Rd4 w' a2 l2 c2 ys ∧ Nm xs ∧ Nm ys ∧ dig xs = A ∧ dig ys = B ∧ LevelOf mx ex my ey A B e ∧ Below w.heap.size w w'
set_option maxRecDepth 100000 in
set_option maxHeartbeats 1000000 in
theorem level_any (v u : Value) (nx ny : Bool) (mx my : Nat) (ex ey : Int) (w : World) (hx : NumV w v nx mx ex) (hy : NumV w u ny my ey) (hex : -20000 ≤ ex ∧ ex ≤ 20000) (hey : -20000 ≤ ey ∧ ey ≤ 20000) (hbx : bl mx ≤ 100000) (hby : bl my ≤ 100000) :
    Calls Try.prog 41 #[v, u] w fun e' w' => LevelRes mx ex my ey w e' w' := by
  obtain ⟨ao, len, cap, xs, rfl, hr, hnm, hm⟩ := hx
  obtain ⟨bo, blen, bcap, ys, rfl, hr2, hnm2, hm2⟩ := hy
  have hz := len_zero hr.length hr.lt hnm
  have hz2 := len_zero hr2.length hr2.lt hnm2
  rw [hm] at hz
  rw [hm2] at hz2
  have hl : len ≤ 10000 := by have := len_bl hr.length hr.lt hnm; rw [hm] at this; omega
  have hl2 : blen ≤ 10000 := by have := len_bl hr2.length hr2.lt hnm2; rw [hm2] at this; omega
  have hbel : ∀ o1 o2 : Obj, Below w.heap.size w ((w.alloc o1).alloc o2) := fun o1 o2 => ((Below.refl _ _).alloc (Nat.le_refl _) _).alloc (by simp) _
  have HR : Hid _ := hr
  have HR2 : Hid _ := hr2
  have HB : Hid _ := hbel
  clear hr hr2 hbel
  by_cases h0 : mx = 0
  · have hl0 : len = 0 := hz.2 h0
    subst hl0
    clear hz hz2
    go_enter Try.func41, Try.ntmps41
    go_wp2_with fail
    go_region
    go_wp2_with fail
    go_ret3
    exact ⟨none, 0, 0, [], bo, blen, bcap, ys, 0, my, ey, rfl, rd4_none' _, HR2.out.later (HB.out _ _).drew, .inl rfl, hnm2, rfl, hm2, .inl ⟨h0, rfl, rfl, rfl⟩, (HB.out _ _).drew⟩
  · have hb0 : ((len : Int) == 0) = false := by rw [beq_eq_false_iff_ne]; omega
    by_cases h1 : my = 0
    · have hl0 : blen = 0 := hz2.2 h1
      subst hl0
      clear hz hz2
      go_enter Try.func41, Try.ntmps41
      go_wp2_with fail
      go_region
      go_wp2_with fail
      go_ret3
      exact ⟨ao, len, cap, xs, none, 0, 0, [], mx, 0, ex, rfl, HR.out.later (HB.out _ _).drew, rd4_none' _, hnm, .inl rfl, hm, rfl, .inr (.inl ⟨h0, h1, rfl, rfl, rfl⟩), (HB.out _ _).drew⟩
    · have hb1 : ((blen : Int) == 0) = false := by rw [beq_eq_false_iff_ne]; omega
      clear hz hz2
      have q0 : ((w.alloc (Obj.cells #[Value.bool nx, Value.slice ao len cap, Value.int IntKind.i64 ex] 60)).alloc (Obj.cells #[Value.bool ny, Value.slice bo blen bcap, Value.int IntKind.i64 ey] 60)).heap[w.heap.size]? = some (Obj.cells #[Value.bool nx, Value.slice ao len cap, Value.int IntKind.i64 ex] 60) := by rw [Below.heap_alloc _ _ _ (by simp)]; exact heap_alloc_new w _
      have q1 : ((w.alloc (Obj.cells #[Value.bool nx, Value.slice ao len cap, Value.int IntKind.i64 ex] 60)).alloc (Obj.cells #[Value.bool ny, Value.slice bo blen bcap, Value.int IntKind.i64 ey] 60)).heap[w.heap.size + 1]? = some (Obj.cells #[Value.bool ny, Value.slice bo blen bcap, Value.int IntKind.i64 ey] 60) := by
        have h := heap_alloc_new (w.alloc (Obj.cells #[Value.bool nx, Value.slice ao len cap, Value.int IntKind.i64 ex] 60)) (Obj.cells #[Value.bool ny, Value.slice bo blen bcap, Value.int IntKind.i64 ey] 60)
        rw [show (w.alloc (Obj.cells #[Value.bool nx, Value.slice ao len cap, Value.int IntKind.i64 ex] 60)).heap.size = w.heap.size + 1 by simp] at h
        exact h
      have HBW : Hid (Below w.heap.size w ((w.alloc (Obj.cells #[Value.bool nx, Value.slice ao len cap, Value.int IntKind.i64 ex] 60)).alloc (Obj.cells #[Value.bool ny, Value.slice bo blen bcap, Value.int IntKind.i64 ey] 60))) := HB.out _ _
      have HZ : Hid (((w.alloc (Obj.cells #[Value.bool nx, Value.slice ao len cap, Value.int IntKind.i64 ex] 60)).alloc (Obj.cells #[Value.bool ny, Value.slice bo blen bcap, Value.int IntKind.i64 ey] 60)).heap.size = w.heap.size + 2) := by unfold Hid; simp
      obtain ⟨x0, x1, x2⟩ := three_cells q0
      obtain ⟨y0, y1, y2⟩ := three_cells q1
      clear q0 q1 HB
      by_cases h2 : ey < ex
      · obtain ⟨d, hd⟩ : ∃ d : Nat, (ex - ey).toNat = d := ⟨_, rfl⟩
        have hdi : ex - ey = (d : Int) := by omega
        have hwr : IntKind.i64.wrap (d : Int) = (d : Int) := by rw [IntKind.wrap_i64]; omega
        go_enter Try.func41, Try.ntmps41
        go_wp2_with fail
        generalize ((w.alloc (Obj.cells #[Value.bool nx, Value.slice ao len cap, Value.int IntKind.i64 ex] 60)).alloc (Obj.cells #[Value.bool ny, Value.slice bo blen bcap, Value.int IntKind.i64 ey] 60)) = wa at *
        go_region_held3 (fun w' => w'.cell? ⟨w.heap.size, 1, none⟩ = some (.slice ao len cap) ∧ w'.cell? ⟨w.heap.size, 2, none⟩ = some (.int .i64 ex) ∧ w'.cell? ⟨w.heap.size + 1, 1, none⟩ = some (.slice bo blen bcap) ∧ w'.cell? ⟨w.heap.size + 1, 2, none⟩ = some (.int .i64 ey)) (go_keep)
          (first | (go_at_call 70; refine (left_any ao len cap xs d _ ?_ (by omega) hl).mono ?_; exact HR.out.later HBW.out.drew; rintro ee ww ⟨ao', k, cap', zs, rfl, hr3, hn3, hd3, hb3, hk3⟩; have z1 := (hb3.cell (p := ⟨w.heap.size, 1, none⟩) (by show w.heap.size < wa.heap.size; rw [HZ.out]; omega)).trans x1; have z2 := (hb3.cell (p := ⟨w.heap.size, 2, none⟩) (by show w.heap.size < wa.heap.size; rw [HZ.out]; omega)).trans x2; have z3 := (hb3.cell (p := ⟨w.heap.size + 1, 1, none⟩) (by show w.heap.size + 1 < wa.heap.size; rw [HZ.out]; omega)).trans y1; have z4 := (hb3.cell (p := ⟨w.heap.size + 1, 2, none⟩) (by show w.heap.size + 1 < wa.heap.size; rw [HZ.out]; omega)).trans y2; have HB3 : Hid _ := hb3; have HRD : Hid _ := hr3; clear hb3 hr3))
        all_goals go_wp2_with fail
        all_goals
          have HBF : Hid (Below w.heap.size w ww) := HBW.out.drew.trans (HB3.out.mono (by show w.heap.size ≤ wa.heap.size; rw [HZ.out]; omega))
          go_ret3
          exact ⟨ao', k, cap', zs, bo, blen, bcap, ys, _, my, ey, rfl, HRD.out, HR2.out.later HBF.out, hn3, hnm2, rfl, hm2, .inr (.inr ⟨h0, h1, by omega, by rw [hd3, hm, hd], by rw [show (ey - ey).toNat = 0 by omega, Nat.pow_zero, Nat.mul_one]⟩), HBF.out⟩
      · obtain ⟨d, hd⟩ : ∃ d : Nat, (ey - ex).toNat = d := ⟨_, rfl⟩
        have hdi : ey - ex = (d : Int) := by omega
        have hwr : IntKind.i64.wrap (d : Int) = (d : Int) := by rw [IntKind.wrap_i64]; omega
        go_enter Try.func41, Try.ntmps41
        go_wp2_with fail
        generalize ((w.alloc (Obj.cells #[Value.bool nx, Value.slice ao len cap, Value.int IntKind.i64 ex] 60)).alloc (Obj.cells #[Value.bool ny, Value.slice bo blen bcap, Value.int IntKind.i64 ey] 60)) = wa at *
        go_region_held3 (fun w' => w'.cell? ⟨w.heap.size, 1, none⟩ = some (.slice ao len cap) ∧ w'.cell? ⟨w.heap.size, 2, none⟩ = some (.int .i64 ex) ∧ w'.cell? ⟨w.heap.size + 1, 1, none⟩ = some (.slice bo blen bcap) ∧ w'.cell? ⟨w.heap.size + 1, 2, none⟩ = some (.int .i64 ey)) (go_keep)
          (first | (go_at_call 70; refine (left_any bo blen bcap ys d _ ?_ (by omega) hl2).mono ?_; exact HR2.out.later HBW.out.drew; rintro ee ww ⟨ao', k, cap', zs, rfl, hr3, hn3, hd3, hb3, hk3⟩; have z1 := (hb3.cell (p := ⟨w.heap.size, 1, none⟩) (by show w.heap.size < wa.heap.size; rw [HZ.out]; omega)).trans x1; have z2 := (hb3.cell (p := ⟨w.heap.size, 2, none⟩) (by show w.heap.size < wa.heap.size; rw [HZ.out]; omega)).trans x2; have z3 := (hb3.cell (p := ⟨w.heap.size + 1, 1, none⟩) (by show w.heap.size + 1 < wa.heap.size; rw [HZ.out]; omega)).trans y1; have z4 := (hb3.cell (p := ⟨w.heap.size + 1, 2, none⟩) (by show w.heap.size + 1 < wa.heap.size; rw [HZ.out]; omega)).trans y2; have HB3 : Hid _ := hb3; have HRD : Hid _ := hr3; clear hb3 hr3))
        all_goals go_wp2_with fail
        all_goals
          have HBF : Hid (Below w.heap.size w ww) := HBW.out.drew.trans (HB3.out.mono (by show w.heap.size ≤ wa.heap.size; rw [HZ.out]; omega))
          go_ret3
          exact ⟨ao, len, cap, xs, ao', k, cap', zs, mx, _, ex, rfl, HR.out.later HBF.out, HRD.out, hnm, hn3, hm, rfl, .inr (.inr ⟨h0, h1, by omega, by rw [show (ex - ex).toNat = 0 by omega, Nat.pow_zero, Nat.mul_one], by rw [hd3, hm2, hd]⟩), HBF.out⟩
end Go.Proofs.Ytbjnkefjlaplkaa

namespace Go.Proofs.Ytbjnkefjlaplkaa
open Go.RowKit
set_option linter.unusedVariables false

/-- v is the real z 2^-s, below 2^T. -/
def NumZ (w : World) (v : Value) (s : Nat) (T : Int) (z : Int) : Prop := ∃ neg m e, NumV w v neg m e ∧ -(s : Int) ≤ e ∧ (bl m : Int) + e ≤ T ∧ zv s neg m e = z
theorem NumZ.later {w w' : World} {v : Value} {s : Nat} {T z : Int} (h : NumZ w v s T z) (hb : Below w.heap.size w w') : NumZ w' v s T z := by
  obtain ⟨neg, m, e, h1, h2⟩ := h
  exact ⟨neg, m, e, h1.later hb, h2⟩
theorem NumZ.more {w : World} {v : Value} {s : Nat} {T z : Int} (h : NumZ w v s T z) (k : Nat) : NumZ w v (s + k) T (z * ((2 ^ k : Nat) : Int)) := by
  obtain ⟨neg, m, e, h1, h2, h3, h4⟩ := h
  exact ⟨neg, m, e, h1, by omega, h3, by rw [zv_more k neg m h2, h4]⟩
theorem NumZ.mono {w : World} {v : Value} {s : Nat} {T T' z : Int} (h : NumZ w v s T z) (hT : T ≤ T') : NumZ w v s T' z := by
  obtain ⟨neg, m, e, h1, h2, h3, h4⟩ := h
  exact ⟨neg, m, e, h1, h2, by omega, h4⟩

/-- What a sum's parts are. -/
def PlusOk (nx : Bool) (mx : Nat) (ex : Int) (ny : Bool) (my : Nat) (ey : Int) (neg : Bool) (m : Nat) (e : Int) : Prop :=
  ∀ (s : Nat) (T : Int), -(s : Int) ≤ ex → -(s : Int) ≤ ey → (bl mx : Int) + ex ≤ T → (bl my : Int) + ey ≤ T → 0 ≤ T → -(s : Int) ≤ e ∧ (bl m : Int) + e ≤ T + 1 ∧ zv s neg m e = zv s nx mx ex + zv s ny my ey
theorem plus_left {nx : Bool} {mx : Nat} {ex : Int} {ny : Bool} {my : Nat} {ey : Int} (h : mx = 0) : PlusOk nx mx ex ny my ey ny my ey := by
  intro s T h1 h2 h3 h4 h5
  refine ⟨h2, by omega, ?_⟩
  rw [h, zv_zero, Int.zero_add]
theorem plus_right {nx : Bool} {mx : Nat} {ex : Int} {ny : Bool} {my : Nat} {ey : Int} (h : my = 0) : PlusOk nx mx ex ny my ey nx mx ex := by
  intro s T h1 h2 h3 h4 h5
  refine ⟨h1, by omega, ?_⟩
  rw [h, zv_zero, Int.add_zero]
theorem level_zv {mx : Nat} {ex : Int} {my : Nat} {ey : Int} {A B : Nat} {e : Int} (hL : LevelOf mx ex my ey A B e) (hx : mx ≠ 0) (hy : my ≠ 0) (s : Nat) (T : Int) (h1 : -(s : Int) ≤ ex) (h2 : -(s : Int) ≤ ey) (h3 : (bl mx : Int) + ex ≤ T) (h4 : (bl my : Int) + ey ≤ T) :
    -(s : Int) ≤ e ∧ (∀ g, zv s g mx ex = zv s g A e) ∧ (∀ g, zv s g my ey = zv s g B e) ∧ (bl A : Int) + e ≤ T ∧ (bl B : Int) + e ≤ T := by
  rcases hL with ⟨h, -⟩ | ⟨-, h, -⟩ | ⟨-, -, he, hA, hB⟩
  · exact absurd h hx
  · exact absurd h hy
  · have b1 := bl_mul_pow mx (ex - e).toNat
    have b2 := bl_mul_pow my (ey - e).toNat
    rw [← hA] at b1
    rw [← hB] at b2
    refine ⟨by omega, fun g => ?_, fun g => ?_, by omega, by omega⟩
    · rw [hA]; exact zv_down g mx (by omega) (by omega)
    · rw [hB]; exact zv_down g my (by omega) (by omega)
theorem plus_same {g : Bool} {mx : Nat} {ex : Int} {my : Nat} {ey : Int} {A B : Nat} {e : Int} (hL : LevelOf mx ex my ey A B e) (hx : mx ≠ 0) (hy : my ≠ 0) : PlusOk g mx ex g my ey g (A + B) e := by
  intro s T h1 h2 h3 h4 h5
  obtain ⟨k1, k2, k3, k4, k5⟩ := level_zv hL hx hy s T h1 h2 h3 h4
  have := bl_add A B
  exact ⟨k1, by omega, by rw [k2, k3, zv_add]⟩
theorem plus_ge {g : Bool} {mx : Nat} {ex : Int} {my : Nat} {ey : Int} {A B : Nat} {e : Int} (hL : LevelOf mx ex my ey A B e) (hx : mx ≠ 0) (hy : my ≠ 0) (hB : B ≤ A) : PlusOk g mx ex (!g) my ey g (A - B) e := by
  intro s T h1 h2 h3 h4 h5
  obtain ⟨k1, k2, k3, k4, k5⟩ := level_zv hL hx hy s T h1 h2 h3 h4
  have := bl_mono (show A - B ≤ A by omega)
  exact ⟨k1, by omega, by rw [k2, k3, zv_sub _ _ _ hB]⟩
theorem plus_lt {g : Bool} {mx : Nat} {ex : Int} {my : Nat} {ey : Int} {A B : Nat} {e : Int} (hL : LevelOf mx ex my ey A B e) (hx : mx ≠ 0) (hy : my ≠ 0) (hB : A ≤ B) : PlusOk g mx ex (!g) my ey (!g) (B - A) e := by
  intro s T h1 h2 h3 h4 h5
  obtain ⟨k1, k2, k3, k4, k5⟩ := level_zv hL hx hy s T h1 h2 h3 h4
  have := bl_mono (show B - A ≤ B by omega)
  exact ⟨k1, by omega, by rw [k2, k3, zv_sub _ _ _ hB, Bool.not_not, Int.add_comm]⟩
theorem plus_eq {g : Bool} {mx : Nat} {ex : Int} {my : Nat} {ey : Int} {A B : Nat} {e : Int} (hL : LevelOf mx ex my ey A B e) (hx : mx ≠ 0) (hy : my ≠ 0) (hB : A = B) : PlusOk g mx ex (!g) my ey false 0 0 := by
  intro s T h1 h2 h3 h4 h5
  obtain ⟨k1, k2, k3, k4, k5⟩ := level_zv hL hx hy s T h1 h2 h3 h4
  refine ⟨by omega, by rw [bl_zero]; omega, ?_⟩
  rw [k2, k3, hB, zv_zero, zv_not]; omega
theorem level_ne {mx : Nat} {ex : Int} {my : Nat} {ey : Int} {A B : Nat} {e : Int} (hL : LevelOf mx ex my ey A B e) (hx : mx ≠ 0) (hy : my ≠ 0) : 0 < A ∧ 0 < B := by
  rcases hL with ⟨h, -⟩ | ⟨-, h, -⟩ | ⟨-, -, he, hA, hB⟩
  · exact absurd h hx
  · exact absurd h hy
  · rw [hA, hB]; exact ⟨Nat.mul_pos (by omega) (Nat.two_pow_pos _), Nat.mul_pos (by omega) (Nat.two_pow_pos _)⟩
def PlusRes (nx : Bool) (mx : Nat) (ex : Int) (ny : Bool) (my : Nat) (ey : Int) (w : World) (e' : Ending) (w' : World) : Prop :=
  ∃ v' neg m e, e' = .returned v' ∧ NumV w' v' neg m e ∧ (PlusOk nx mx ex ny my ey neg m e ∧ (m = 0 → (mx = 0 → ex = 0) → (my = 0 → ey = 0) → e = 0)) ∧ Below w.heap.size w w'
end Go.Proofs.Ytbjnkefjlaplkaa

namespace Go.Proofs.Ytbjnkefjlaplkaa
open Go.RowKit
set_option linter.unusedVariables false

theorem times_step {Z Z' W c x y o S Yk I P : Nat} (hW : 0 < W) (hS : S = c + x * y + o) (hset : Z' + W * o = Z + W * (S % 4294967296)) (h : Z + W * c = P + I * x * Yk) (wk : Nat) (hWk : W = I * wk) :
    Z' + 4294967296 * W * (S / 4294967296) = P + I * x * (Yk + wk * y) := by
  have e1 := Nat.div_add_mod S 4294967296
  have e2 : 4294967296 * W * (S / 4294967296) + W * (S % 4294967296) = W * S := by
    rw [Nat.mul_comm 4294967296 W, Nat.mul_assoc, ← Nat.mul_add, e1]
  have e3 : W * S = W * c + W * (x * y) + W * o := by rw [hS, Nat.mul_add, Nat.mul_add]
  have e4 : I * x * (Yk + wk * y) = I * x * Yk + W * (x * y) := by
    rw [Nat.mul_add, hWk]; congr 1
    rw [Nat.mul_assoc, Nat.mul_assoc]; congr 1
    rw [← Nat.mul_assoc, ← Nat.mul_assoc, Nat.mul_comm x wk]
  omega
set_option maxRecDepth 100000 in
set_option maxHeartbeats 2000000 in
theorem times_any (ao : Option Addr) (len cap : Nat) (xs : List Nat) (bo : Option Addr) (blen bcap : Nat) (ys : List Nat) (w : World) (hx : Rd4 w ao len cap xs) (hy : Rd4 w bo blen bcap ys) (hl : len ≤ 10000) (hl2 : blen ≤ 10000) :
    Calls Try.prog 45 #[.slice ao len cap, .slice bo blen bcap] w fun e w' => ∃ ao' k cap' zs, e = .returned (.slice ao' k cap') ∧ Rd4 w' ao' k cap' zs ∧ Nm zs ∧ dig zs = dig xs * dig ys ∧ Below w.heap.size w w' ∧ k ≤ len + blen := by
  have h1 := hx.le
  have h2 := hx.max
  have h3 := hy.le
  have h4 := hy.max
  obtain ⟨w1, hmk, hO, hB1⟩ := make4 w (len + blen) (by omega)
  have hmk' := hmk ((len : Int) + (blen : Int)) (by omega)
  have HX : Hid _ := hx
  have HY : Hid _ := hy
  have HO : Hid _ := hO
  have HB1 : Hid _ := hB1
  clear hmk hx hy hO hB1
  go_enter Try.func45, Try.ntmps45
  go_wp2_with fail
  go_loopg [6] len (fun gg i wx => ∃ (k : Nat) (zs : List Nat), k ≤ len ∧ i = .int .i64 k ∧ Hid (Own4 wx w.heap.size w.heap.size (len + blen) zs) ∧ Hid (Below w.heap.size w wx) ∧ Hid (U4 zs) ∧ Hid (dig zs = dig (xs.take k) * dig ys) ∧ Hid (∀ j, k + blen ≤ j → zs[j]?.getD 0 = 0) ∧ len ≤ k + gg)
  case atStart =>
    refine ⟨0, List.replicate (len + blen) 0, by omega, rfl, HO, HB1, ?_, ?_, ?_, by omega⟩
    · intro x hx; rw [List.eq_of_mem_replicate hx]; decide
    · unfold Hid; rw [dig_zeros]; simp [dig]
    · intro j _; rw [List.getElem?_replicate]; split <;> rfl
  case round =>
    obtain ⟨i, zs, hi, rfl, HOz, HBz, HUz, HDz, HZz, hfu⟩ := hrel
    by_cases hlt : i < len
    · obtain ⟨fu, rfl⟩ : ∃ g, gk = g + 1 := ⟨gk - 1, by omega⟩
      rcases HX.out.cells with hh | ⟨b, off, rfl, hc⟩
      · omega
      have HCX : Hid (w.cell? ⟨b, off + i, none⟩ = some (.int .u32 ((xs[i]?.getD 0 : Nat) : Int))) := hc i hlt
      have hxb := HX.out.lt.at i
      have HTX : Hid _ := dig_take_more (ys := xs) (k := i)
      clear hc
      generalize xs[i]?.getD 0 = x at *
      go_wp2_with fail
      go_loopg [7, 8] blen (fun gg c kk wx => ∃ (k cc : Nat) (zs' : List Nat), k ≤ blen ∧ kk = .int .i64 k ∧ c = .int .u64 cc ∧ cc < 4294967296 ∧ Hid (Own4 wx w.heap.size w.heap.size (len + blen) zs') ∧ Hid (Below w.heap.size w wx) ∧ Hid (U4 zs') ∧ Hid (dig zs' + wd (i + k) * cc = dig (xs.take i) * dig ys + wd i * x * dig (ys.take k)) ∧ Hid (∀ j, i + blen ≤ j → zs'[j]?.getD 0 = 0) ∧ blen ≤ k + gg)
      case atStart =>
        refine ⟨0, 0, zs, by omega, rfl, rfl, by omega, HOz, HBz, HUz, ?_, HZz, by omega⟩
        unfold Hid; rw [HDz.out]; simp [dig]
      case round =>
        obtain ⟨k, cc, zs', hk, rfl, rfl, hcc, HOy, HBy, HUy, HDy, HZy, hfu2⟩ := hrel
        by_cases hlt2 : k < blen
        · obtain ⟨fu2, rfl⟩ : ∃ g, gk = g + 1 := ⟨gk - 1, by omega⟩
          rcases HY.out.cells with hh | ⟨b2, off2, rfl, hc2⟩
          · omega
          have g := (HBy.out.cell (World.block_lt_of_cell? w _ HCX.out)).trans HCX.out
          have g2 := (HBy.out.cell (World.block_lt_of_cell? w _ (hc2 k hlt2))).trans (hc2 k hlt2)
          have hyb := HY.out.lt.at k
          obtain ⟨J, hJ⟩ : ∃ J : Nat, i + k = J := ⟨_, rfl⟩
          have gz := HOy.out.cell J (by omega)
          have hob := HUy.out.at J
          have gf := HOy.out.frozen J
          have HSET : Hid _ := HOy.out.set J
          have HTY : Hid _ := dig_take_more (ys := ys) (k := k)
          have HDS : Hid (∀ v, dig (zs'.set J v) + wd J * zs'[J]?.getD 0 = dig zs' + wd J * v) := fun v => dig_set (by rw [HOy.out.1]; omega)
          clear hc2
          generalize ys[k]?.getD 0 = y at *
          generalize zs'[J]?.getD 0 = o at *
          obtain ⟨P, hP⟩ : ∃ P : Nat, x * y = P := ⟨_, rfl⟩
          have hPi : (x : Int) * (y : Int) = (P : Int) := by rw [← hP, Int.natCast_mul]
          have hPb : P ≤ 18446744065119617025 := by
            rw [← hP]; exact Nat.mul_le_mul (show x ≤ 4294967295 by omega) (show y ≤ 4294967295 by omega)
          obtain ⟨S, hS⟩ : ∃ S : Nat, cc + P + o = S := ⟨_, rfl⟩
          have hSi : (cc : Int) + P + o = (S : Int) := by omega
          have hSb : S < 18446744073709551616 := by omega
          have hkk : (i : Int) + (k : Int) = (J : Int) := by omega
          have HJ : Hid (i + k = J) := hJ
          have hJb : J < len + blen := by omega
          have HS0 : Hid _ := hS
          have HP0 : Hid _ := hP
          obtain ⟨Q, hQ⟩ : ∃ Q : Nat, cc + P = Q := ⟨_, rfl⟩
          have hw1 : IntKind.u64.wrap ((x : Int) * (y : Int)) = (P : Int) := by rw [hPi, IntKind.wrap_u64]; omega
          have hw2 : IntKind.u64.wrap ((cc : Int) + (P : Int)) = (Q : Int) := by rw [IntKind.wrap_u64]; omega
          have hw3 : IntKind.u64.wrap ((Q : Int) + (o : Int)) = (S : Int) := by rw [IntKind.wrap_u64]; omega
          have hw4 : IntKind.i64.wrap ((i : Int) + (k : Int)) = (J : Int) := by rw [IntKind.wrap_i64]; omega
          have hw5 : IntKind.i64.wrap (J : Int) = (J : Int) := by rw [IntKind.wrap_i64]; omega
          clear hS hP hQ hSi hPi hJ
          go_wp2_with fail
          go_region
          go_wp2_with fail
          go_roundg fu2
          case rel =>
            refine ⟨k + 1, S / 4294967296, zs'.set J (S % 4294967296), by omega, by go_num, by go_num, by omega, HSET.out _, (below_set HBy.out (Nat.le_refl _)).drew, HUy.out.set _ _ (Nat.mod_lt _ (by decide)), ?_, ?_, by omega⟩
            · unfold Hid
              have hDy := HDy.out
              rw [HJ.out] at hDy
              rw [HTY.out, ← Nat.add_assoc, HJ.out, wd_succ]
              exact times_step (wd_pos _) (by rw [HP0.out, HS0.out]) (HDS.out _) hDy (wd k) (by rw [← HJ.out, wd_add])
            · intro j hj
              rw [List.getElem?_set, if_neg (by have := HJ.out; omega)]; exact HZy.out j hj
          case measure => omega
        · obtain rfl : k = blen := by omega
          obtain ⟨J, hJ⟩ : ∃ J : Nat, i + k = J := ⟨_, rfl⟩
          have gz := HOy.out.cell J (by omega)
          rw [HZy.out J (by omega)] at gz
          have gf := HOy.out.frozen J
          have HSET : Hid _ := HOy.out.set J cc
          have HDF : Hid (dig (zs'.set J cc) = dig (xs.take (i + 1)) * dig ys) := by
            unfold Hid
            have e1 := dig_set (xs := zs') (k := J) (v := cc) (by rw [HOy.out.1]; omega)
            have hDy := HDy.out
            rw [hJ] at hDy
            rw [HZy.out J (by omega), Nat.mul_zero, Nat.add_zero, hDy, List.take_of_length_le (l := ys) (by rw [HY.out.length]; omega)] at e1
            rw [e1, HTX.out, Nat.add_mul]
          have hkk : (i : Int) + (k : Int) = (J : Int) := by omega
          have HJ : Hid (i + k = J) := hJ
          have hJb : J < len + k := by omega
          have hw4 : IntKind.i64.wrap ((i : Int) + (k : Int)) = (J : Int) := by rw [IntKind.wrap_i64]; omega
          clear hJ
          have hcm : (cc : Int) % 4294967296 = (cc : Int) := by omega
          go_wp2_with fail
          go_roundg fu
          case rel =>
            refine ⟨i + 1, zs'.set J cc, by omega, by go_num, HSET, below_set HBy.out (Nat.le_refl _), HUy.out.set _ _ hcc, HDF, ?_, by omega⟩
            intro j hj
            rw [List.getElem?_set, if_neg (by have := HJ.out; omega)]; exact HZy.out j (by omega)
          case measure => omega
    · obtain rfl : i = len := by omega
      have HDF : Hid (dig zs = dig xs * dig ys) := by
        unfold Hid; rw [HDz.out, List.take_of_length_le (by rw [HX.out.length]; omega)]
      go_wp2_with fail
      refine (trim_any _ _ _ zs _ (Own4.rd HOz.out HUz.out (by omega))).mono ?_
      rintro e w' ⟨ao', m, rfl, rfl, hr', hm', hnm, hdg⟩
      go_wp2_with fail
      go_ret
      exact ⟨ao', m, _, _, rfl, hr', hnm, by rw [hdg, HDF.out], HBz.out, by omega⟩
end Go.Proofs.Ytbjnkefjlaplkaa

namespace Go.Proofs.Ytbjnkefjlaplkaa
open Go.RowKit
set_option linter.unusedVariables false

theorem alloc3_facts (w : World) (o1 o2 o3 : Obj) : (((w.alloc o1).alloc o2).alloc o3).heap[w.heap.size]? = some o1 ∧ (((w.alloc o1).alloc o2).alloc o3).heap[w.heap.size + 1]? = some o2 ∧ (((w.alloc o1).alloc o2).alloc o3).heap[w.heap.size + 1 + 1]? = some o3 ∧ (((w.alloc o1).alloc o2).alloc o3).heap.size = w.heap.size + 3 ∧ Below w.heap.size w (((w.alloc o1).alloc o2).alloc o3) := by
  have e1 := heap_alloc_new w o1
  have e2 := heap_alloc_new (w.alloc o1) o2
  have e3 := heap_alloc_new ((w.alloc o1).alloc o2) o3
  rw [show (w.alloc o1).heap.size = w.heap.size + 1 by simp] at e2
  rw [show ((w.alloc o1).alloc o2).heap.size = w.heap.size + 1 + 1 by simp] at e3
  refine ⟨?_, ?_, e3, by simp, (((Below.refl _ _).alloc (Nat.le_refl _) _).alloc (by simp) _).alloc (by simp; omega) _⟩
  · rw [Below.heap_alloc _ _ _ (by simp; omega), Below.heap_alloc _ _ _ (by simp), e1]
  · rw [Below.heap_alloc _ _ _ (by simp), e2]
theorem level_bounds {mx : Nat} {ex : Int} {my : Nat} {ey : Int} {A B : Nat} {e : Int} (hL : LevelOf mx ex my ey A B e) (hex : -20000 ≤ ex ∧ ex ≤ 20000) (hey : -20000 ≤ ey ∧ ey ≤ 20000) (hbx : bl mx ≤ 40000) (hby : bl my ≤ 40000) :
    bl A ≤ 80000 ∧ bl B ≤ 80000 ∧ (mx = 0 → A = 0) ∧ (mx ≠ 0 → A ≠ 0) ∧ (mx ≠ 0 → my = 0 → B = 0) ∧ (mx ≠ 0 → my ≠ 0 → B ≠ 0) := by
  rcases hL with ⟨h, hA, hB, he⟩ | ⟨h, h2, hA, hB, he⟩ | ⟨h1, h2, he, hA, hB⟩
  · subst hA hB
    exact ⟨by rw [bl_zero]; omega, by omega, fun _ => rfl, fun c => absurd h c, fun c => absurd h c, fun c => absurd h c⟩
  · subst hA hB
    exact ⟨by omega, by rw [bl_zero]; omega, fun c => c, fun c => c, fun _ _ => rfl, fun _ c => absurd h2 c⟩
  · have b1 := bl_mul_pow mx (ex - e).toNat
    have b2 := bl_mul_pow my (ey - e).toNat
    rw [← hA] at b1
    rw [← hB] at b2
    refine ⟨by omega, by omega, fun c => absurd c h1, fun _ => ?_, fun _ c => absurd c h2, fun _ _ => ?_⟩
    · rw [hA]; exact Nat.mul_ne_zero h1 (by have := Nat.two_pow_pos (ex - e).toNat; omega)
    · rw [hB]; exact Nat.mul_ne_zero h2 (by have := Nat.two_pow_pos (ey - e).toNat; omega)
/-- What the last steps of a sum find in memory. -/
theorem out_facts {w w2 w4 : World} {nx : Bool} {e : Int} (M : Value) (hsz : w.heap.size + 3 ≤ w2.heap.size) (q2 : w2.heap[w.heap.size + 1 + 1]? = some (Obj.cells #[Value.bool false, Value.slice none 0 0, Value.int IntKind.i64 0] 60)) (hb4 : Below (w2.alloc (Obj.cells #[Value.bool nx, Value.slice none 0 0, Value.int IntKind.i64 e] 60)).heap.size (w2.alloc (Obj.cells #[Value.bool nx, Value.slice none 0 0, Value.int IntKind.i64 e] 60)) w4) :
    w4.heap[w2.heap.size]? = some (Obj.cells #[Value.bool nx, Value.slice none 0 0, Value.int IntKind.i64 e] 60) ∧ w4.heap[w.heap.size + 1 + 1]? = some (Obj.cells #[Value.bool false, Value.slice none 0 0, Value.int IntKind.i64 0] 60) ∧
    (w4.setCell ⟨w2.heap.size, 1, none⟩ M).heap[w2.heap.size]? = some (Obj.cells #[Value.bool nx, M, Value.int IntKind.i64 e] 60) ∧ (w4.setCell ⟨w2.heap.size, 1, none⟩ M).heap[w.heap.size + 1 + 1]? = some (Obj.cells #[Value.bool false, Value.slice none 0 0, Value.int IntKind.i64 0] 60) := by
  have h1 : w4.heap[w2.heap.size]? = some (Obj.cells #[Value.bool nx, Value.slice none 0 0, Value.int IntKind.i64 e] 60) := (hb4.block w2.heap.size (by simp)).trans (heap_alloc_new w2 _)
  have h2 : w4.heap[w.heap.size + 1 + 1]? = some (Obj.cells #[Value.bool false, Value.slice none 0 0, Value.int IntKind.i64 0] 60) := by
    rw [hb4.block (w.heap.size + 1 + 1) (by simp; omega), Below.heap_alloc _ _ _ (by omega)]; exact q2
  refine ⟨h1, h2, heap_setCell_same _ _ 1 _ _ M h1, ?_⟩
  rw [heap_setCell_other _ _ _ _ (by show w.heap.size + 1 + 1 ≠ w2.heap.size; omega)]; exact h2
set_option maxRecDepth 100000 in
set_option maxHeartbeats 1000000 in
theorem plusV_any (v u : Value) (nx ny : Bool) (mx my : Nat) (ex ey : Int) (w : World) (hx : NumV w v nx mx ex) (hy : NumV w u ny my ey) (hex : -20000 ≤ ex ∧ ex ≤ 20000) (hey : -20000 ≤ ey ∧ ey ≤ 20000) (hbx : bl mx ≤ 40000) (hby : bl my ≤ 40000) :
    Calls Try.prog 20 #[v, u] w fun e' w' => PlusRes nx mx ex ny my ey w e' w' := by
  obtain ⟨ao, len, cap, xs, rfl, hr, hnm, hm⟩ := hx
  obtain ⟨bo, blen, bcap, ys, rfl, hr2, hnm2, hm2⟩ := hy
  obtain ⟨p0, p1, p2, pz, pb⟩ := alloc3_facts w (Obj.cells #[Value.bool nx, Value.slice ao len cap, Value.int IntKind.i64 ex] 60) (Obj.cells #[Value.bool ny, Value.slice bo blen bcap, Value.int IntKind.i64 ey] 60) (Obj.cells #[Value.bool false, Value.slice none 0 0, Value.int IntKind.i64 0] 60)
  have P0 : Hid _ := p0
  have P1 : Hid _ := p1
  have P2 : Hid _ := p2
  have PZ : Hid _ := pz
  have PB : Hid _ := pb
  have HR : Hid _ := hr
  have HR2 : Hid _ := hr2
  clear p0 p1 p2 pz pb hr hr2
  go_enter Try.func20, Try.ntmps20
  go_wp2_with fail
  refine (level_any _ _ nx ny mx my ex ey _ ⟨ao, len, cap, xs, rfl, HR.out.later PB.out, hnm, hm⟩ ⟨bo, blen, bcap, ys, rfl, HR2.out.later PB.out, hnm2, hm2⟩ hex hey (by omega) (by omega)).mono ?_
  rintro e2 w2 ⟨a1, l1, c1, xs1, a2, l2, c2, ys1, A, B, e, rfl, r1, r2, n1, n2, d1, d2, hL, hb2⟩
  have q0 := (hb2.block w.heap.size (by rw [PZ.out]; omega)).trans P0.out
  have q1 := (hb2.block (w.heap.size + 1) (by rw [PZ.out]; omega)).trans P1.out
  have q2 := (hb2.block (w.heap.size + 1 + 1) (by rw [PZ.out]; omega)).trans P2.out
  have hsz : w.heap.size + 3 ≤ w2.heap.size := by have := hb2.size; rw [PZ.out] at this; exact this
  have HB2 : Hid (Below w.heap.size w w2) := PB.out.trans (hb2.mono (by rw [PZ.out]; omega))
  have R1 : Hid _ := r1
  have R2 : Hid _ := r2
  have HL : Hid (LevelOf mx ex my ey A B e) := hL
  obtain ⟨bA, bB, zA, nA, zB, nB⟩ := level_bounds hL hex hey hbx hby
  have hl1 : l1 ≤ 10000 := by have := len_bl r1.length r1.lt n1; rw [d1] at this; omega
  have hl2 : l2 ≤ 10000 := by have := len_bl r2.length r2.lt n2; rw [d2] at this; omega
  have lz1 := len_zero r1.length r1.lt n1
  have lz2 := len_zero r2.length r2.lt n2
  rw [d1] at lz1
  rw [d2] at lz2
  clear r1 r2 hL hb2
  have x0 := (three_cells q0).1
  have HB3 : Hid (Below w.heap.size w (w2.alloc (Obj.cells #[Value.bool nx, Value.slice none 0 0, Value.int IntKind.i64 e] 60))) := HB2.out.alloc HB2.out.size _
  have o0 : (w2.alloc (Obj.cells #[Value.bool nx, Value.slice none 0 0, Value.int IntKind.i64 e] 60)).heap[w.heap.size]? = some (Obj.cells #[Value.bool nx, Value.slice ao len cap, Value.int IntKind.i64 ex] 60) := by rw [Below.heap_alloc _ _ _ (by omega)]; exact q0
  have o1 : (w2.alloc (Obj.cells #[Value.bool nx, Value.slice none 0 0, Value.int IntKind.i64 e] 60)).heap[w.heap.size + 1]? = some (Obj.cells #[Value.bool ny, Value.slice bo blen bcap, Value.int IntKind.i64 ey] 60) := by rw [Below.heap_alloc _ _ _ (by omega)]; exact q1
  have o2 : (w2.alloc (Obj.cells #[Value.bool nx, Value.slice none 0 0, Value.int IntKind.i64 e] 60)).heap[w.heap.size + 1 + 1]? = some (Obj.cells #[Value.bool false, Value.slice none 0 0, Value.int IntKind.i64 0] 60) := by rw [Below.heap_alloc _ _ _ (by omega)]; exact q2
  obtain ⟨u0, u1, u2⟩ := three_cells o0
  obtain ⟨y0, y1, y2⟩ := three_cells o1
  obtain ⟨z0, z1, z2⟩ := three_cells o2
  have fz := fun j => frozen_of_row _ _ j _ _ o2
  have O2 : Hid _ := o2
  have hw2 : (w2.alloc (Obj.cells #[Value.bool nx, Value.slice none 0 0, Value.int IntKind.i64 e] 60)).heap.size = w2.heap.size + 1 := by simp
  have Q0 : Hid _ := q0
  have Q1 : Hid _ := q1
  have Q2 : Hid _ := q2
  clear q0 q1 q2 o0 o1 o2 P0 P1 P2 PZ PB
  by_cases h0 : mx = 0
  · have t1 : ((l1 : Int) == 0) = true := by rw [beq_iff_eq]; have := lz1.2 (zA h0); omega
    go_wp2_with fail
    refine bodyPost_ret (v := .agg #[.bool ny, .slice bo blen bcap, .int .i64 ey]) (res_num _ 4 (by kernel_rfl) _ _ (w.heap.size + 1 + 1) _ _ _ (by rfl) (set3_heap _ _ _ O2.out)) rfl ⟨_, ny, my, ey, rfl, ?_, ⟨plus_left h0, fun c _ hy => hy c⟩, ?_⟩
    · exact ⟨bo, blen, bcap, ys, rfl, rd4_set3 _ _ _ ⟨_, _, _, _, _, O2.out⟩ (HR2.out.later HB3.out), hnm2, hm2⟩
    · exact ((HB3.out.setCell (by show w.heap.size ≤ w.heap.size + 1 + 1; omega) _).setCell (by show w.heap.size ≤ w.heap.size + 1 + 1; omega) _).setCell (by show w.heap.size ≤ w.heap.size + 1 + 1; omega) _
  by_cases h1 : my = 0
  · have t1 : ((l1 : Int) == 0) = false := by rw [beq_eq_false_iff_ne]; have := nA h0; omega
    have t2 : ((l2 : Int) == 0) = true := by rw [beq_iff_eq]; have := lz2.2 (zB h0 h1); omega
    go_wp2_with fail
    refine bodyPost_ret (v := .agg #[.bool nx, .slice ao len cap, .int .i64 ex]) (res_num _ 4 (by kernel_rfl) _ _ (w.heap.size + 1 + 1) _ _ _ (by rfl) (set3_heap _ _ _ O2.out)) rfl ⟨_, nx, mx, ex, rfl, ?_, ⟨plus_right h1, fun c hx _ => hx c⟩, ?_⟩
    · exact ⟨ao, len, cap, xs, rfl, rd4_set3 _ _ _ ⟨_, _, _, _, _, O2.out⟩ (HR.out.later HB3.out), hnm, hm⟩
    · exact ((HB3.out.setCell (by show w.heap.size ≤ w.heap.size + 1 + 1; omega) _).setCell (by show w.heap.size ≤ w.heap.size + 1 + 1; omega) _).setCell (by show w.heap.size ≤ w.heap.size + 1 + 1; omega) _
  have t1 : ((l1 : Int) == 0) = false := by rw [beq_eq_false_iff_ne]; have := nA h0; omega
  have t2 : ((l2 : Int) == 0) = false := by rw [beq_eq_false_iff_ne]; have := nB h0 h1; omega
  have R1' : Hid _ := R1.out.later ((Below.refl _ _).alloc (Nat.le_refl _) (Obj.cells #[Value.bool nx, Value.slice none 0 0, Value.int IntKind.i64 e] 60))
  have R2' : Hid _ := R2.out.later ((Below.refl _ _).alloc (Nat.le_refl _) (Obj.cells #[Value.bool nx, Value.slice none 0 0, Value.int IntKind.i64 e] 60))
  by_cases hs : nx = ny
  · subst hs
    have t3 : (nx == nx) = true := by simp
    go_wp2_with fail
    refine (plus_any a1 l1 c1 xs1 a2 l2 c2 ys1 _ R1'.out R2'.out hl1 hl2).mono ?_
    rintro e4 w4 ⟨ao', k, cap', zs, rfl, r4, n4, d4, hb4, k4⟩
    have hk : ((k : Int) == 0) = false := by
      rw [beq_eq_false_iff_ne]; have := len_zero r4.length r4.lt n4; rw [d4, d1] at this; have := nA h0; omega
    obtain ⟨g1, g2, g3, g4⟩ := out_facts (Value.slice ao' k cap') hsz Q2.out hb4
    obtain ⟨c10, c11, c12⟩ := three_cells g1
    obtain ⟨c40, c41, c42⟩ := three_cells g4
    have f1 := fun j => frozen_of_row _ _ j _ _ g1
    obtain ⟨c30, c31, c32⟩ := three_cells g3
    have f4 := fun j => frozen_of_row _ _ j _ _ g4
    have HB5 : Hid (Below w.heap.size w (w4.setCell ⟨w2.heap.size, 1, none⟩ (Value.slice ao' k cap'))) := (HB3.out.trans (hb4.mono (by rw [hw2]; have := HB2.out.size; omega))).setCell (by show w.heap.size ≤ w2.heap.size; omega) _
    have R5 : Hid (Rd4 (w4.setCell ⟨w2.heap.size, 1, none⟩ (Value.slice ao' k cap')) ao' k cap' zs) := rd4_other (w := w4) (B := w2.heap.size) ⟨_, _, _, _, _, g1⟩ (fun b hb => heap_setCell_other _ _ _ _ hb) r4
    have G4 : Hid _ := g4
    clear g1 g2 g3 g4 r4 hb4
    go_wp2_with fail
    refine bodyPost_ret (v := .agg #[.bool nx, .slice ao' k cap', .int .i64 e]) (res_num _ 4 (by kernel_rfl) _ _ (w.heap.size + 1 + 1) _ _ _ (by rfl) (set3_heap _ _ _ G4.out)) rfl ⟨_, nx, A + B, e, rfl, ?_, ⟨plus_same HL.out h0 h1, fun c _ _ => absurd c (by have := level_ne HL.out h0 h1; omega)⟩, ?_⟩
    · exact ⟨ao', k, cap', zs, rfl, rd4_set3 _ _ _ ⟨_, _, _, _, _, G4.out⟩ R5.out, n4, by rw [d4, d1, d2]⟩
    · exact ((HB5.out.setCell (by show w.heap.size ≤ w.heap.size + 1 + 1; omega) _).setCell (by show w.heap.size ≤ w.heap.size + 1 + 1; omega) _).setCell (by show w.heap.size ≤ w.heap.size + 1 + 1; omega) _
  have hny : ny = !nx := by cases nx <;> cases ny <;> simp at hs ⊢
  subst hny
  have t3 : (nx == !nx) = false := by cases nx <;> rfl
  by_cases hAB : B ≤ A
  · have hc4 : 0 ≤ cmpN A B := by unfold cmpN; rw [if_neg (by omega)]; split <;> omega
    have hll : l2 ≤ l1 := by
      rcases Nat.lt_or_ge l1 l2 with h | h
      · have := shorter_lt R1.out.lt R2.out.lt n2 (by rw [R1.out.length, R2.out.length]; exact h); omega
      · exact h
    go_wp2_with fail
    refine (cmp_any a1 l1 c1 xs1 a2 l2 c2 ys1 _ R1'.out R2'.out n1 n2).mono ?_
    rintro e3 w3 ⟨rfl, hb3⟩
    rw [d1, d2]
    have R1'' : Hid _ := R1'.out.later hb3
    have R2'' : Hid _ := R2'.out.later hb3
    have hb3z := hb3.size
    have HBW : Hid _ := hb3
    clear hb3
    go_wp2_with fail
    refine (minus_any a1 l1 c1 xs1 a2 l2 c2 ys1 _ R1''.out R2''.out hl1 hll (by rw [d1, d2]; exact hAB)).mono ?_
    rintro e4 w4 ⟨ao', k, cap', zs, rfl, r4, n4, d4, hb4', k4⟩
    have hb4 : Below (w2.alloc (Obj.cells #[Value.bool nx, Value.slice none 0 0, Value.int IntKind.i64 e] 60)).heap.size (w2.alloc (Obj.cells #[Value.bool nx, Value.slice none 0 0, Value.int IntKind.i64 e] 60)) w4 := HBW.out.trans (hb4'.mono hb3z)
    clear hb4'
    have lz4 := len_zero r4.length r4.lt n4
    rw [d4, d1, d2] at lz4
    obtain ⟨g1, g2, g3, g4⟩ := out_facts (Value.slice ao' k cap') hsz Q2.out hb4
    obtain ⟨c10, c11, c12⟩ := three_cells g1
    obtain ⟨c40, c41, c42⟩ := three_cells g4
    have f1 := fun j => frozen_of_row _ _ j _ _ g1
    obtain ⟨c30, c31, c32⟩ := three_cells g3
    have f4 := fun j => frozen_of_row _ _ j _ _ g4
    have HB5 : Hid (Below w.heap.size w (w4.setCell ⟨w2.heap.size, 1, none⟩ (Value.slice ao' k cap'))) := (HB3.out.trans (hb4.mono (by rw [hw2]; have := HB2.out.size; omega))).setCell (by show w.heap.size ≤ w2.heap.size; omega) _
    have R5 : Hid (Rd4 (w4.setCell ⟨w2.heap.size, 1, none⟩ (Value.slice ao' k cap')) ao' k cap' zs) := rd4_other (w := w4) (B := w2.heap.size) ⟨_, _, _, _, _, g1⟩ (fun b hb => heap_setCell_other _ _ _ _ hb) r4
    have G4 : Hid _ := g4
    clear g1 g2 g3 g4 r4 hb4
    by_cases heq : A = B
    · have hk : ((k : Int) == 0) = true := by rw [beq_iff_eq]; omega
      go_wp2_with fail
      refine bodyPost_ret (v := .agg #[.bool false, .slice none 0 0, .int .i64 0]) (res_num _ 4 (by kernel_rfl) _ _ (w.heap.size + 1 + 1) _ _ _ (by rfl) (set3_heap _ _ _ G4.out)) rfl ⟨_, false, 0, 0, rfl, ?_, ⟨plus_eq HL.out h0 h1 heq, fun _ _ _ => rfl⟩, ?_⟩
      · exact ⟨none, 0, 0, [], rfl, rd4_none' _, .inl rfl, rfl⟩
      · exact ((HB5.out.setCell (by show w.heap.size ≤ w.heap.size + 1 + 1; omega) _).setCell (by show w.heap.size ≤ w.heap.size + 1 + 1; omega) _).setCell (by show w.heap.size ≤ w.heap.size + 1 + 1; omega) _
    · have hk : ((k : Int) == 0) = false := by rw [beq_eq_false_iff_ne]; omega
      go_wp2_with fail
      refine bodyPost_ret (v := .agg #[.bool nx, .slice ao' k cap', .int .i64 e]) (res_num _ 4 (by kernel_rfl) _ _ (w.heap.size + 1 + 1) _ _ _ (by rfl) (set3_heap _ _ _ G4.out)) rfl ⟨_, nx, A - B, e, rfl, ?_, ⟨plus_ge HL.out h0 h1 hAB, fun c _ _ => absurd c (by omega)⟩, ?_⟩
      · exact ⟨ao', k, cap', zs, rfl, rd4_set3 _ _ _ ⟨_, _, _, _, _, G4.out⟩ R5.out, n4, by rw [d4, d1, d2]⟩
      · exact ((HB5.out.setCell (by show w.heap.size ≤ w.heap.size + 1 + 1; omega) _).setCell (by show w.heap.size ≤ w.heap.size + 1 + 1; omega) _).setCell (by show w.heap.size ≤ w.heap.size + 1 + 1; omega) _
  · have hc4 : cmpN A B = -1 := by unfold cmpN; rw [if_pos (by omega)]
    have hll : l1 ≤ l2 := by
      rcases Nat.lt_or_ge l2 l1 with h | h
      · have := shorter_lt R2.out.lt R1.out.lt n1 (by rw [R1.out.length, R2.out.length]; exact h); omega
      · exact h
    go_wp2_with fail
    refine (cmp_any a1 l1 c1 xs1 a2 l2 c2 ys1 _ R1'.out R2'.out n1 n2).mono ?_
    rintro e3 w3 ⟨rfl, hb3⟩
    rw [d1, d2, hc4]
    have R1'' : Hid _ := R1'.out.later hb3
    have R2'' : Hid _ := R2'.out.later hb3
    have hb3z := hb3.size
    have HBW : Hid _ := hb3
    have s1 := (hb3.block w2.heap.size (by simp)).trans (heap_alloc_new w2 _)
    have s2 := (hb3.block (w.heap.size + 1) (by simp; omega)).trans ((Below.heap_alloc w2 _ _ (by omega)).trans Q1.out)
    obtain ⟨s10, s11, s12⟩ := three_cells s1
    obtain ⟨s20, s21, s22⟩ := three_cells s2
    have fs := fun j => frozen_of_row _ _ j _ _ s1
    have S3 : Hid ((w3.setCell ⟨w2.heap.size, 0, none⟩ (Value.bool (!nx))).heap[w2.heap.size]? = some (Obj.cells #[Value.bool (!nx), Value.slice none 0 0, Value.int IntKind.i64 e] 60)) := heap_setCell_same _ _ 0 _ _ _ s1
    have S1 : Hid _ := s1
    clear hb3 s1 s2
    have SB : Hid (Below w.heap.size w (w3.setCell ⟨w2.heap.size, 0, none⟩ (Value.bool (!nx)))) := (HB3.out.trans (HBW.out.mono (by rw [hw2]; have := HB2.out.size; omega))).setCell (by show w.heap.size ≤ w2.heap.size; omega) _
    have S4 : Hid ((w3.setCell ⟨w2.heap.size, 0, none⟩ (Value.bool (!nx))).heap[w.heap.size + 1 + 1]? = some (Obj.cells #[Value.bool false, Value.slice none 0 0, Value.int IntKind.i64 0] 60)) := by
      unfold Hid
      rw [heap_setCell_other _ _ _ _ (by show w.heap.size + 1 + 1 ≠ w2.heap.size; omega), HBW.out.block (w.heap.size + 1 + 1) (by simp; omega), Below.heap_alloc _ _ _ (by omega)]; exact Q2.out
    have T1 : Hid _ := rd4_other (w := w3) (w' := w3.setCell ⟨w2.heap.size, 0, none⟩ (Value.bool (!nx))) (B := w2.heap.size) ⟨_, _, _, _, _, S1.out⟩ (fun b hb => heap_setCell_other _ _ _ _ hb) R1''.out
    have T2 : Hid _ := rd4_other (w := w3) (w' := w3.setCell ⟨w2.heap.size, 0, none⟩ (Value.bool (!nx))) (B := w2.heap.size) ⟨_, _, _, _, _, S1.out⟩ (fun b hb => heap_setCell_other _ _ _ _ hb) R2''.out
    have hsz3 : (w3.setCell ⟨w2.heap.size, 0, none⟩ (Value.bool (!nx))).heap.size = w3.heap.size := by simp
    rw [hw2] at hb3z
    go_wp2_with fail
    refine (minus_any a2 l2 c2 ys1 a1 l1 c1 xs1 _ T2.out T1.out hl2 hll (by rw [d1, d2]; omega)).mono ?_
    rintro e4 w4 ⟨ao', k, cap', zs, rfl, r4, n4, d4, hb4, k4⟩
    have lz4 := len_zero r4.length r4.lt n4
    rw [d4, d1, d2] at lz4
    have hk : ((k : Int) == 0) = false := by rw [beq_eq_false_iff_ne]; omega
    have g1 := (hb4.block w2.heap.size (by rw [hsz3]; omega)).trans S3.out
    have g2 := (hb4.block (w.heap.size + 1 + 1) (by rw [hsz3]; omega)).trans S4.out
    have g3 := heap_setCell_same _ _ 1 _ _ (Value.slice ao' k cap') g1
    have g4 : (w4.setCell ⟨w2.heap.size, 1, none⟩ (Value.slice ao' k cap')).heap[w.heap.size + 1 + 1]? = _ := (heap_setCell_other w4 ⟨w2.heap.size, 1, none⟩ (w.heap.size + 1 + 1) (Value.slice ao' k cap') (by show w.heap.size + 1 + 1 ≠ w2.heap.size; omega)).trans g2
    obtain ⟨c10, c11, c12⟩ := three_cells g1
    obtain ⟨c40, c41, c42⟩ := three_cells g4
    have f1 := fun j => frozen_of_row _ _ j _ _ g1
    have g3' : (w4.setCell ⟨w2.heap.size, 1, none⟩ (Value.slice ao' k cap')).heap[w2.heap.size]? = some (Obj.cells #[Value.bool (!nx), Value.slice ao' k cap', Value.int IntKind.i64 e] 60) := g3
    obtain ⟨c30, c31, c32⟩ := three_cells g3'
    have f4 := fun j => frozen_of_row _ _ j _ _ g4
    have HB5 : Hid (Below w.heap.size w (w4.setCell ⟨w2.heap.size, 1, none⟩ (Value.slice ao' k cap'))) := (SB.out.trans (hb4.mono (by rw [hsz3]; omega))).setCell (by show w.heap.size ≤ w2.heap.size; omega) _
    have R5 : Hid (Rd4 (w4.setCell ⟨w2.heap.size, 1, none⟩ (Value.slice ao' k cap')) ao' k cap' zs) := rd4_other (w := w4) (B := w2.heap.size) ⟨_, _, _, _, _, g1⟩ (fun b hb => heap_setCell_other _ _ _ _ hb) r4
    have G4 : Hid _ := g4
    clear g1 g2 g3 g3' g4 r4 hb4
    go_wp2_with fail
    refine bodyPost_ret (v := .agg #[.bool (!nx), .slice ao' k cap', .int .i64 e]) (res_num _ 4 (by kernel_rfl) _ _ (w.heap.size + 1 + 1) _ _ _ (by rfl) (set3_heap _ _ _ G4.out)) rfl ⟨_, !nx, B - A, e, rfl, ?_, ⟨plus_lt HL.out h0 h1 (by omega), fun c _ _ => absurd c (by omega)⟩, ?_⟩
    · exact ⟨ao', k, cap', zs, rfl, rd4_set3 _ _ _ ⟨_, _, _, _, _, G4.out⟩ R5.out, n4, by rw [d4, d1, d2]⟩
    · exact ((HB5.out.setCell (by show w.heap.size ≤ w.heap.size + 1 + 1; omega) _).setCell (by show w.heap.size ≤ w.heap.size + 1 + 1; omega) _).setCell (by show w.heap.size ≤ w.heap.size + 1 + 1; omega) _
theorem plusZ_any (v u : Value) (s : Nat) (T x y : Int) (w : World) (hx : NumZ w v s T x) (hy : NumZ w u s T y) (hs : s ≤ 20000) (hT : 0 ≤ T ∧ T ≤ 20000) :
    Calls Try.prog 20 #[v, u] w fun e' w' => ∃ v', e' = .returned v' ∧ NumZ w' v' s (T + 1) (x + y) ∧ Below w.heap.size w w' := by
  obtain ⟨nx, mx, ex, h1, h2, h3, h4⟩ := hx
  obtain ⟨ny, my, ey, k1, k2, k3, k4⟩ := hy
  refine (plusV_any v u nx ny mx my ex ey w h1 k1 (by omega) (by omega) (by omega) (by omega)).mono ?_
  rintro e' w' ⟨v', neg, m, e, rfl, hN, hP, hB⟩
  obtain ⟨p1, p2, p3⟩ := hP.1 s T h2 k2 h3 k3 hT.1
  exact ⟨v', rfl, ⟨neg, m, e, hN, p1, p2, by rw [p3, h4, k4]⟩, hB⟩
end Go.Proofs.Ytbjnkefjlaplkaa

namespace Go.Proofs.Ytbjnkefjlaplkaa
open Go.RowKit
set_option linter.unusedVariables false

theorem NumZ.set3 {w : World} {B : Nat} (x y z : Value) (hB : NumB w B) {v : Value} {s : Nat} {T r : Int} (h : NumZ w v s T r) : NumZ (((w.setCell ⟨B, 0, none⟩ x).setCell ⟨B, 1, none⟩ y).setCell ⟨B, 2, none⟩ z) v s T r := by
  obtain ⟨neg, m, e, ⟨ao, len, cap, xs, h1, h2, h3⟩, h4⟩ := h
  exact ⟨neg, m, e, ⟨ao, len, cap, xs, h1, rd4_set3 x y z hB h2, h3⟩, h4⟩
theorem below_set3 {w0 w : World} {base B : Nat} (x y z : Value) (h : Below base w0 w) (hB : base ≤ B) : Below base w0 (((w.setCell ⟨B, 0, none⟩ x).setCell ⟨B, 1, none⟩ y).setCell ⟨B, 2, none⟩ z) :=
  ((h.setCell (p := ⟨B, 0, none⟩) hB x).setCell (p := ⟨B, 1, none⟩) hB y).setCell (p := ⟨B, 2, none⟩) hB z
theorem turnedZ_any (v : Value) (s : Nat) (T x : Int) (w : World) (hx : NumZ w v s T x) :
    Calls Try.prog 49 #[v] w fun e' w' => ∃ v', e' = .returned v' ∧ NumZ w' v' s T (-x) ∧ Below w.heap.size w w' := by
  obtain ⟨nx, mx, ex, h1, h2, h3, h4⟩ := hx
  refine (turned_any v nx mx ex w h1).mono ?_
  rintro e' w' ⟨v', rfl, hN, hB⟩
  refine ⟨v', rfl, ⟨_, mx, ex, hN, h2, h3, ?_⟩, hB⟩
  by_cases h0 : mx = 0
  · rw [← h4, h0, zv_zero, zv_zero]; rfl
  · rw [if_neg h0, zv_not, h4]
theorem signZ_any (v : Value) (s : Nat) (T x : Int) (w : World) (hx : NumZ w v s T x) :
    Calls Try.prog 37 #[v] w fun e' w' => e' = .returned (.int .i64 (sgi x)) ∧ Below w.heap.size w w' := by
  obtain ⟨nx, mx, ex, h1, h2, h3, h4⟩ := hx
  refine (sign_any v nx mx ex w h1).mono ?_
  rintro e' w' ⟨rfl, hB⟩
  exact ⟨by rw [← h4, sgi_zv], hB⟩
set_option maxRecDepth 100000 in
theorem minusZ_any (v u : Value) (s : Nat) (T x y : Int) (w : World) (hx : NumZ w v s T x) (hy : NumZ w u s T y) (hs : s ≤ 20000) (hT : 0 ≤ T ∧ T ≤ 20000) :
    Calls Try.prog 25 #[v, u] w fun e' w' => ∃ v', e' = .returned v' ∧ NumZ w' v' s (T + 1) (x - y) ∧ Below w.heap.size w w' := by
  have HX : Hid (NumZ w v s T x) := hx
  have HY : Hid (NumZ w u s T y) := hy
  obtain ⟨nx, mx, ex, ⟨ao, len, cap, xs, rfl, -⟩, -⟩ := hx
  obtain ⟨ny, my, ey, ⟨bo, blen, bcap, ys, rfl, -⟩, -⟩ := hy
  obtain ⟨p0, p1, p2, pz, pb⟩ := alloc3_facts w (Obj.cells #[Value.bool nx, Value.slice ao len cap, Value.int IntKind.i64 ex] 60) (Obj.cells #[Value.bool ny, Value.slice bo blen bcap, Value.int IntKind.i64 ey] 60) (Obj.cells #[Value.bool false, Value.slice none 0 0, Value.int IntKind.i64 0] 60)
  have PZ : Hid _ := pz
  have PB : Hid _ := pb
  go_enter Try.func25, Try.ntmps25
  go_wp2_with fail
  generalize (((w.alloc (Obj.cells #[Value.bool nx, Value.slice ao len cap, Value.int IntKind.i64 ex] 60)).alloc (Obj.cells #[Value.bool ny, Value.slice bo blen bcap, Value.int IntKind.i64 ey] 60)).alloc (Obj.cells #[Value.bool false, Value.slice none 0 0, Value.int IntKind.i64 0] 60)) = wa at *
  have HY2 : Hid (NumZ wa.drew _ s T y) := NumZ.later HY.out PB.out.drew
  have P2 : Hid _ := p2
  obtain ⟨x0, x1, x2⟩ := three_cells p0
  obtain ⟨y0, y1, y2⟩ := three_cells p1
  have P0 : Hid _ := p0
  have P1 : Hid _ := p1
  clear p0 p1 p2 pz pb
  have hne1 : ¬ (w.heap.size + 1 + 1 = w.heap.size) := by omega
  have hne2 : ¬ (w.heap.size = w.heap.size + 1 + 1) := by omega
  go_region_held3 (fun w' => w'.cell? ⟨w.heap.size, 0, none⟩ = some (.bool nx) ∧ w'.cell? ⟨w.heap.size, 1, none⟩ = some (.slice ao len cap) ∧ w'.cell? ⟨w.heap.size, 2, none⟩ = some (.int .i64 ex) ∧ w'.cell? ⟨w.heap.size + 1, 0, none⟩ = some (.bool ny) ∧ w'.cell? ⟨w.heap.size + 1, 1, none⟩ = some (.slice bo blen bcap) ∧ w'.cell? ⟨w.heap.size + 1, 2, none⟩ = some (.int .i64 ey)) (go_keep)
    (first
      | (go_at_call 49; refine (turnedZ_any _ s T y _ HY2.out).mono ?_; rintro ee ww ⟨v1, rfl, hz1, hb1⟩; have b0 := (hb1.block w.heap.size (by show w.heap.size < wa.heap.size; rw [PZ.out]; omega)).trans P0.out; have b1 := (hb1.block (w.heap.size + 1) (by show w.heap.size + 1 < wa.heap.size; rw [PZ.out]; omega)).trans P1.out; have b2 := (hb1.block (w.heap.size + 1 + 1) (by show w.heap.size + 1 + 1 < wa.heap.size; rw [PZ.out]; omega)).trans P2.out; obtain ⟨a0, a1, a2⟩ := three_cells b0; obtain ⟨a3, a4, a5⟩ := three_cells b1; have HBB : Hid (Below w.heap.size w ww) := PB.out.drew.trans (hb1.mono (by show w.heap.size ≤ wa.heap.size; rw [PZ.out]; omega)); have HSZ : Hid (w.heap.size + 3 ≤ ww.heap.size) := Nat.le_trans (Nat.le_of_eq PZ.out.symm) hb1.size; have HZ1 : Hid (NumZ ww v1 s T (-y)) := hz1; have B0 : Hid _ := b0; have B1 : Hid _ := b1; have B2 : Hid _ := b2; clear hz1 hb1 b0 b1 b2)
      | (go_at_call 20; refine (plusZ_any _ _ s T x (-y) _ (NumZ.later HX.out HBB.out) HZ1.out hs hT).mono ?_; rintro ee ww2 ⟨v2, rfl, hz2, hb2⟩; have d0 := (hb2.block w.heap.size (by have := HSZ.out; omega)).trans B0.out; have d1 := (hb2.block (w.heap.size + 1) (by have := HSZ.out; omega)).trans B1.out; obtain ⟨i0, i1, i2⟩ := three_cells d0; obtain ⟨i3, i4, i5⟩ := three_cells d1; have d2 := (hb2.block (w.heap.size + 1 + 1) (by have := HSZ.out; omega)).trans B2.out; have HB3 : Hid (Below w.heap.size w ww2) := HBB.out.trans (hb2.mono HBB.out.size); obtain ⟨c0, c1, c2⟩ := three_cells d2; have fc := (fun j => frozen_of_row _ _ j _ _ d2); have D2 : Hid _ := d2; have HZ2 : Hid (NumZ ww2 v2 s (T + 1) (x + -y)) := hz2; obtain ⟨n3, m3, e3, ⟨a3, l3, c3, xs3, rfl, -⟩, -⟩ := hz2; clear hb2 d0 d1 d2))
  all_goals go_wp2_with fail
  all_goals
    refine bodyPost_ret (v := .agg #[.bool n3, .slice a3 l3 c3, .int .i64 e3]) (res_num _ 4 (by kernel_rfl) _ _ (w.heap.size + 1 + 1) _ _ _ (by rfl) (set3_heap _ _ _ D2.out)) rfl ⟨_, rfl, ?_, ?_⟩
    · rw [show x - y = x + -y by omega]; exact NumZ.set3 _ _ _ ⟨_, _, _, _, _, D2.out⟩ HZ2.out
    · exact below_set3 _ _ _ HB3.out (by omega)
theorem alloc2_facts (w : World) (o1 o2 : Obj) : ((w.alloc o1).alloc o2).heap[w.heap.size]? = some o1 ∧ ((w.alloc o1).alloc o2).heap[w.heap.size + 1]? = some o2 ∧ ((w.alloc o1).alloc o2).heap.size = w.heap.size + 2 ∧ Below w.heap.size w ((w.alloc o1).alloc o2) := by
  have e1 := heap_alloc_new w o1
  have e2 := heap_alloc_new (w.alloc o1) o2
  rw [show (w.alloc o1).heap.size = w.heap.size + 1 by simp] at e2
  exact ⟨by rw [Below.heap_alloc _ _ _ (by simp), e1], e2, by simp, ((Below.refl _ _).alloc (Nat.le_refl _) _).alloc (by simp) _⟩
set_option maxRecDepth 100000 in
theorem cmpZ_any (v u : Value) (s : Nat) (T x y : Int) (w : World) (hx : NumZ w v s T x) (hy : NumZ w u s T y) (hs : s ≤ 20000) (hT : 0 ≤ T ∧ T ≤ 20000) :
    Calls Try.prog 24 #[v, u] w fun e' w' => e' = .returned (.int .i64 (sgi (x - y))) ∧ Below w.heap.size w w' := by
  have HX : Hid (NumZ w v s T x) := hx
  have HY : Hid (NumZ w u s T y) := hy
  obtain ⟨nx, mx, ex, ⟨ao, len, cap, xs, rfl, -⟩, -⟩ := hx
  obtain ⟨ny, my, ey, ⟨bo, blen, bcap, ys, rfl, -⟩, -⟩ := hy
  obtain ⟨p0, p1, pz, pb⟩ := alloc2_facts w (Obj.cells #[Value.bool nx, Value.slice ao len cap, Value.int IntKind.i64 ex] 60) (Obj.cells #[Value.bool ny, Value.slice bo blen bcap, Value.int IntKind.i64 ey] 60)
  have PZ : Hid _ := pz
  have PB : Hid _ := pb
  go_enter Try.func24, Try.ntmps24
  go_wp2_with fail
  refine (minusZ_any _ _ s T x y _ (NumZ.later HX.out PB.out) (NumZ.later HY.out PB.out) hs hT).mono ?_
  rintro ee ww ⟨v1, rfl, hz1, hb1⟩
  have HB1 : Hid (Below w.heap.size w ww) := PB.out.trans (hb1.mono (by rw [PZ.out]; omega))
  have HZ1 : Hid (NumZ ww v1 s (T + 1) (x - y)) := hz1
  clear hz1 hb1
  go_wp2_with fail
  refine (signZ_any _ s (T + 1) (x - y) _ HZ1.out).mono ?_
  rintro ee w2 ⟨rfl, hb2⟩
  have HB2 : Hid (Below w.heap.size w w2) := HB1.out.trans (hb2.mono HB1.out.size)
  clear hb2
  go_wp2_with fail
  go_ret
  exact ⟨rfl, HB2.out⟩
def TimesRes (nx ny : Bool) (mx my : Nat) (ex ey : Int) (w : World) (e' : Ending) (w' : World) : Prop := ∃ v' neg e, e' = .returned v' ∧ NumV w' v' neg (mx * my) e ∧ (mx * my = 0 → e = 0) ∧ (mx * my ≠ 0 → neg = (nx != ny) ∧ e = ex + ey) ∧ Below w.heap.size w w'
set_option maxRecDepth 100000 in
set_option maxHeartbeats 1000000 in
theorem timesV_any (v u : Value) (nx ny : Bool) (mx my : Nat) (ex ey : Int) (w : World) (hx : NumV w v nx mx ex) (hy : NumV w u ny my ey) (hex : -20000 ≤ ex ∧ ex ≤ 20000) (hey : -20000 ≤ ey ∧ ey ≤ 20000) (hbx : bl mx ≤ 40000) (hby : bl my ≤ 40000) :
    Calls Try.prog 21 #[v, u] w fun e' w' => TimesRes nx ny mx my ex ey w e' w' := by
  obtain ⟨ao, len, cap, xs, rfl, hr, hnm, hm⟩ := hx
  obtain ⟨bo, blen, bcap, ys, rfl, hr2, hnm2, hm2⟩ := hy
  have lz1 := len_zero hr.length hr.lt hnm
  have lz2 := len_zero hr2.length hr2.lt hnm2
  have hl1 : len ≤ 10000 := by have := len_bl hr.length hr.lt hnm; rw [hm] at this; omega
  have hl2 : blen ≤ 10000 := by have := len_bl hr2.length hr2.lt hnm2; rw [hm2] at this; omega
  rw [hm] at lz1
  rw [hm2] at lz2
  obtain ⟨p0, p1, p2, pz, pb⟩ := alloc3_facts w (Obj.cells #[Value.bool nx, Value.slice ao len cap, Value.int IntKind.i64 ex] 60) (Obj.cells #[Value.bool ny, Value.slice bo blen bcap, Value.int IntKind.i64 ey] 60) (Obj.cells #[Value.bool false, Value.slice none 0 0, Value.int IntKind.i64 0] 60)
  have PZ : Hid _ := pz
  have PB : Hid _ := pb
  have HR : Hid _ := hr
  have HR2 : Hid _ := hr2
  clear hr hr2
  have P0 : Hid _ := p0
  have P1 : Hid _ := p1
  have P2 : Hid _ := p2
  have LZ1 : Hid (len = 0 ↔ mx = 0) := lz1
  have LZ2 : Hid (blen = 0 ↔ my = 0) := lz2
  have HM : Hid (dig xs = mx) := hm
  have HM2 : Hid (dig ys = my) := hm2
  clear p0 p1 p2 pz pb lz1 lz2 hm hm2
  by_cases h0 : mx = 0
  · have hl0 : len = 0 := LZ1.out.2 h0
    subst hl0
    go_enter Try.func21, Try.ntmps21
    go_wp2_with fail
    refine bodyPost_ret (v := .agg #[.bool false, .slice none 0 0, .int .i64 0]) (res_num _ 4 (by kernel_rfl) _ _ (w.heap.size + 1 + 1) _ _ _ (by rfl) P2.out) rfl ⟨_, false, 0, rfl, ⟨none, 0, 0, [], rfl, rd4_none' _, .inl rfl, by simp [dig]⟩, fun _ => rfl, fun c => absurd (by simp) c, PB.out⟩
  have hb0 : ((len : Int) == 0) = false := by rw [beq_eq_false_iff_ne]; have := LZ1.out; omega
  by_cases h1 : my = 0
  · have hl0 : blen = 0 := LZ2.out.2 h1
    subst hl0
    go_enter Try.func21, Try.ntmps21
    go_wp2_with fail
    refine bodyPost_ret (v := .agg #[.bool false, .slice none 0 0, .int .i64 0]) (res_num _ 4 (by kernel_rfl) _ _ (w.heap.size + 1 + 1) _ _ _ (by rfl) P2.out) rfl ⟨_, false, 0, rfl, ⟨none, 0, 0, [], rfl, rd4_none' _, .inl rfl, by simp [dig]⟩, fun _ => rfl, fun c => absurd (by simp) c, PB.out⟩
  have hb1 : ((blen : Int) == 0) = false := by rw [beq_eq_false_iff_ne]; have := LZ2.out; omega
  have hmn : mx * my ≠ 0 := Nat.mul_ne_zero h0 h1
  have hwr : IntKind.i64.wrap (ex + ey) = ex + ey := by rw [IntKind.wrap_i64]; omega
  have HMN : Hid (mx * my ≠ 0) := hmn
  go_enter Try.func21, Try.ntmps21
  go_wp2_with fail
  generalize (((w.alloc (Obj.cells #[Value.bool nx, Value.slice ao len cap, Value.int IntKind.i64 ex] 60)).alloc (Obj.cells #[Value.bool ny, Value.slice bo blen bcap, Value.int IntKind.i64 ey] 60)).alloc (Obj.cells #[Value.bool false, Value.slice none 0 0, Value.int IntKind.i64 0] 60)) = wa at *
  obtain ⟨x0, x1, x2⟩ := three_cells P0.out
  obtain ⟨y0, y1, y2⟩ := three_cells P1.out
  have hne1 : ¬ (w.heap.size + 1 + 1 = w.heap.size) := by omega
  have hne2 : ¬ (w.heap.size = w.heap.size + 1 + 1) := by omega
  have R1 : Hid _ := HR.out.later PB.out.drew
  have R2 : Hid _ := HR2.out.later PB.out.drew
  clear h0 h1 hmn
  go_region_held3 (fun w' => w'.cell? ⟨w.heap.size, 0, none⟩ = some (.bool nx) ∧ w'.cell? ⟨w.heap.size, 1, none⟩ = some (.slice ao len cap) ∧ w'.cell? ⟨w.heap.size, 2, none⟩ = some (.int .i64 ex) ∧ w'.cell? ⟨w.heap.size + 1, 0, none⟩ = some (.bool ny) ∧ w'.cell? ⟨w.heap.size + 1, 1, none⟩ = some (.slice bo blen bcap) ∧ w'.cell? ⟨w.heap.size + 1, 2, none⟩ = some (.int .i64 ey)) (go_keep)
    (first
      | (go_at_call 45; refine (times_any ao len cap xs bo blen bcap ys _ R1.out R2.out hl1 hl2).mono ?_; rintro ee ww ⟨ao', k, cap', zs, rfl, hr3, hn3, hd3, hb3, hk3⟩; have b0 := (hb3.block w.heap.size (by show w.heap.size < wa.heap.size; rw [PZ.out]; omega)).trans P0.out; have b1 := (hb3.block (w.heap.size + 1) (by show w.heap.size + 1 < wa.heap.size; rw [PZ.out]; omega)).trans P1.out; have b2 := (hb3.block (w.heap.size + 1 + 1) (by show w.heap.size + 1 + 1 < wa.heap.size; rw [PZ.out]; omega)).trans P2.out; obtain ⟨a0, a1, a2⟩ := three_cells b0; obtain ⟨a3, a4, a5⟩ := three_cells b1; obtain ⟨c0, c1, c2⟩ := three_cells b2; have fc := (fun j => frozen_of_row _ _ j _ _ b2); have HBB : Hid (Below w.heap.size w ww) := PB.out.drew.trans (hb3.mono (by show w.heap.size ≤ wa.heap.size; rw [PZ.out]; omega)); have R3 : Hid _ := hr3; have B2 : Hid _ := b2; clear hr3 hb3 b0 b1 b2))
  all_goals go_wp2_with fail
  all_goals
    refine bodyPost_ret (v := .agg #[.bool (nx != ny), .slice ao' k cap', .int .i64 (ex + ey)]) (res_num _ 4 (by kernel_rfl) _ _ (w.heap.size + 1 + 1) _ _ _ (by rfl) (set3_heap _ _ _ B2.out)) rfl ⟨_, (nx != ny), ex + ey, rfl, ?_, ?_, ?_, ?_⟩
    · exact ⟨ao', k, cap', zs, rfl, rd4_set3 _ _ _ ⟨_, _, _, _, _, B2.out⟩ R3.out, hn3, by rw [hd3, HM.out, HM2.out]⟩
    · exact fun c => absurd c HMN.out
    · exact fun _ => ⟨rfl, rfl⟩
    · exact below_set3 _ _ _ HBB.out (by omega)
end Go.Proofs.Ytbjnkefjlaplkaa

