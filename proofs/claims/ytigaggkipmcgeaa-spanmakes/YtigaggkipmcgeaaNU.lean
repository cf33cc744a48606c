import Derived.Test.YtigaggkipmcgeaaNT
import Derived.Deep.RegionHeld3
namespace Go.Proofs.Ytigaggkipmcgeaa
open Go.RowKit
set_option linter.unusedVariables false

theorem rd4_none' (w : World) : Rd4 w none 0 0 [] := Rd4.none w
/-- Two numbers brought to one power of 2. -/
def LevelOf (mx : Nat) (ex : Int) (my : Nat) (ey : Int) (A B : Nat) (e : Int) : Prop :=
  (mx = 0 ∧ A = 0 ∧ B = my ∧ e = ey) ∨ (mx ≠ 0 ∧ my = 0 ∧ A = mx ∧ B = 0 ∧ e = ex) ∨ (mx ≠ 0 ∧ my ≠ 0 ∧ e = min ex ey ∧ A = mx * 2 ^ (ex - e).toNat ∧ B = my * 2 ^ (ey - e).toNat)
def LevelRes (mx : Nat) (ex : Int) (my : Nat) (ey : Int) (w : World) (e' : Ending) (w' : World) : Prop :=
  ∃ a1 l1 c1 xs a2 l2 c2 ys A B e, e' = .returned (.tuple #[.slice a1 l1 c1, .slice a2 l2 c2, .int .i64 e]) ∧ Rd4 w' a1 l1 c1 xs ∧ Rd4 w' a2 l2 c2 ys ∧ Nm xs ∧ Nm ys ∧ dig xs = A ∧ dig ys = B ∧ LevelOf mx ex my ey A B e ∧ Below w.heap.size w w'
set_option maxRecDepth 100000 in
set_option maxHeartbeats 1000000 in
theorem level_any (v u : Value) (nx ny : Bool) (mx my : Nat) (ex ey : Int) (w : World) (hx : NumV w v nx mx ex) (hy : NumV w u ny my ey) (hex : -20000 ≤ ex ∧ ex ≤ 20000) (hey : -20000 ≤ ey ∧ ey ≤ 20000) (hbx : bl mx ≤ 100000) (hby : bl my ≤ 100000) :
    Calls Try.prog 65 #[v, u] w fun e' w' => LevelRes mx ex my ey w e' w' := by
  obtain ⟨ao, len, cap, xs, rfl, hr, hnm, hm⟩ := hx
  obtain ⟨bo, blen, bcap, ys, rfl, hr2, hnm2, hm2⟩ := hy
  have hz := len_zero hr.length hr.lt hnm
  have hz2 := len_zero hr2.length hr2.lt hnm2
  rw [hm] at hz
  rw [hm2] at hz2
  have hl : len ≤ 10000 := by have := len_bl hr.length hr.lt hnm; rw [hm] at this; omega
  have hl2 : blen ≤ 10000 := by have := len_bl hr2.length hr2.lt hnm2; rw [hm2] at this; omega
  have hbel : ∀ o1 o2 : Obj, Below w.heap.size w ((w.alloc o1).alloc o2) := fun o1 o2 => ((Below.refl _ _).alloc (Nat.le_refl _) _).alloc (by simp) _
  have HR : Hid _ := hr
  have HR2 : Hid _ := hr2
  have HB : Hid _ := hbel
  clear hr hr2 hbel
  by_cases h0 : mx = 0
  · have hl0 : len = 0 := hz.2 h0
    subst hl0
    clear hz hz2
    go_enter Try.func65, Try.ntmps65
    go_wp2_with fail
    go_region
    go_wp2_with fail
    go_ret3
    exact ⟨none, 0, 0, [], bo, blen, bcap, ys, 0, my, ey, rfl, rd4_none' _, HR2.out.later (HB.out _ _).drew, .inl rfl, hnm2, rfl, hm2, .inl ⟨h0, rfl, rfl, rfl⟩, (HB.out _ _).drew⟩
  · have hb0 : ((len : Int) == 0) = false := by rw [beq_eq_false_iff_ne]; omega
    by_cases h1 : my = 0
    · have hl0 : blen = 0 := hz2.2 h1
      subst hl0
      clear hz hz2
      go_enter Try.func65, Try.ntmps65
      go_wp2_with fail
      go_region
      go_wp2_with fail
      go_ret3
      exact ⟨ao, len, cap, xs, none, 0, 0, [], mx, 0, ex, rfl, HR.out.later (HB.out _ _).drew, rd4_none' _, hnm, .inl rfl, hm, rfl, .inr (.inl ⟨h0, h1, rfl, rfl, rfl⟩), (HB.out _ _).drew⟩
    · have hb1 : ((blen : Int) == 0) = false := by rw [beq_eq_false_iff_ne]; omega
      clear hz hz2
      have q0 : ((w.alloc (Obj.cells #[Value.bool nx, Value.slice ao len cap, Value.int IntKind.i64 ex] 27)).alloc (Obj.cells #[Value.bool ny, Value.slice bo blen bcap, Value.int IntKind.i64 ey] 27)).heap[w.heap.size]? = some (Obj.cells #[Value.bool nx, Value.slice ao len cap, Value.int IntKind.i64 ex] 27) := by rw [Below.heap_alloc _ _ _ (by simp)]; exact heap_alloc_new w _
      have q1 : ((w.alloc (Obj.cells #[Value.bool nx, Value.slice ao len cap, Value.int IntKind.i64 ex] 27)).alloc (Obj.cells #[Value.bool ny, Value.slice bo blen bcap, Value.int IntKind.i64 ey] 27)).heap[w.heap.size + 1]? = some (Obj.cells #[Value.bool ny, Value.slice bo blen bcap, Value.int IntKind.i64 ey] 27) := by
        have h := heap_alloc_new (w.alloc (Obj.cells #[Value.bool nx, Value.slice ao len cap, Value.int IntKind.i64 ex] 27)) (Obj.cells #[Value.bool ny, Value.slice bo blen bcap, Value.int IntKind.i64 ey] 27)
        rw [show (w.alloc (Obj.cells #[Value.bool nx, Value.slice ao len cap, Value.int IntKind.i64 ex] 27)).heap.size = w.heap.size + 1 by simp] at h
        exact h
      have HBW : Hid (Below w.heap.size w ((w.alloc (Obj.cells #[Value.bool nx, Value.slice ao len cap, Value.int IntKind.i64 ex] 27)).alloc (Obj.cells #[Value.bool ny, Value.slice bo blen bcap, Value.int IntKind.i64 ey] 27))) := HB.out _ _
      have HZ : Hid (((w.alloc (Obj.cells #[Value.bool nx, Value.slice ao len cap, Value.int IntKind.i64 ex] 27)).alloc (Obj.cells #[Value.bool ny, Value.slice bo blen bcap, Value.int IntKind.i64 ey] 27)).heap.size = w.heap.size + 2) := by unfold Hid; simp
      obtain ⟨x0, x1, x2⟩ := three_cells q0
      obtain ⟨y0, y1, y2⟩ := three_cells q1
      clear q0 q1 HB
      by_cases h2 : ey < ex
      · obtain ⟨d, hd⟩ : ∃ d : Nat, (ex - ey).toNat = d := ⟨_, rfl⟩
        have hdi : ex - ey = (d : Int) := by omega
        have hwr : IntKind.i64.wrap (d : Int) = (d : Int) := by rw [IntKind.wrap_i64]; omega
        go_enter Try.func65, Try.ntmps65
        go_wp2_with fail
        generalize ((w.alloc (Obj.cells #[Value.bool nx, Value.slice ao len cap, Value.int IntKind.i64 ex] 27)).alloc (Obj.cells #[Value.bool ny, Value.slice bo blen bcap, Value.int IntKind.i64 ey] 27)) = wa at *
        go_region_held3 (fun w' => w'.cell? ⟨w.heap.size, 1, none⟩ = some (.slice ao len cap) ∧ w'.cell? ⟨w.heap.size, 2, none⟩ = some (.int .i64 ex) ∧ w'.cell? ⟨w.heap.size + 1, 1, none⟩ = some (.slice bo blen bcap) ∧ w'.cell? ⟨w.heap.size + 1, 2, none⟩ = some (.int .i64 ey)) (go_keep)
          (first | (go_at_call 103; refine (left_any ao len cap xs d _ ?_ (by omega) hl).mono ?_; exact HR.out.later HBW.out.drew; rintro ee ww ⟨ao', k, cap', zs, rfl, hr3, hn3, hd3, hb3, hk3⟩; have z1 := (hb3.cell (p := ⟨w.heap.size, 1, none⟩) (by show w.heap.size < wa.heap.size; rw [HZ.out]; omega)).trans x1; have z2 := (hb3.cell (p := ⟨w.heap.size, 2, none⟩) (by show w.heap.size < wa.heap.size; rw [HZ.out]; omega)).trans x2; have z3 := (hb3.cell (p := ⟨w.heap.size + 1, 1, none⟩) (by show w.heap.size + 1 < wa.heap.size; rw [HZ.out]; omega)).trans y1; have z4 := (hb3.cell (p := ⟨w.heap.size + 1, 2, none⟩) (by show w.heap.size + 1 < wa.heap.size; rw [HZ.out]; omega)).trans y2; have HB3 : Hid _ := hb3; have HRD : Hid _ := hr3; clear hb3 hr3))
        all_goals go_wp2_with fail
        all_goals
          have HBF : Hid (Below w.heap.size w ww) := HBW.out.drew.trans (HB3.out.mono (by show w.heap.size ≤ wa.heap.size; rw [HZ.out]; omega))
          go_ret3
          exact ⟨ao', k, cap', zs, bo, blen, bcap, ys, _, my, ey, rfl, HRD.out, HR2.out.later HBF.out, hn3, hnm2, rfl, hm2, .inr (.inr ⟨h0, h1, by omega, by rw [hd3, hm, hd], by rw [show (ey - ey).toNat = 0 by omega, Nat.pow_zero, Nat.mul_one]⟩), HBF.out⟩
      · obtain ⟨d, hd⟩ : ∃ d : Nat, (ey - ex).toNat = d := ⟨_, rfl⟩
        have hdi : ey - ex = (d : Int) := by omega
        have hwr : IntKind.i64.wrap (d : Int) = (d : Int) := by rw [IntKind.wrap_i64]; omega
        go_enter Try.func65, Try.ntmps65
        go_wp2_with fail
        generalize ((w.alloc (Obj.cells #[Value.bool nx, Value.slice ao len cap, Value.int IntKind.i64 ex] 27)).alloc (Obj.cells #[Value.bool ny, Value.slice bo blen bcap, Value.int IntKind.i64 ey] 27)) = wa at *
        go_region_held3 (fun w' => w'.cell? ⟨w.heap.size, 1, none⟩ = some (.slice ao len cap) ∧ w'.cell? ⟨w.heap.size, 2, none⟩ = some (.int .i64 ex) ∧ w'.cell? ⟨w.heap.size + 1, 1, none⟩ = some (.slice bo blen bcap) ∧ w'.cell? ⟨w.heap.size + 1, 2, none⟩ = some (.int .i64 ey)) (go_keep)
          (first | (go_at_call 103; refine (left_any bo blen bcap ys d _ ?_ (by omega) hl2).mono ?_; exact HR2.out.later HBW.out.drew; rintro ee ww ⟨ao', k, cap', zs, rfl, hr3, hn3, hd3, hb3, hk3⟩; have z1 := (hb3.cell (p := ⟨w.heap.size, 1, none⟩) (by show w.heap.size < wa.heap.size; rw [HZ.out]; omega)).trans x1; have z2 := (hb3.cell (p := ⟨w.heap.size, 2, none⟩) (by show w.heap.size < wa.heap.size; rw [HZ.out]; omega)).trans x2; have z3 := (hb3.cell (p := ⟨w.heap.size + 1, 1, none⟩) (by show w.heap.size + 1 < wa.heap.size; rw [HZ.out]; omega)).trans y1; have z4 := (hb3.cell (p := ⟨w.heap.size + 1, 2, none⟩) (by show w.heap.size + 1 < wa.heap.size; rw [HZ.out]; omega)).trans y2; have HB3 : Hid _ := hb3; have HRD : Hid _ := hr3; clear hb3 hr3))
        all_goals go_wp2_with fail
        all_goals
          have HBF : Hid (Below w.heap.size w ww) := HBW.out.drew.trans (HB3.out.mono (by show w.heap.size ≤ wa.heap.size; rw [HZ.out]; omega))
          go_ret3
          exact ⟨ao, len, cap, xs, ao', k, cap', zs, mx, _, ex, rfl, HR.out.later HBF.out, HRD.out, hnm, hn3, hm, rfl, .inr (.inr ⟨h0, h1, by omega, by rw [show (ex - ex).toNat = 0 by omega, Nat.pow_zero, Nat.mul_one], by rw [hd3, hm2, hd]⟩), HBF.out⟩
end Go.Proofs.Ytigaggkipmcgeaa
