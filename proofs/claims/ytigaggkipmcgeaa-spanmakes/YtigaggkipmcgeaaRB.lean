import Derived.Test.YtigaggkipmcgeaaRA
namespace Go.Proofs.Ytigaggkipmcgeaa
open Go.RowKit
set_option linter.unusedVariables false

theorem run_mul {x y r : Nat} (h : Ieee.double.mul x y = some r) : ∀ t w, (binOp .mul t (.float .f64 x) (.float .f64 y)).run Try.prog w = .ok (.float .f64 r) w := fun t w => run_float_arith w .mul t .f64 x y r h
theorem run_add {x y r : Nat} (h : Ieee.double.add x y = some r) : ∀ t w, (binOp .add t (.float .f64 x) (.float .f64 y)).run Try.prog w = .ok (.float .f64 r) w := fun t w => run_float_arith w .add t .f64 x y r h
theorem run_sub {x y r : Nat} (h : Ieee.double.sub x y = some r) : ∀ t w, (binOp .sub t (.float .f64 x) (.float .f64 y)).run Try.prog w = .ok (.float .f64 r) w := fun t w => run_float_arith w .sub t .f64 x y r h
theorem run_quo {x y r : Nat} (h : Ieee.double.div x y = some r) : ∀ t w, (binOp .quo t (.float .f64 x) (.float .f64 y)).run Try.prog w = .ok (.float .f64 r) w := fun t w => run_float_arith w .quo t .f64 x y r h


set_option maxRecDepth 100000 in
theorem told_core {near rest : Nat} (d : Int) (hlt : near < 18446744073709551616) (hnear : frung near ≤ infK) (hnum : frung rest ≤ infK) (hup : 0 < srung rest → ¬ (fneg near = false ∧ frung near = infK)) (hdown : srung rest < 0 → ¬ (fneg (fopp near) = false ∧ frung (fopp near) = infK)) (hr : rest < 18446744073709551616) (w : World) :
    Calls Try.prog 117 #[.int .i64 d, .float .f64 near, .float .f64 rest] w fun e w' => e = .returned (.tuple #[.float .f64 (toldM d near rest).1, .bool (toldM d near rest).2]) ∧ w' = w := by
  have hfp := fopp_parts hr
  have hfn := fopp_parts hlt
  unfold toldM
  by_cases h2 : d = 2
  · subst h2
    have hm1 := run_mul (mul_neg_l hr hnum)
    have hgt : (FloatKind.f64.format.order (fopp rest) 0 == some .gt) = decide (srung rest < 0) := by
      rw [f64_fmt, ord_gt (by rw [hfp.1]; exact hnum) (by decide), fopp_srung hr]
      congr 1; apply propext
      have : srung 0 = 0 := rfl
      omega
    by_cases ht : srung rest < 0
    · simp only [ht, decide_true] at hgt
      have hm2 := run_mul (mul_neg_l hlt hnear)
      have hok := hdown ht
      have ha := above_lt hfn.2.2 (by rw [hfn.1]; exact hnear) hok
      have hm3 := run_mul (mul_neg_l ha.1 ha.2)
      have hM : movedM 2 near rest = fopp (aboveM (fopp near)) := by unfold movedM; rw [if_pos rfl, if_pos ht]
      have hm := fopp_parts ha.1
      rw [hM]
      have hmn : frung (fopp (aboveM (fopp near))) ≤ infK := by rw [hm.1]; exact ha.2
      by_cases hf : Fin (fopp (aboveM (fopp near)))
      · rw [if_pos ⟨by simp, hf⟩]
        go_enter Try.func117, Try.ntmps117
        go_wp2_with (first
          | (go_at_call 132; refine (above_any _ hfn.2.2 (by rw [hfn.1]; exact hnear) _).mono ?_; rintro e w' ⟨rfl, rfl⟩)
          | (go_at_call 116; refine (number_any _ hm.2.2 _).mono ?_; rintro e w' ⟨rfl, rfl⟩; simp only [hf, decide_true])
          | (go_at_call 133; refine (plain_any _ hm.2.2 hmn _).mono ?_; rintro e w' ⟨rfl, rfl⟩))
        go_ret2
        exact ⟨rfl, rfl⟩
      · rw [if_neg (fun c => hf c.2)]
        go_enter Try.func117, Try.ntmps117
        go_wp2_with (first
          | (go_at_call 132; refine (above_any _ hfn.2.2 (by rw [hfn.1]; exact hnear) _).mono ?_; rintro e w' ⟨rfl, rfl⟩)
          | (go_at_call 116; refine (number_any _ hm.2.2 _).mono ?_; rintro e w' ⟨rfl, rfl⟩; simp only [hf, decide_false])
          | (go_at_call 133; refine (plain_any _ hm.2.2 hmn _).mono ?_; rintro e w' ⟨rfl, rfl⟩))
        go_ret2
        exact ⟨rfl, rfl⟩
    · simp only [ht, decide_false] at hgt
      have hM : movedM 2 near rest = near := by unfold movedM; rw [if_pos rfl, if_neg ht]
      rw [hM]
      by_cases hf : Fin near
      · rw [if_pos ⟨by simp, hf⟩]
        go_enter Try.func117, Try.ntmps117
        go_wp2_with (first
          | (go_at_call 116; refine (number_any _ hlt _).mono ?_; rintro e w' ⟨rfl, rfl⟩; simp only [hf, decide_true])
          | (go_at_call 133; refine (plain_any _ hlt hnear _).mono ?_; rintro e w' ⟨rfl, rfl⟩))
        go_ret2
        exact ⟨rfl, rfl⟩
      · rw [if_neg (fun c => hf c.2)]
        go_enter Try.func117, Try.ntmps117
        go_wp2_with (first
          | (go_at_call 116; refine (number_any _ hlt _).mono ?_; rintro e w' ⟨rfl, rfl⟩; simp only [hf, decide_false])
          | (go_at_call 133; refine (plain_any _ hlt hnear _).mono ?_; rintro e w' ⟨rfl, rfl⟩))
        go_ret2
        exact ⟨rfl, rfl⟩
  by_cases h1 : d = 1
  · subst h1
    have hm1 := run_mul (mul_one_l hr hnum)
    have hgt : (FloatKind.f64.format.order rest 0 == some .gt) = decide (0 < srung rest) := ord_gt hnum (by decide)
    by_cases ht : 0 < srung rest
    · simp only [ht, decide_true] at hgt
      have hm2 := run_mul (mul_one_l hlt hnear)
      have hok := hup ht
      have ha := above_lt hlt hnear hok
      have hm3 := run_mul (mul_one_l ha.1 ha.2)
      have hM : movedM 1 near rest = aboveM near := by unfold movedM; rw [if_neg (by decide), if_pos rfl, if_pos ht]
      rw [hM]
      by_cases hf : Fin (aboveM near)
      · rw [if_pos ⟨by simp, hf⟩]
        go_enter Try.func117, Try.ntmps117
        go_wp2_with (first
          | (go_at_call 132; refine (above_any _ hlt hnear _).mono ?_; rintro e w' ⟨rfl, rfl⟩)
          | (go_at_call 116; refine (number_any _ ha.1 _).mono ?_; rintro e w' ⟨rfl, rfl⟩; simp only [hf, decide_true])
          | (go_at_call 133; refine (plain_any _ ha.1 ha.2 _).mono ?_; rintro e w' ⟨rfl, rfl⟩))
        go_ret2
        exact ⟨rfl, rfl⟩
      · rw [if_neg (fun c => hf c.2)]
        go_enter Try.func117, Try.ntmps117
        go_wp2_with (first
          | (go_at_call 132; refine (above_any _ hlt hnear _).mono ?_; rintro e w' ⟨rfl, rfl⟩)
          | (go_at_call 116; refine (number_any _ ha.1 _).mono ?_; rintro e w' ⟨rfl, rfl⟩; simp only [hf, decide_false])
          | (go_at_call 133; refine (plain_any _ ha.1 ha.2 _).mono ?_; rintro e w' ⟨rfl, rfl⟩))
        go_ret2
        exact ⟨rfl, rfl⟩
    · simp only [ht, decide_false] at hgt
      have hM : movedM 1 near rest = near := by unfold movedM; rw [if_neg (by decide), if_pos rfl, if_neg ht]
      rw [hM]
      by_cases hf : Fin near
      · rw [if_pos ⟨by simp, hf⟩]
        go_enter Try.func117, Try.ntmps117
        go_wp2_with (first
          | (go_at_call 116; refine (number_any _ hlt _).mono ?_; rintro e w' ⟨rfl, rfl⟩; simp only [hf, decide_true])
          | (go_at_call 133; refine (plain_any _ hlt hnear _).mono ?_; rintro e w' ⟨rfl, rfl⟩))
        go_ret2
        exact ⟨rfl, rfl⟩
      · rw [if_neg (fun c => hf c.2)]
        go_enter Try.func117, Try.ntmps117
        go_wp2_with (first
          | (go_at_call 116; refine (number_any _ hlt _).mono ?_; rintro e w' ⟨rfl, rfl⟩; simp only [hf, decide_false])
          | (go_at_call 133; refine (plain_any _ hlt hnear _).mono ?_; rintro e w' ⟨rfl, rfl⟩))
        go_ret2
        exact ⟨rfl, rfl⟩
  have hM : movedM d near rest = near := by unfold movedM; rw [if_neg h2, if_neg h1]
  rw [hM]
  by_cases h0 : d = 0
  · subst h0
    by_cases hf : Fin near
    · rw [if_pos ⟨by simp, hf⟩]
      go_enter Try.func117, Try.ntmps117
      go_wp2_with (first
        | (go_at_call 116; refine (number_any _ hlt _).mono ?_; rintro e w' ⟨rfl, rfl⟩; simp only [hf, decide_true])
        | (go_at_call 133; refine (plain_any _ hlt hnear _).mono ?_; rintro e w' ⟨rfl, rfl⟩))
      go_ret2
      exact ⟨rfl, rfl⟩
    · rw [if_neg (fun c => hf c.2)]
      go_enter Try.func117, Try.ntmps117
      go_wp2_with (first
        | (go_at_call 116; refine (number_any _ hlt _).mono ?_; rintro e w' ⟨rfl, rfl⟩; simp only [hf, decide_false])
        | (go_at_call 133; refine (plain_any _ hlt hnear _).mono ?_; rintro e w' ⟨rfl, rfl⟩))
      go_ret2
      exact ⟨rfl, rfl⟩
  · rw [if_neg (fun c => by omega)]
    go_enter Try.func117, Try.ntmps117
    go_wp2
    go_ret2
    exact ⟨rfl, rfl⟩
theorem told_any {neg : Bool} {n D near rest : Nat} (d : Int) (hR : Rn neg n D near) (hs : Sides neg n D near rest) (hr : rest < 18446744073709551616) (w : World) :
    Calls Try.prog 117 #[.int .i64 d, .float .f64 near, .float .f64 rest] w fun e w' => e = .returned (.tuple #[.float .f64 (toldM d near rest).1, .bool (toldM d near rest).2]) ∧ w' = w := by
  obtain ⟨_, -, hr1, -, hlt⟩ := hR.rung
  have hnear : frung near ≤ infK := by rw [hr1]; exact Nat.min_le_right ..
  exact told_core d hlt hnear hs.num (Sides.up_ok hR hs) (Sides.down_ok hR hs) hr w
end Go.Proofs.Ytigaggkipmcgeaa
