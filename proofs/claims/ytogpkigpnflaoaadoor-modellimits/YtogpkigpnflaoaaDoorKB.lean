import Derived.Test.YtogpkigpnflaoaaDoorKA
namespace Go.Proofs.YtogpkigpnflaoaaDoor
open Go.RowKit
set_option linter.unusedVariables false

/-! ### bounds -/
set_option maxRecDepth 100000 in
theorem holds_any (a b n : Int) (w : World) :
    Calls Tryd.prog 13 #[.agg #[.int .i64 a, .int .i64 b], .int .i64 n] w fun e w' => e = .returned (.bool (decide (a ≤ n) && decide (n ≤ b))) ∧ Below w.heap.size w w' := by
  by_cases h : a ≤ n
  · have hd : decide (a ≤ n) = true := decide_eq_true h
    rw [hd, Bool.true_and]
    clear h
    go_enter Tryd.func13, Tryd.ntmps13
    go_wp2
    go_ret
    exact ⟨rfl, (Below.refl _ w).alloc (Nat.le_refl _) _⟩
  · have hd : decide (a ≤ n) = false := decide_eq_false h
    rw [hd, Bool.false_and]
    clear h
    go_enter Tryd.func13, Tryd.ntmps13
    go_wp2
    go_ret
    exact ⟨rfl, (Below.refl _ w).alloc (Nat.le_refl _) _⟩

/-! ### numbers -/
theorem call_bits (u : Nat) (w : World) : (callFunc 37 #[.float .f64 u]).run Tryd.prog w = .ok (.value (.int .u64 u)) w := by kernel_rfl
theorem call_from (n : Int) (w : World) : (callFunc 40 #[.int .u64 n]).run Tryd.prog w = .ok (.value (.float .f64 n.toNat)) w := by kernel_rfl
theorem bits_any (u : Nat) (w : World) : Calls Tryd.prog 30 #[.float .f64 u] w fun e w' => e = .returned (.int .u64 u) ∧ w' = w := by
  have hcb := call_bits
  go_enter Tryd.func30, Tryd.ntmps30
  go_wp2
  go_ret
  exact ⟨rfl, rfl⟩
theorem abs_any (u : Nat) (hu : u < 18446744073709551616) (w : World) : Calls Tryd.prog 35 #[.float .f64 u] w fun e w' => e = .returned (.float .f64 (frung u)) ∧ w' = w := by
  have hcb := call_bits
  have hcf := call_from
  have HE : Hid _ := u64_andNot_nat u 9223372036854775808 hu (by decide)
  go_enter Tryd.func35, Tryd.ntmps35
  go_wp2
  go_ret
  refine ⟨?_, rfl⟩
  have h := HE.out
  rw [show ((9223372036854775808 : Nat) : Int) = 9223372036854775808 from rfl] at h
  rw [h, Int.toNat_natCast, show 18446744073709551615 - 9223372036854775808 = 2 ^ 63 - 1 by decide, Nat.and_two_pow_sub_one_eq_mod]
  rfl
theorem ord_le {x y : Nat} : (Ieee.double.order x y == some .lt || Ieee.double.order x y == some .eq) = decide (frung x ≤ infK ∧ frung y ≤ infK ∧ srung x ≤ srung y) := by
  by_cases hx : frung x ≤ infK
  · by_cases hy : frung y ≤ infK
    · rw [order_rung hx hy, icmp]
      by_cases h1 : srung x < srung y
      · have : srung x ≤ srung y := by omega
        simp [h1, hx, hy, this]
      · by_cases h2 : srung x = srung y
        · simp [h2, hx, hy]
        · have : ¬ srung x ≤ srung y := by omega
          simp [h1, h2, this]
    · rw [order_nan (.inr (by omega))]; simp [hy]
  · rw [order_nan (.inl (by omega))]; simp [hx]
theorem f64_fmt : FloatKind.f64.format = Ieee.double := rfl
theorem number_any (u : Nat) (hu : u < 18446744073709551616) (w : World) : Calls Tryd.prog 27 #[.float .f64 u] w fun e w' => e = .returned (.bool (decide (Fin u))) ∧ w' = w := by
  have hE : (FloatKind.f64.format.order (frung u) 9218868437227405311 == some .lt || FloatKind.f64.format.order (frung u) 9218868437227405311 == some .eq) = decide (Fin u) := by
    rw [f64_fmt, ord_le]
    have h1 : frung (frung u) = frung u := by unfold frung; omega
    have h2 : srung (frung u) = frung u := by
      unfold srung fneg; rw [h1]
      have : frung u / 9223372036854775808 = 0 := by unfold frung; omega
      rw [this]; rfl
    have h3 : srung 9218868437227405311 = 9218868437227405311 := by decide
    have h4 : frung 9218868437227405311 = 9218868437227405311 := by decide
    rw [h1, h2, h3, h4]
    unfold Fin infK
    congr 1
    apply propext
    omega
  have HE : Hid _ := hE
  clear hE
  go_enter Tryd.func27, Tryd.ntmps27
  go_wp2_with (go_at_call 35; refine (abs_any u hu _).mono ?_; rintro e w' ⟨rfl, rfl⟩)
  go_ret
  exact ⟨by rw [← HE.out]; rfl, rfl⟩

/-- THE SLICE OF FLOATS '.slice ao len cap' READS AS us (their bits). -/
structure RdF (w : World) (ao : Option Addr) (len cap : Nat) (us : List Nat) : Prop where
  length : us.length = len
  max : len ≤ maxLen
  lt : ∀ u ∈ us, u < 18446744073709551616
  cells : len = 0 ∨ ∃ b off, ao = some ⟨b, off, none⟩ ∧ ∀ j, j < len → w.cell? ⟨b, off + j, none⟩ = some (.float .f64 (us[j]?.getD 0))
theorem RdF.later {w w' : World} {ao : Option Addr} {len cap : Nat} {us : List Nat} (h : RdF w ao len cap us) (hb : Below w.heap.size w w') : RdF w' ao len cap us := by
  refine ⟨h.length, h.max, h.lt, ?_⟩
  rcases h.cells with h0 | ⟨b, off, ha, hc⟩
  · exact .inl h0
  · refine .inr ⟨b, off, ha, fun j hj => ?_⟩
    have hlt := World.block_lt_of_cell? w _ (hc j hj)
    rw [hb.cell (p := ⟨b, off + j, none⟩) hlt]
    exact hc j hj
theorem getD_mem {us : List Nat} {j : Nat} (h : j < us.length) : us[j]?.getD 0 ∈ us := by
  rw [List.getElem?_eq_getElem h]; exact List.getElem_mem h
def numsB (us : List Nat) : Bool := us.all fun u => decide (Fin u)
theorem numsB_drop (us : List Nat) {k : Nat} (h : k < us.length) : numsB (us.drop k) = (decide (Fin (us[k]?.getD 0)) && numsB (us.drop (k + 1))) := by
  unfold numsB
  rw [List.drop_eq_getElem_cons h, List.all_cons, List.getElem?_eq_getElem h]
  rfl
theorem maxLen_le : maxLen ≤ 9223372036854775807 := by decide
set_option maxRecDepth 100000 in
set_option maxHeartbeats 1000000 in
theorem numbers_any (ao : Option Addr) (len cap : Nat) (us : List Nat) (w : World) (h : RdF w ao len cap us) :
    Calls Tryd.prog 21 #[.slice ao len cap] w fun e w' => e = .returned (.bool (numsB us)) ∧ w' = w := by
  have HR : Hid _ := h
  have hmx := Nat.le_trans h.max maxLen_le
  have hln := h.length
  clear h
  go_enter Tryd.func21, Tryd.ntmps21
  go_wp2_with fail
  go_loopg [7] len (fun g iv wx => ∃ k : Nat, iv = .int .i64 k ∧ k + g = len ∧ Hid (wx = w) ∧ Hid (numsB (us.drop k) = numsB us))
  case atStart => exact ⟨0, rfl, by omega, rfl, rfl⟩
  case round =>
    obtain ⟨k, rfl, hk, hw, H1⟩ := hrel
    by_cases hlt : k < len
    · have hd : decide ((k : Int) < (len : Int)) = true := decide_eq_true (by omega)
      obtain ⟨g, rfl⟩ : ∃ g, gk = g + 1 := ⟨gk - 1, by omega⟩
      rcases HR.out.cells with h0 | ⟨b, off, rfl, hc⟩
      · omega
      · have g0 := hc k hlt
        rw [← hw.out] at g0
        have hul := HR.out.lt _ (getD_mem (us := us) (j := k) (by omega))
        have h2 := H1.out
        rw [numsB_drop us (by omega)] at h2
        obtain ⟨u, hu⟩ : ∃ u, us[k]?.getD 0 = u := ⟨_, rfl⟩
        rw [hu] at g0 hul h2
        clear hc hu H1
        by_cases hf : Fin u
        · have hfd : decide (Fin u) = true := decide_eq_true hf
          have H2 : Hid (numsB (us.drop (k + 1)) = numsB us) := by unfold Hid; rw [← h2, hfd, Bool.true_and]
          clear h2
          go_wp2_with (go_at_call 27; refine (number_any u hul _).mono ?_; rintro e w' ⟨rfl, rfl⟩; rw [hfd])
          go_roundg g
          case measure => omega
          case rel => exact ⟨k + 1, by go_num, by omega, hw, H2⟩
        · have hfd : decide (Fin u) = false := decide_eq_false hf
          have H2 : Hid (false = numsB us) := by unfold Hid; rw [← h2, hfd, Bool.false_and]
          clear h2
          go_wp2_with (go_at_call 27; refine (number_any u hul _).mono ?_; rintro e w' ⟨rfl, rfl⟩; rw [hfd])
          go_ret
          exact ⟨by rw [← H2.out]; rfl, hw.out⟩
    · have hd : decide ((k : Int) < (len : Int)) = false := decide_eq_false (by omega)
      have H2 : Hid (true = numsB us) := by
        unfold Hid
        rw [← H1.out, List.drop_eq_nil_of_le (by omega)]
        rfl
      clear H1
      go_wp2
      go_ret
      exact ⟨by rw [← H2.out]; rfl, hw.out⟩

def listE (us : List Nat) (n : Int) : Int := if (us.length : Int) ≠ n then 63 else if numsB us = true then 0 else 64
set_option maxRecDepth 100000 in
theorem list_any (ao : Option Addr) (len cap : Nat) (us : List Nat) (n : Int) (w : World) (h : RdF w ao len cap us) :
    Calls Tryd.prog 14 #[.slice ao len cap, .int .i64 n] w fun e w' => e = .returned (.int .i64 (listE us n)) ∧ w' = w := by
  have hln := h.length
  have HN : Hid _ := numbers_any ao len cap us w h
  clear h
  by_cases hn : (len : Int) = n
  · subst hn
    cases hb : numsB us with
    | true =>
      have H1 : Hid (listE us len = 0) := by unfold Hid listE; rw [if_neg (by omega), if_pos hb]
      rw [hb] at HN
      clear hb
      go_enter Tryd.func14, Tryd.ntmps14
      go_wp2_with fail
      refine Calls.mono HN.out ?_
      rintro e w' ⟨rfl, hw⟩
      rw [hw]
      go_wp2
      go_ret
      exact ⟨by rw [H1.out]; rfl, rfl⟩
    | false =>
      have H1 : Hid (listE us len = 64) := by unfold Hid listE; rw [if_neg (by omega), if_neg (by rw [hb]; decide)]
      rw [hb] at HN
      clear hb
      go_enter Tryd.func14, Tryd.ntmps14
      go_wp2_with fail
      refine Calls.mono HN.out ?_
      rintro e w' ⟨rfl, hw⟩
      rw [hw]
      go_wp2
      go_ret
      exact ⟨by rw [H1.out]; rfl, rfl⟩
  · have H1 : Hid (listE us n = 63) := by unfold Hid listE; rw [if_pos (by omega)]
    have hd : ((len : Int) == n) = false := by simp; exact hn
    go_enter Tryd.func14, Tryd.ntmps14
    go_wp2
    go_ret
    exact ⟨by rw [H1.out]; rfl, rfl⟩
end Go.Proofs.YtogpkigpnflaoaaDoor
