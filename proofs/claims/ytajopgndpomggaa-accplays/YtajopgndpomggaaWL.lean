import Derived.Test.YtajopgndpomggaaMY
import Derived.OwnWalk
namespace Go.Proofs.Ytajopgndpomggaa
open Go.RowKit
set_option linter.unusedVariables false

/-- THE SLICE OF FLOATS '.slice ao len cap' READS AS us (their bits). -/
structure RdF (w : World) (ao : Option Addr) (len cap : Nat) (us : List Nat) : Prop where
  length : us.length = len
  max : len ≤ 1000000
  lt : ∀ u ∈ us, u < 18446744073709551616
  cells : len = 0 ∨ ∃ b off, ao = some ⟨b, off, none⟩ ∧ ∀ j, j < len → w.cell? ⟨b, off + j, none⟩ = some (.float .f64 (us[j]?.getD 0))
theorem RdF.later {w w' : World} {ao : Option Addr} {len cap : Nat} {us : List Nat} (h : RdF w ao len cap us) (hb : Below w.heap.size w w') : RdF w' ao len cap us := by
  refine ⟨h.length, h.max, h.lt, ?_⟩
  rcases h.cells with h0 | ⟨b, off, ha, hc⟩
  · exact .inl h0
  · refine .inr ⟨b, off, ha, fun j hj => ?_⟩
    have hlt := World.block_lt_of_cell? w _ (hc j hj)
    rw [hb.cell (p := ⟨b, off + j, none⟩) hlt]
    exact hc j hj
theorem getD_mem {us : List Nat} {j : Nat} (h : j < us.length) : us[j]?.getD 0 ∈ us := by
  rw [List.getElem?_eq_getElem h]; exact List.getElem_mem h
/-- The sum of a list, as an Acc. -/
def sumO (o : Option Int) (us : List Nat) : Option Int := us.foldl (fun o u => prodO o u 4607182418800017408 0) o
theorem take_snocD {us : List Nat} {k : Nat} (h : k < us.length) : us.take (k + 1) = us.take k ++ [us[k]?.getD 0] := by
  rw [List.take_succ_eq_append_getElem h, List.getElem?_eq_getElem h]; rfl
theorem sumO_snoc (o : Option Int) (us : List Nat) {k : Nat} (h : k < us.length) : sumO o (us.take (k + 1)) = prodO (sumO o (us.take k)) (us[k]?.getD 0) 4607182418800017408 0 := by
  unfold sumO; rw [take_snocD h, List.foldl_append]; rfl
set_option maxRecDepth 100000 in
set_option maxHeartbeats 1000000 in
theorem sum_any (d : Int) (ao : Option Addr) (len cap : Nat) (us : List Nat) (w : World) (h : RdF w ao len cap us) :
    Calls Try.prog 23 #[.int .i64 d, .slice ao len cap] w fun e w' => ∃ u b, e = .returned (.tuple #[.float .f64 u, .bool b]) ∧ RndO d (sumO (some 0) us) u b ∧ Below w.heap.size w w' := by
  have HR : Hid _ := h
  have hmx := h.max
  clear h
  go_enter Try.func23, Try.ntmps23
  go_wp2_with fail
  refine (new_any _).mono ?_
  rintro e w1 ⟨rfl, h1, h2, h3⟩
  have H1 : Hid _ := h1
  have H2 : Hid _ := h2
  clear h1 h2 h3
  go_wp2_with fail
  go_loopw [12] (fun iv wr => ∃ k : Nat, k ≤ len ∧ iv = .int .i64 k ∧ Hid (AccO wr w.heap.size (sumO (some 0) (us.take k))) ∧ Hid (Below w.heap.size w wr)) (fun iv _ => len - (intOf iv).toNat)
  case atStart => exact ⟨0, by omega, rfl, H1, H2⟩
  case round =>
    obtain ⟨k, hk, rfl, K1, K2⟩ := hrel
    by_cases hlt : k < len
    · have hd : decide ((k : Int) < (len : Int)) = true := decide_eq_true (by omega)
      have hr := HR.out.later K2.out
      rcases hr.cells with h0 | ⟨b, off, rfl, hc⟩
      · omega
      · have g0 := hc k hlt
        have hm := getD_mem (us := us) (j := k) (by rw [HR.out.length]; exact hlt)
        have hul := HR.out.lt _ hm
        have HSN : Hid _ := sumO_snoc (some 0) us (k := k) (by rw [HR.out.length]; exact hlt)
        obtain ⟨u, hu⟩ : ∃ u, us[k]?.getD 0 = u := ⟨_, rfl⟩
        rw [hu] at g0 hul HSN
        clear hr hc hm hu
        go_wp2_with fail
        refine (accAdd_any w.heap.size _ u hul _ K1.out).mono ?_
        rintro e w3 ⟨rfl, a1, a2⟩
        have K1' : Hid (AccO w3 w.heap.size (sumO (some 0) (us.take (k + 1)))) := by unfold Hid; rw [HSN.out]; exact a1
        have K2' : Hid (Below w.heap.size w w3) := K2.out.trans a2.below
        clear a1 a2 g0
        go_wp2_with fail
        go_roundw
        case rel => exact ⟨k + 1, by omega, by go_num, K1', K2'⟩
        case measure => simp [intOf]; omega
    · have hkl : k = len := by omega
      have hd : decide ((k : Int) < (len : Int)) = false := decide_eq_false (by omega)
      have K1' : Hid (AccO wr w.heap.size (sumO (some 0) us)) := by
        have := K1.out
        rw [hkl, ← HR.out.length, List.take_length] at this
        exact this
      clear hkl
      go_wp2_with fail
      refine (accRound_any d w.heap.size _ _ K1'.out).mono ?_
      rintro e w3 ⟨u, b, rfl, r1, r2⟩
      have R1 : Hid _ := r1
      have R2 : Hid (Below w.heap.size w w3) := K2.out.trans (r2.mono K2.out.size)
      clear r1 r2
      go_wp2_with fail
      go_ret2
      exact ⟨u, b, rfl, R1.out, R2.out⟩
end Go.Proofs.Ytajopgndpomggaa
