import Derived.Test.YtokglpemefkmjaaRWx
namespace Go.Proofs.Ytokglpemefkmjaa
open Go.RowKit
set_option linter.unusedVariables false
set_option linter.unusedSimpArgs false
set_option maxRecDepth 100000 in
set_option maxHeartbeats 8000000 in
theorem rowScaleW (c h k n i : Nat) (hc : 1 ≤ c) (hh : 1 ≤ h) (hk : 1 ≤ k) (hn : c * h * k = n) (hn2 : n ≤ 256) (hi : i < n) (wo bo zo yo : Option Addr) (wc bc zc yc : Nat) (us vs : List Nat) (w : World) (hW : RdF w wo c wc us) (hB : RdF w bo c bc vs) :
    Calls Try.prog 12 #[.agg #[.int .i64 3, .int .i64 0, .int .i64 0, .int .i64 0, .int .i64 0, .int .i64 0, .int .i64 0, .int .i64 0, .int .i64 0, .float .f64 0, .slice wo c wc, .slice bo c bc, .slice zo 0 zc, .slice yo 0 yc], .agg #[.int .i64 (c : Int), .int .i64 (h : Int), .int .i64 (k : Int)], .int .i64 (i : Int)] w fun e w' =>
      ∃ v1 v2, e = .returned (.tuple #[v1, v2, .float .f64 (vs[i / (h * k)]?.getD 0), .int .i64 0]) ∧ RowV w' w.heap.size v1 v2 [(i : Int)] [us[i / (h * k)]?.getD 0] ∧ Below w.heap.size w w' := by
  obtain ⟨m, hm⟩ : ∃ m, h * k = m := ⟨_, rfl⟩
  have hm1 : 1 ≤ m := by rw [← hm]; exact Nat.mul_pos hh hk
  have hcm : c * m = n := by rw [← hm, ← Nat.mul_assoc]; exact hn
  have hmn : m ≤ n := by rw [← hcm]; exact Nat.le_mul_of_pos_left m hc
  have hcn : c ≤ n := by rw [← hcm]; exact Nat.le_mul_of_pos_right c hm1
  have hhm : h ≤ m := by rw [← hm]; exact Nat.le_mul_of_pos_right h hk
  have hkm : k ≤ m := by rw [← hm]; exact Nat.le_mul_of_pos_left k hh
  have hch : c * h ≤ n := by rw [← hn]; exact Nat.le_mul_of_pos_right _ hk
  have hsz : szF [(c : Int), (h : Int), (k : Int)] 1 = ((n : Int), 0) := by
    have e1 : (c : Int) * (h : Int) ≤ 256 := by rw [← Int.natCast_mul]; omega
    have e2 : (c : Int) * (h : Int) * (k : Int) = (n : Int) := by rw [← Int.natCast_mul, ← Int.natCast_mul, hn]
    rw [szF_mk (by omega) (by omega) (by omega) e1 (by rw [e2]; omega), e2]
  obtain ⟨q, hqe⟩ : ∃ q, i / m = q := ⟨_, rfl⟩
  obtain ⟨t, hte⟩ : ∃ t, i / k = t := ⟨_, rfl⟩
  obtain ⟨r, hre⟩ : ∃ r, t % h = r := ⟨_, rfl⟩
  obtain ⟨s, hse⟩ : ∃ s, i % k = s := ⟨_, rfl⟩
  have hq : q < c := by rw [← hqe, Nat.div_lt_iff_lt_mul hm1, hcm]; exact hi
  have hti : t ≤ i := by rw [← hte]; exact Nat.div_le_self i k
  have hr : r < h := by rw [← hre]; exact Nat.mod_lt _ hh
  have hs : s < k := by rw [← hse]; exact Nat.mod_lt _ hk
  have dq : (i : Int).tdiv (m : Int) = (q : Int) := by rw [← hqe]; rfl
  have dt : (i : Int).tdiv (k : Int) = (t : Int) := by rw [← hte]; rfl
  have dr : (t : Int).tmod (h : Int) = (r : Int) := by rw [← hre]; rfl
  have ds : (i : Int).tmod (k : Int) = (s : Int) := by rw [← hse]; rfl
  have hP : ∀ w, Calls Try.prog 27 #[.int .i64 (i : Int), .agg #[.int .i64 (c : Int), .int .i64 (h : Int), .int .i64 (k : Int)]] w fun e w' => e = .returned (.agg #[.int .i64 (q : Int), .int .i64 (r : Int), .int .i64 (s : Int)]) ∧ Below w.heap.size w w' := fun w =>
    placeOf_any (i : Int) (c : Int) (h : Int) (k : Int) (m : Int) (q : Int) (t : Int) (r : Int) (s : Int) (by rw [← Int.natCast_mul, hm, IntKind.wrap_i64]; omega) (by omega) (by omega) (by omega)
      (by rw [dq]; unfold wrap64; omega) (by rw [dt]; unfold wrap64; omega) dr ds w
  rw [hm, hqe]
  have hfit := fun (v1 v2 v3 v4 : Value) (w : World) => fit_ok 0 0 0 0 0 0 0 0 0 0 0 0 0 0 0 0 0 (c : Int) (h : Int) (k : Int) (c : Int) (c : Int) 0 0 (c : Int) (h : Int) (k : Int) (n : Int) (n : Int) (.int .i64 3) (.int .i64 0) (.int .i64 0) (.int .i64 0) (.int .i64 0) (.int .i64 0) (.int .i64 0) (.int .i64 0) (.int .i64 0) (.float .f64 0) v1 v2 v3 v4 w
    (fun w => formScale_any 0 0 0 0 0 0 0 0 0 v1 v2 v3 v4 (c : Int) (h : Int) (k : Int) w)
    (fun w => fields_ok 0 0 0 0 0 0 0 0 0 0 0 0 0 0 0 0 0 0 0 0 0 0 0 0 (c : Int) (h : Int) (k : Int) (c : Int) (c : Int) 0 0 3 v1 v2 v3 v4 (leL 0) (leL 0) (leL 0) (leL 0) (leL 0) (leL 0) (leL 0) (leL 0) w) hsz hsz
  have hout := fun (v1 v2 v3 v4 : Value) (w : World) => outOf 0 0 0 0 0 0 0 0 0 0 0 0 0 0 0 0 0 (c : Int) (h : Int) (k : Int) (c : Int) (c : Int) 0 0 (c : Int) (h : Int) (k : Int) (.int .i64 3) (.int .i64 0) (.int .i64 0) (.int .i64 0) (.int .i64 0) (.int .i64 0) (.int .i64 0) (.int .i64 0) (.int .i64 0) (.float .f64 0) v1 v2 v3 v4 w (hfit v1 v2 v3 v4)
  have hlis := fun (v1 v2 v3 v4 : Value) (w : World) => listsOf 0 0 0 0 0 0 0 0 0 0 0 0 0 0 0 0 0 (c : Int) (h : Int) (k : Int) (c : Int) (c : Int) 0 0 (c : Int) (h : Int) (k : Int) (.int .i64 3) (.int .i64 0) (.int .i64 0) (.int .i64 0) (.int .i64 0) (.int .i64 0) (.int .i64 0) (.int .i64 0) (.int .i64 0) (.float .f64 0) v1 v2 v3 v4 w (hfit v1 v2 v3 v4)
  have hcnt := fun (v1 v2 v3 v4 : Value) (w : World) => countOf (c : Int) (h : Int) (k : Int) (c : Int) (h : Int) (k : Int) (n : Int) (.int .i64 3) (.int .i64 0) (.int .i64 0) (.int .i64 0) (.int .i64 0) (.int .i64 0) (.int .i64 0) (.int .i64 0) (.int .i64 0) (.float .f64 0) v1 v2 v3 v4 w (hout v1 v2 v3 v4) hsz
  have htol := fun (v1 v2 v3 v4 : Value) (w : World) => toldOf (c : Int) (h : Int) (k : Int) (n : Int) (i : Int) (.int .i64 3) (.int .i64 0) (.int .i64 0) (.int .i64 0) (.int .i64 0) (.int .i64 0) (.int .i64 0) (.int .i64 0) (.int .i64 0) (.float .f64 0) v1 v2 v3 v4 w (hcnt v1 v2 v3 v4) (by omega) (by omega)
  have hhav := fun (w : World) => haveOf 3 (c : Int) (h : Int) (k : Int) (i : Int) (.int .i64 0) (.int .i64 0) (.int .i64 0) (.int .i64 0) (.int .i64 0) (.int .i64 0) (.int .i64 0) (.int .i64 0) (.float .f64 0) wo bo zo yo c wc c bc 0 zc 0 yc w ⟨by omega, by omega⟩ (by decide) (hlis _ _ _ _) (htol _ _ _ _)
  refine rowFrom (c : Int) (h : Int) (k : Int) (i : Int) (.int .i64 3) (.int .i64 0) (.int .i64 0) (.int .i64 0) (.int .i64 0) (.int .i64 0) (.int .i64 0) (.int .i64 0) (.int .i64 0) (.float .f64 0) _ _ _ _ _ _ _ w hhav fun wx hb => ?_
  refine rowOfScale (c : Int) (h : Int) (k : Int) (i : Int) (.int .i64 0) (.int .i64 0) (.int .i64 0) (.int .i64 0) (.int .i64 0) (.int .i64 0) (.int .i64 0) (.int .i64 0) (.float .f64 0) _ _ _ _ _ _ _ wx fun wy hb' => ?_
  have hby : Below w.heap.size w wy := to_call hb hb'
  exact scaleRow_any (.int .i64 3) (.int .i64 0) (.int .i64 0) (.int .i64 0) (.int .i64 0) (.int .i64 0) (.int .i64 0) (.int .i64 0) (.int .i64 0) (.float .f64 0) _ _ wo bo c wc c bc us vs (c : Int) (h : Int) (k : Int) _ _ _ (i : Int) q rfl hq hq hP wy (hW.later hby) (hB.later hby)
end Go.Proofs.Ytokglpemefkmjaa
