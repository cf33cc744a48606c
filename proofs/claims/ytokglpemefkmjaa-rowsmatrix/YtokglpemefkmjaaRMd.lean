import Derived.Test.YtokglpemefkmjaaRWx
namespace Go.Proofs.Ytokglpemefkmjaa
open Go.RowKit
set_option linter.unusedVariables false
set_option linter.unusedSimpArgs false
set_option maxRecDepth 100000 in
set_option maxHeartbeats 8000000 in
theorem kitDW {C H K o n L : Nat} (c1 : 1 ≤ C) (h1 : 1 ≤ H) (k1 : 1 ≤ K) (hch : C * H * K ≤ 256) (hn : C * H * K = n) (hL : o * n = L) (ho : 1 ≤ o ∧ o ≤ 256) (wo bo zo yo : Option Addr) (wc bc zc yc : Nat) (hwc : L ≤ wc) (us vs : List Nat) :
    (∀ w, Calls Try.prog 11 #[.agg #[.int .i64 1, .int .i64 (o : Int), .int .i64 0, .int .i64 0, .int .i64 0, .int .i64 0, .int .i64 0, .int .i64 0, .int .i64 0, .float .f64 0, .slice wo L wc, .slice bo o bc, .slice zo 0 zc, .slice yo 0 yc], .agg #[.int .i64 (C : Int), .int .i64 (H : Int), .int .i64 (K : Int)]] w fun e w' => e = .returned (.tuple #[.int .i64 (o : Int), .int .i64 0]) ∧ Below w.heap.size w w') ∧
    ∀ i : Nat, i < o → ∀ w, RdF w wo L wc us → RdF w bo o bc vs → Calls Try.prog 12 #[.agg #[.int .i64 1, .int .i64 (o : Int), .int .i64 0, .int .i64 0, .int .i64 0, .int .i64 0, .int .i64 0, .int .i64 0, .int .i64 0, .float .f64 0, .slice wo L wc, .slice bo o bc, .slice zo 0 zc, .slice yo 0 yc], .agg #[.int .i64 (C : Int), .int .i64 (H : Int), .int .i64 (K : Int)], .int .i64 (i : Int)] w fun e w' =>
      ∃ v1 v2, e = .returned (.tuple #[v1, v2, .float .f64 (vs[i]?.getD 0), .int .i64 0]) ∧ RowV w' w.heap.size v1 v2 (idx n) (pk us (i * n) n) ∧ Below w.heap.size w w' := by
  obtain ⟨hC, hH, hK⟩ := le_prod3 c1 h1 k1 hch
  have hn1 : 1 ≤ n := by rw [← hn]; exact Nat.mul_pos (Nat.mul_pos c1 h1) k1
  have hn2 : n ≤ 256 := by omega
  have hm : o * n ≤ 256 * 256 := Nat.mul_le_mul ho.2 hn2
  rw [hL] at hm
  have hp : IntKind.i64.wrap ((o : Int) * (n : Int)) = (L : Int) := by rw [← Int.natCast_mul, hL, IntKind.wrap_i64]; omega
  have hsc : szF [(C : Int), (H : Int), (K : Int)] 1 = ((n : Int), 0) := by
    have e1 : (C : Int) * (H : Int) ≤ 256 := by rw [← Int.natCast_mul]; have := Nat.le_mul_of_pos_right (C * H) (show 0 < K by omega); omega
    have e2 : (C : Int) * (H : Int) * (K : Int) = (n : Int) := by rw [← Int.natCast_mul, ← Int.natCast_mul, hn]
    rw [szF_mk (by omega) (by omega) (by omega) e1 (by rw [e2]; omega), e2]
  have hso : szF [(o : Int), 1, 1] 1 = ((o : Int), 0) := by rw [szF_mk (by omega) (by omega) (by omega) (by omega) (by omega), Int.mul_one, Int.mul_one]
  have hfit := fun (v1 v2 v3 v4 : Value) (w : World) => fit_ok 1 256 0 0 0 0 0 0 0 0 0 0 0 0 0 0 0 (o : Int) 1 1 (L : Int) (o : Int) 0 0 (C : Int) (H : Int) (K : Int) (n : Int) (o : Int) (.int .i64 1) (.int .i64 (o : Int)) (.int .i64 0) (.int .i64 0) (.int .i64 0) (.int .i64 0) (.int .i64 0) (.int .i64 0) (.int .i64 0) (.float .f64 0) v1 v2 v3 v4 w
    (fun w => formDense_any (o : Int) 0 0 0 0 0 0 0 0 v1 v2 v3 v4 (C : Int) (H : Int) (K : Int) (n : Int) (L : Int) hsc hp w)
    (fun w => fields_ok 1 0 0 0 0 0 0 0 256 0 0 0 0 0 0 0 (o : Int) 0 0 0 0 0 0 0 (o : Int) 1 1 (L : Int) (o : Int) 0 0 1 v1 v2 v3 v4 (by omega) (leL 0) (leL 0) (leL 0) (leL 0) (leL 0) (leL 0) (leL 0) w) hsc hso
  have hout := fun (v1 v2 v3 v4 : Value) (w : World) => outOf 1 256 0 0 0 0 0 0 0 0 0 0 0 0 0 0 0 (o : Int) 1 1 (L : Int) (o : Int) 0 0 (C : Int) (H : Int) (K : Int) (.int .i64 1) (.int .i64 (o : Int)) (.int .i64 0) (.int .i64 0) (.int .i64 0) (.int .i64 0) (.int .i64 0) (.int .i64 0) (.int .i64 0) (.float .f64 0) v1 v2 v3 v4 w (hfit v1 v2 v3 v4)
  have hlis := fun (v1 v2 v3 v4 : Value) (w : World) => listsOf 1 256 0 0 0 0 0 0 0 0 0 0 0 0 0 0 0 (o : Int) 1 1 (L : Int) (o : Int) 0 0 (C : Int) (H : Int) (K : Int) (.int .i64 1) (.int .i64 (o : Int)) (.int .i64 0) (.int .i64 0) (.int .i64 0) (.int .i64 0) (.int .i64 0) (.int .i64 0) (.int .i64 0) (.float .f64 0) v1 v2 v3 v4 w (hfit v1 v2 v3 v4)
  have hcnt := fun (v1 v2 v3 v4 : Value) (w : World) => countOf (C : Int) (H : Int) (K : Int) (o : Int) 1 1 (o : Int) (.int .i64 1) (.int .i64 (o : Int)) (.int .i64 0) (.int .i64 0) (.int .i64 0) (.int .i64 0) (.int .i64 0) (.int .i64 0) (.int .i64 0) (.float .f64 0) v1 v2 v3 v4 w (hout v1 v2 v3 v4) hso
  refine ⟨fun w => hcnt _ _ _ _ w, fun i hi w hW hB => ?_⟩
  have htol := fun (v1 v2 v3 v4 : Value) (w : World) => toldOf (C : Int) (H : Int) (K : Int) (o : Int) (i : Int) (.int .i64 1) (.int .i64 (o : Int)) (.int .i64 0) (.int .i64 0) (.int .i64 0) (.int .i64 0) (.int .i64 0) (.int .i64 0) (.int .i64 0) (.float .f64 0) v1 v2 v3 v4 w (hcnt v1 v2 v3 v4) (by omega) (by omega)
  have hhav := fun (w : World) => haveOf 1 (C : Int) (H : Int) (K : Int) (i : Int) (.int .i64 (o : Int)) (.int .i64 0) (.int .i64 0) (.int .i64 0) (.int .i64 0) (.int .i64 0) (.int .i64 0) (.int .i64 0) (.float .f64 0) wo bo zo yo L wc o bc 0 zc 0 yc w ⟨by omega, by omega⟩ (by decide) (hlis _ _ _ _) (htol _ _ _ _)
  refine rowFrom (C : Int) (H : Int) (K : Int) (i : Int) (.int .i64 1) (.int .i64 (o : Int)) (.int .i64 0) (.int .i64 0) (.int .i64 0) (.int .i64 0) (.int .i64 0) (.int .i64 0) (.int .i64 0) (.float .f64 0) _ _ _ _ _ _ _ w hhav fun wx hb => ?_
  refine rowOfDense (C : Int) (H : Int) (K : Int) (i : Int) (.int .i64 (o : Int)) (.int .i64 0) (.int .i64 0) (.int .i64 0) (.int .i64 0) (.int .i64 0) (.int .i64 0) (.int .i64 0) (.float .f64 0) _ _ _ _ _ _ _ wx fun wy hb' => ?_
  have hby : Below w.heap.size w wy := to_call hb hb'
  have hLe : (i + 1) * n ≤ L := by rw [← hL]; exact Nat.mul_le_mul_right n hi
  exact denseRow_any (.int .i64 1) (.int .i64 (o : Int)) (.int .i64 0) (.int .i64 0) (.int .i64 0) (.int .i64 0) (.int .i64 0) (.int .i64 0) (.int .i64 0) (.float .f64 0) _ _ wo bo L wc o bc us vs (C : Int) (H : Int) (K : Int) n i hsc ⟨hn1, hn2⟩ hi (by omega) hLe hwc wy (hW.later hby) (hB.later hby)
end Go.Proofs.Ytokglpemefkmjaa
