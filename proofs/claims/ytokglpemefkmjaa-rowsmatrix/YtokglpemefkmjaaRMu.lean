import Derived.Test.YtokglpemefkmjaaRMt
namespace Go.Proofs.Ytokglpemefkmjaa
open Go.RowKit
set_option linter.unusedVariables false
set_option linter.unusedSimpArgs false
set_option maxRecDepth 100000 in
set_option maxHeartbeats 8000000 in
theorem countS (c h k n : Nat) (hc : 1 ≤ c) (hh : 1 ≤ h) (hk : 1 ≤ k) (hn : c * h * k = n) (hn2 : n ≤ 256) (wo bo zo yo : Option Addr) (wc bc zc yc : Nat) (w : World) :
    Calls Try.prog 11 #[.agg #[.int .i64 3, .int .i64 0, .int .i64 0, .int .i64 0, .int .i64 0, .int .i64 0, .int .i64 0, .int .i64 0, .int .i64 0, .float .f64 0, .slice wo c wc, .slice bo c bc, .slice zo 0 zc, .slice yo 0 yc], .agg #[.int .i64 (c : Int), .int .i64 (h : Int), .int .i64 (k : Int)]] w fun e w' => e = .returned (.tuple #[.int .i64 (n : Int), .int .i64 0]) ∧ Below w.heap.size w w' := by
  have hch : c * h ≤ n := by rw [← hn]; exact Nat.le_mul_of_pos_right _ hk
  have hcn : c ≤ n := Nat.le_trans (Nat.le_mul_of_pos_right c hh) hch
  have hsz : szF [(c : Int), (h : Int), (k : Int)] 1 = ((n : Int), 0) := by
    have e1 : (c : Int) * (h : Int) ≤ 256 := by rw [← Int.natCast_mul]; omega
    have e2 : (c : Int) * (h : Int) * (k : Int) = (n : Int) := by rw [← Int.natCast_mul, ← Int.natCast_mul, hn]
    rw [szF_mk (by omega) (by omega) (by omega) e1 (by rw [e2]; omega), e2]
  have hfit := fun (v1 v2 v3 v4 : Value) (w : World) => fit_ok 0 0 0 0 0 0 0 0 0 0 0 0 0 0 0 0 0 (c : Int) (h : Int) (k : Int) (c : Int) (c : Int) 0 0 (c : Int) (h : Int) (k : Int) (n : Int) (n : Int) (.int .i64 3) (.int .i64 0) (.int .i64 0) (.int .i64 0) (.int .i64 0) (.int .i64 0) (.int .i64 0) (.int .i64 0) (.int .i64 0) (.float .f64 0) v1 v2 v3 v4 w
    (fun w => formScale_any 0 0 0 0 0 0 0 0 0 v1 v2 v3 v4 (c : Int) (h : Int) (k : Int) w)
    (fun w => fields_ok 0 0 0 0 0 0 0 0 0 0 0 0 0 0 0 0 0 0 0 0 0 0 0 0 (c : Int) (h : Int) (k : Int) (c : Int) (c : Int) 0 0 3 v1 v2 v3 v4 (leL 0) (leL 0) (leL 0) (leL 0) (leL 0) (leL 0) (leL 0) (leL 0) w) hsz hsz
  have hout := fun (v1 v2 v3 v4 : Value) (w : World) => outOf 0 0 0 0 0 0 0 0 0 0 0 0 0 0 0 0 0 (c : Int) (h : Int) (k : Int) (c : Int) (c : Int) 0 0 (c : Int) (h : Int) (k : Int) (.int .i64 3) (.int .i64 0) (.int .i64 0) (.int .i64 0) (.int .i64 0) (.int .i64 0) (.int .i64 0) (.int .i64 0) (.int .i64 0) (.float .f64 0) v1 v2 v3 v4 w (hfit v1 v2 v3 v4)
  have hcnt := fun (v1 v2 v3 v4 : Value) (w : World) => countOf (c : Int) (h : Int) (k : Int) (c : Int) (h : Int) (k : Int) (n : Int) (.int .i64 3) (.int .i64 0) (.int .i64 0) (.int .i64 0) (.int .i64 0) (.int .i64 0) (.int .i64 0) (.int .i64 0) (.int .i64 0) (.float .f64 0) v1 v2 v3 v4 w (hout v1 v2 v3 v4) hsz
  exact hcnt _ _ _ _ w
theorem w2_t {o t : Nat} (h : 2 * o = t) (ht : t ≤ 256) : IntKind.i64.wrap (2 * (o : Int)) = (t : Int) := by rw [IntKind.wrap_i64]; omega
theorem wN_t {L : Nat} (h : L ≤ 128 * 128) : IntKind.i64.wrap (L : Int) = (L : Int) := by rw [IntKind.wrap_i64]; omega
theorem tm_2 {n p : Nat} (h : n = 2 * p) : (n : Int).tmod 2 = 0 := by rw [Int.tmod_eq_emod_of_nonneg (by omega)]; omega
theorem td_2 {n p : Nat} (h : n / 2 = p) (hp : p ≤ 128) : wrap64 ((n : Int).tdiv 2) = (p : Int) := by rw [Int.tdiv_eq_ediv_of_nonneg (by omega)]; unfold wrap64; omega
theorem tm_E {n : Nat} (h : n % 2 = 0) : (n : Int).tmod 2 = 0 := by rw [Int.tmod_eq_emod_of_nonneg (by omega)]; omega
theorem tm_O {n : Nat} (h : ¬ n % 2 = 0) : (n : Int).tmod 2 = 1 := by rw [Int.tmod_eq_emod_of_nonneg (by omega)]; omega
set_option maxRecDepth 100000 in
set_option maxHeartbeats 8000000 in
theorem kitTW {C H K o n p L : Nat} (c1 : 1 ≤ C) (h1 : 1 ≤ H) (k1 : 1 ≤ K) (hch : C * H * K ≤ 256) (hn : C * H * K = n) (hnp : n = 2 * p) (hL : o * p = L) (ho : 1 ≤ o ∧ o ≤ 128) (wo bo zo yo : Option Addr) (wc bc zc yc : Nat) (fz gz fy gy : Nat → Int) (b1 : ∀ j, -9 ≤ fz j ∧ fz j ≤ 9) (b2 : ∀ j, -9 ≤ gz j ∧ gz j ≤ 9) :
    (∀ w, Calls Try.prog 11 #[.agg #[.int .i64 6, .int .i64 (o : Int), .int .i64 0, .int .i64 0, .int .i64 0, .int .i64 0, .int .i64 0, .int .i64 0, .int .i64 0, .float .f64 0, .slice wo 0 wc, .slice bo 0 bc, .slice zo L zc, .slice yo o yc], .agg #[.int .i64 (C : Int), .int .i64 (H : Int), .int .i64 (K : Int)]] w fun e w' => e = .returned (.tuple #[.int .i64 ((2 * o : Nat) : Int), .int .i64 0]) ∧ Below w.heap.size w w') ∧
    ∀ i : Nat, i < 2 * o → ∀ w, RdC2 w zo L zc (fun j => flZ (fz j)) (fun j => flZ (gz j)) → RdC2 w yo o yc (fun j => flZ (fy j)) (fun j => flZ (gy j)) → Calls Try.prog 12 #[.agg #[.int .i64 6, .int .i64 (o : Int), .int .i64 0, .int .i64 0, .int .i64 0, .int .i64 0, .int .i64 0, .int .i64 0, .int .i64 0, .float .f64 0, .slice wo 0 wc, .slice bo 0 bc, .slice zo L zc, .slice yo o yc], .agg #[.int .i64 (C : Int), .int .i64 (H : Int), .int .i64 (K : Int)], .int .i64 (i : Int)] w fun e w' =>
      ∃ v1 v2, e = .returned (.tuple #[v1, v2, .float .f64 (if i % 2 = 0 then flZ (fy (i / 2)) else flZ (gy (i / 2))), .int .i64 0]) ∧ RowV w' w.heap.size v1 v2 (idx n) (if i % 2 = 0 then twE fz gz (i / 2 * p) p else twO fz gz (i / 2 * p) p) ∧ Below w.heap.size w w' := by
  obtain ⟨hC, hH, hK⟩ := le_prod3 c1 h1 k1 hch
  have hn1 : 1 ≤ n := by rw [← hn]; exact Nat.mul_pos (Nat.mul_pos c1 h1) k1
  have hn2 : n ≤ 256 := by omega
  have hm : o * p ≤ 128 * 128 := Nat.mul_le_mul ho.2 (by omega)
  rw [hL] at hm
  obtain ⟨t, ht⟩ : ∃ t : Nat, 2 * o = t := ⟨_, rfl⟩
  have hbp : p ≤ 128 := by omega
  have hbt : t ≤ 256 := by omega
  have hsc : szF [(C : Int), (H : Int), (K : Int)] 1 = ((n : Int), 0) := by
    have e1 : (C : Int) * (H : Int) ≤ 256 := by rw [← Int.natCast_mul]; have := Nat.le_mul_of_pos_right (C * H) (show 0 < K by omega); omega
    have e2 : (C : Int) * (H : Int) * (K : Int) = (n : Int) := by rw [← Int.natCast_mul, ← Int.natCast_mul, hn]
    rw [szF_mk (by omega) (by omega) (by omega) e1 (by rw [e2]; omega), e2]
  have hso : szF [(t : Int), 1, 1] 1 = ((t : Int), 0) := by rw [szF_mk (by omega) (by omega) (by omega) (by omega) (by omega), Int.mul_one, Int.mul_one]
  have hwt : Hid (IntKind.i64.wrap (2 * (o : Int)) = (t : Int)) := w2_t ht hbt
  have hnm : Hid ((n : Int).tmod 2 = 0) := tm_2 hnp
  have hnq : Hid (wrap64 ((n : Int).tdiv 2) = (p : Int)) := td_2 (by omega) hbp
  have hp : Hid (IntKind.i64.wrap ((o : Int) * (p : Int)) = (L : Int)) := by unfold Hid; rw [← Int.natCast_mul, hL]; exact wN_t hm
  rw [ht]
  have hfit := fun (v1 v2 v3 v4 : Value) (w : World) => fit_ok 1 128 0 0 0 0 0 0 0 0 0 0 0 0 0 0 0 (t : Int) 1 1 0 0 (L : Int) (o : Int) (C : Int) (H : Int) (K : Int) (n : Int) (t : Int) (.int .i64 6) (.int .i64 (o : Int)) (.int .i64 0) (.int .i64 0) (.int .i64 0) (.int .i64 0) (.int .i64 0) (.int .i64 0) (.int .i64 0) (.float .f64 0) v1 v2 v3 v4 w
    (fun w => formTurnG (o : Int) 0 0 0 0 0 0 0 0 v1 v2 v3 v4 (C : Int) (H : Int) (K : Int) (n : Int) (t : Int) (p : Int) (L : Int) hsc hnm.out hwt.out hnq.out hp.out w)
    (fun w => fields_ok 1 0 0 0 0 0 0 0 128 0 0 0 0 0 0 0 (o : Int) 0 0 0 0 0 0 0 (t : Int) 1 1 0 0 (L : Int) (o : Int) 6 v1 v2 v3 v4 (by omega) (leL 0) (leL 0) (leL 0) (leL 0) (leL 0) (leL 0) (leL 0) w) hsc hso
  have hout := fun (v1 v2 v3 v4 : Value) (w : World) => outOf 1 128 0 0 0 0 0 0 0 0 0 0 0 0 0 0 0 (t : Int) 1 1 0 0 (L : Int) (o : Int) (C : Int) (H : Int) (K : Int) (.int .i64 6) (.int .i64 (o : Int)) (.int .i64 0) (.int .i64 0) (.int .i64 0) (.int .i64 0) (.int .i64 0) (.int .i64 0) (.int .i64 0) (.float .f64 0) v1 v2 v3 v4 w (hfit v1 v2 v3 v4)
  have hlis := fun (v1 v2 v3 v4 : Value) (w : World) => listsOf 1 128 0 0 0 0 0 0 0 0 0 0 0 0 0 0 0 (t : Int) 1 1 0 0 (L : Int) (o : Int) (C : Int) (H : Int) (K : Int) (.int .i64 6) (.int .i64 (o : Int)) (.int .i64 0) (.int .i64 0) (.int .i64 0) (.int .i64 0) (.int .i64 0) (.int .i64 0) (.int .i64 0) (.float .f64 0) v1 v2 v3 v4 w (hfit v1 v2 v3 v4)
  have hcnt := fun (v1 v2 v3 v4 : Value) (w : World) => countOf (C : Int) (H : Int) (K : Int) (t : Int) 1 1 (t : Int) (.int .i64 6) (.int .i64 (o : Int)) (.int .i64 0) (.int .i64 0) (.int .i64 0) (.int .i64 0) (.int .i64 0) (.int .i64 0) (.int .i64 0) (.float .f64 0) v1 v2 v3 v4 w (hout v1 v2 v3 v4) hso
  refine ⟨fun w => hcnt _ _ _ _ w, fun i hi w hW hB => ?_⟩
  have htol := fun (v1 v2 v3 v4 : Value) (w : World) => toldOf (C : Int) (H : Int) (K : Int) (t : Int) (i : Int) (.int .i64 6) (.int .i64 (o : Int)) (.int .i64 0) (.int .i64 0) (.int .i64 0) (.int .i64 0) (.int .i64 0) (.int .i64 0) (.int .i64 0) (.float .f64 0) v1 v2 v3 v4 w (hcnt v1 v2 v3 v4) (by omega) (by omega)
  have hhav := fun (w : World) => haveOf 6 (C : Int) (H : Int) (K : Int) (i : Int) (.int .i64 (o : Int)) (.int .i64 0) (.int .i64 0) (.int .i64 0) (.int .i64 0) (.int .i64 0) (.int .i64 0) (.int .i64 0) (.float .f64 0) wo bo zo yo 0 wc 0 bc L zc o yc w ⟨by omega, by omega⟩ (by decide) (hlis _ _ _ _) (htol _ _ _ _)
  refine rowFrom (C : Int) (H : Int) (K : Int) (i : Int) (.int .i64 6) (.int .i64 (o : Int)) (.int .i64 0) (.int .i64 0) (.int .i64 0) (.int .i64 0) (.int .i64 0) (.int .i64 0) (.int .i64 0) (.float .f64 0) _ _ _ _ _ _ _ w hhav fun wx hb => ?_
  refine rowOfTurn (C : Int) (H : Int) (K : Int) (i : Int) (.int .i64 (o : Int)) (.int .i64 0) (.int .i64 0) (.int .i64 0) (.int .i64 0) (.int .i64 0) (.int .i64 0) (.int .i64 0) (.float .f64 0) _ _ _ _ _ _ _ wx fun wy hb' => ?_
  have hby : Below w.heap.size w wy := to_call hb hb'
  obtain ⟨q, hq⟩ : ∃ q, i / 2 = q := ⟨_, rfl⟩
  have hqo : q < o := by omega
  have hLe : (q + 1) * p ≤ L := by rw [← hL]; exact Nat.mul_le_mul_right p hqo
  have hiq : Hid (wrap64 ((i : Int).tdiv 2) = (q : Int)) := td_2 hq (by omega)
  rw [hq]
  by_cases he : i % 2 = 0
  · rw [if_pos he, if_pos he]
    have h9 := turnRowE (.int .i64 6) (.int .i64 (o : Int)) (.int .i64 0) (.int .i64 0) (.int .i64 0) (.int .i64 0) (.int .i64 0) (.int .i64 0) (.int .i64 0) (.float .f64 0) (.slice wo 0 wc) (.slice bo 0 bc) zo yo L zc o yc fz gz _ _ _ _ (fun _ => rfl) (fun _ => rfl) b1 b2 (C : Int) (H : Int) (K : Int) (n : Int) (i : Int) p q hsc hnq.out hiq.out (tm_E he) ⟨by omega, by omega⟩ hqo ho.2 hLe wy (hW.later hby) (hB.later hby)
    rw [show 2 * p = n by omega] at h9
    exact h9
  · rw [if_neg he, if_neg he]
    have h9 := turnRowO (.int .i64 6) (.int .i64 (o : Int)) (.int .i64 0) (.int .i64 0) (.int .i64 0) (.int .i64 0) (.int .i64 0) (.int .i64 0) (.int .i64 0) (.float .f64 0) (.slice wo 0 wc) (.slice bo 0 bc) zo yo L zc o yc fz gz _ _ _ _ (fun _ => rfl) (fun _ => rfl) b1 b2 (C : Int) (H : Int) (K : Int) (n : Int) (i : Int) p q hsc hnq.out hiq.out (tm_O he) ⟨by omega, by omega⟩ hqo ho.2 hLe wy (hW.later hby) (hB.later hby)
    rw [show 2 * p = n by omega] at h9
    exact h9
end Go.Proofs.Ytokglpemefkmjaa
