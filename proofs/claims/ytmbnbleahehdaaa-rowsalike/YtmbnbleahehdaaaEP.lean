import Derived.Test.YtmbnbleahehdaaaEO
import Derived.Test.YtmbnbleahehdaaaEJ
import Derived.Test.YtmbnbleahehdaaaED
import Derived.Test.YtmbnbleahehdaaaEE
namespace Go.Proofs.Ytmbnbleahehdaaa
open Go.RowKit
set_option linter.unusedVariables false

theorem rowScale (c h k n i : Nat) (hc : 1 ≤ c) (hh : 1 ≤ h) (hk : 1 ≤ k) (hn : c * h * k = n) (hn2 : n ≤ 256) (hi : i < n) (wo bo : Option Addr) (wc bc : Nat) (us vs : List Nat) (w : World) (hW : RdF w wo c wc us) (hB : RdF w bo c bc vs) :
    Calls Try.prog 9 #[.agg #[.int .i64 3, .int .i64 0, .int .i64 0, .int .i64 0, .int .i64 0, .int .i64 0, .int .i64 0, .int .i64 0, .int .i64 0, .float .f64 0, .slice wo c wc, .slice bo c bc, .slice none 0 0, .slice none 0 0], .agg #[.int .i64 (c : Int), .int .i64 (h : Int), .int .i64 (k : Int)], .int .i64 (i : Int)] w fun e w' =>
      ∃ v1 v2, e = .returned (.tuple #[v1, v2, .float .f64 (vs[i / (h * k)]?.getD 0), .int .i64 0]) ∧ RowV w' w.heap.size v1 v2 [(i : Int)] [us[i / (h * k)]?.getD 0] ∧ Below w.heap.size w w' := by
  obtain ⟨m, hm⟩ : ∃ m, h * k = m := ⟨_, rfl⟩
  have hm1 : 1 ≤ m := by rw [← hm]; exact Nat.mul_pos hh hk
  have hcm : c * m = n := by rw [← hm, ← Nat.mul_assoc]; exact hn
  have hmn : m ≤ n := by rw [← hcm]; exact Nat.le_mul_of_pos_left m hc
  have hcn : c ≤ n := by rw [← hcm]; exact Nat.le_mul_of_pos_right c hm1
  have hhm : h ≤ m := by rw [← hm]; exact Nat.le_mul_of_pos_right h hk
  have hkm : k ≤ m := by rw [← hm]; exact Nat.le_mul_of_pos_left k hh
  have hch : c * h ≤ n := by rw [← hn]; exact Nat.le_mul_of_pos_right _ hk
  have hsz : szF [(c : Int), (h : Int), (k : Int)] 1 = ((n : Int), 0) := by
    have e1 : (c : Int) * (h : Int) ≤ 256 := by rw [← Int.natCast_mul]; omega
    have e2 : (c : Int) * (h : Int) * (k : Int) = (n : Int) := by rw [← Int.natCast_mul, ← Int.natCast_mul, hn]
    rw [szF_mk (by omega) (by omega) (by omega) e1 (by rw [e2]; omega), e2]
  obtain ⟨q, hqe⟩ : ∃ q, i / m = q := ⟨_, rfl⟩
  obtain ⟨t, hte⟩ : ∃ t, i / k = t := ⟨_, rfl⟩
  obtain ⟨r, hre⟩ : ∃ r, t % h = r := ⟨_, rfl⟩
  obtain ⟨s, hse⟩ : ∃ s, i % k = s := ⟨_, rfl⟩
  have hq : q < c := by rw [← hqe, Nat.div_lt_iff_lt_mul hm1, hcm]; exact hi
  have hti : t ≤ i := by rw [← hte]; exact Nat.div_le_self i k
  have hr : r < h := by rw [← hre]; exact Nat.mod_lt _ hh
  have hs : s < k := by rw [← hse]; exact Nat.mod_lt _ hk
  have dq : (i : Int).tdiv (m : Int) = (q : Int) := by rw [← hqe]; rfl
  have dt : (i : Int).tdiv (k : Int) = (t : Int) := by rw [← hte]; rfl
  have dr : (t : Int).tmod (h : Int) = (r : Int) := by rw [← hre]; rfl
  have ds : (i : Int).tmod (k : Int) = (s : Int) := by rw [← hse]; rfl
  have hP : ∀ w, Calls Try.prog 23 #[.int .i64 (i : Int), .agg #[.int .i64 (c : Int), .int .i64 (h : Int), .int .i64 (k : Int)]] w fun e w' => e = .returned (.agg #[.int .i64 (q : Int), .int .i64 (r : Int), .int .i64 (s : Int)]) ∧ Below w.heap.size w w' := fun w =>
    placeOf_any (i : Int) (c : Int) (h : Int) (k : Int) (m : Int) (q : Int) (t : Int) (r : Int) (s : Int) (by rw [← Int.natCast_mul, hm, IntKind.wrap_i64]; omega) (by omega) (by omega) (by omega)
      (by rw [dq]; unfold wrap64; omega) (by rw [dt]; unfold wrap64; omega) dr ds w
  rw [hm, hqe]
  have hfit := fun (v1 v2 v3 v4 : Value) (w : World) => fit_ok 0 0 0 0 0 0 0 0 0 0 0 0 0 0 0 0 0 (c : Int) (h : Int) (k : Int) (c : Int) (c : Int) 0 0 (c : Int) (h : Int) (k : Int) (n : Int) (n : Int) (.int .i64 3) (.int .i64 0) (.int .i64 0) (.int .i64 0) (.int .i64 0) (.int .i64 0) (.int .i64 0) (.int .i64 0) (.int .i64 0) (.float .f64 0) v1 v2 v3 v4 w
    (fun w => formScale_any 0 0 0 0 0 0 0 0 0 v1 v2 v3 v4 (c : Int) (h : Int) (k : Int) w)
    (fun w => fields_ok 0 0 0 0 0 0 0 0 0 0 0 0 0 0 0 0 0 0 0 0 0 0 0 0 (c : Int) (h : Int) (k : Int) (c : Int) (c : Int) 0 0 3 v1 v2 v3 v4 (leL 0) (leL 0) (leL 0) (leL 0) (leL 0) (leL 0) (leL 0) (leL 0) w) hsz hsz
  have hout := fun (v1 v2 v3 v4 : Value) (w : World) => outOf 0 0 0 0 0 0 0 0 0 0 0 0 0 0 0 0 0 (c : Int) (h : Int) (k : Int) (c : Int) (c : Int) 0 0 (c : Int) (h : Int) (k : Int) (.int .i64 3) (.int .i64 0) (.int .i64 0) (.int .i64 0) (.int .i64 0) (.int .i64 0) (.int .i64 0) (.int .i64 0) (.int .i64 0) (.float .f64 0) v1 v2 v3 v4 w (hfit v1 v2 v3 v4)
  have hlis := fun (v1 v2 v3 v4 : Value) (w : World) => listsOf 0 0 0 0 0 0 0 0 0 0 0 0 0 0 0 0 0 (c : Int) (h : Int) (k : Int) (c : Int) (c : Int) 0 0 (c : Int) (h : Int) (k : Int) (.int .i64 3) (.int .i64 0) (.int .i64 0) (.int .i64 0) (.int .i64 0) (.int .i64 0) (.int .i64 0) (.int .i64 0) (.int .i64 0) (.float .f64 0) v1 v2 v3 v4 w (hfit v1 v2 v3 v4)
  have hcnt := fun (v1 v2 v3 v4 : Value) (w : World) => countOf (c : Int) (h : Int) (k : Int) (c : Int) (h : Int) (k : Int) (n : Int) (.int .i64 3) (.int .i64 0) (.int .i64 0) (.int .i64 0) (.int .i64 0) (.int .i64 0) (.int .i64 0) (.int .i64 0) (.int .i64 0) (.float .f64 0) v1 v2 v3 v4 w (hout v1 v2 v3 v4) hsz
  have htol := fun (v1 v2 v3 v4 : Value) (w : World) => toldOf (c : Int) (h : Int) (k : Int) (n : Int) (i : Int) (.int .i64 3) (.int .i64 0) (.int .i64 0) (.int .i64 0) (.int .i64 0) (.int .i64 0) (.int .i64 0) (.int .i64 0) (.int .i64 0) (.float .f64 0) v1 v2 v3 v4 w (hcnt v1 v2 v3 v4) (by omega) (by omega)
  have hhav := fun (w : World) => haveOf 3 (c : Int) (h : Int) (k : Int) (i : Int) (.int .i64 0) (.int .i64 0) (.int .i64 0) (.int .i64 0) (.int .i64 0) (.int .i64 0) (.int .i64 0) (.int .i64 0) (.float .f64 0) wo bo none none c wc c bc 0 0 0 0 w ⟨by omega, by omega⟩ (by decide) (hlis _ _ _ _) (htol _ _ _ _)
  refine rowFrom (c : Int) (h : Int) (k : Int) (i : Int) (.int .i64 3) (.int .i64 0) (.int .i64 0) (.int .i64 0) (.int .i64 0) (.int .i64 0) (.int .i64 0) (.int .i64 0) (.int .i64 0) (.float .f64 0) _ _ _ _ _ _ _ w hhav fun wx hb => ?_
  refine rowOfScale (c : Int) (h : Int) (k : Int) (i : Int) (.int .i64 0) (.int .i64 0) (.int .i64 0) (.int .i64 0) (.int .i64 0) (.int .i64 0) (.int .i64 0) (.int .i64 0) (.float .f64 0) _ _ _ _ _ _ _ wx fun wy hb' => ?_
  have hby : Below w.heap.size w wy := to_call hb hb'
  exact scaleRow_any (.int .i64 3) (.int .i64 0) (.int .i64 0) (.int .i64 0) (.int .i64 0) (.int .i64 0) (.int .i64 0) (.int .i64 0) (.int .i64 0) (.float .f64 0) _ _ wo bo c wc c bc us vs (c : Int) (h : Int) (k : Int) _ _ _ (i : Int) q rfl hq hq hP wy (hW.later hby) (hB.later hby)
theorem csP_point (q r s : Int) : csP q (q + 1) r (r + 1) s (s + 1) = [(q, r, s)] := by
  unfold csP ysP xsP
  rw [upto_snoc (Int.le_refl q), upto_snoc (Int.le_refl r), upto_snoc (Int.le_refl s), upto_none (Int.le_refl q), upto_none (Int.le_refl r), upto_none (Int.le_refl s)]
  rfl
theorem rowMean (c h k n i : Nat) (hc : 1 ≤ c) (hh : 1 ≤ h) (hk : 1 ≤ k) (hn : c * h * k = n) (hn2 : n ≤ 256) (hi : i < n) (A : Nat) (hA : A < 18446744073709551616) (hF : Fin A) (w : World) :
    Calls Try.prog 9 #[.agg #[.int .i64 4, .int .i64 0, .int .i64 1, .int .i64 1, .int .i64 1, .int .i64 1, .int .i64 0, .int .i64 0, .int .i64 0, .float .f64 A, .slice none 0 0, .slice none 0 0, .slice none 0 0, .slice none 0 0], .agg #[.int .i64 (c : Int), .int .i64 (h : Int), .int .i64 (k : Int)], .int .i64 (i : Int)] w fun e w' =>
      ∃ v1 v2, e = .returned (.tuple #[v1, v2, .float .f64 0, .int .i64 0]) ∧ RowV w' w.heap.size v1 v2 [(i : Int)] [A] ∧ Below w.heap.size w w' := by
  obtain ⟨m, hm⟩ : ∃ m, h * k = m := ⟨_, rfl⟩
  have hm1 : 1 ≤ m := by rw [← hm]; exact Nat.mul_pos hh hk
  have hcm : c * m = n := by rw [← hm, ← Nat.mul_assoc]; exact hn
  have hmn : m ≤ n := by rw [← hcm]; exact Nat.le_mul_of_pos_left m hc
  have hcn : c ≤ n := by rw [← hcm]; exact Nat.le_mul_of_pos_right c hm1
  have hhm : h ≤ m := by rw [← hm]; exact Nat.le_mul_of_pos_right h hk
  have hkm : k ≤ m := by rw [← hm]; exact Nat.le_mul_of_pos_left k hh
  have hch : c * h ≤ n := by rw [← hn]; exact Nat.le_mul_of_pos_right _ hk
  have hsz : szF [(c : Int), (h : Int), (k : Int)] 1 = ((n : Int), 0) := by
    have e1 : (c : Int) * (h : Int) ≤ 256 := by rw [← Int.natCast_mul]; omega
    have e2 : (c : Int) * (h : Int) * (k : Int) = (n : Int) := by rw [← Int.natCast_mul, ← Int.natCast_mul, hn]
    rw [szF_mk (by omega) (by omega) (by omega) e1 (by rw [e2]; omega), e2]
  obtain ⟨q, hqe⟩ : ∃ q, i / m = q := ⟨_, rfl⟩
  obtain ⟨t, hte⟩ : ∃ t, i / k = t := ⟨_, rfl⟩
  obtain ⟨r, hre⟩ : ∃ r, t % h = r := ⟨_, rfl⟩
  obtain ⟨s, hse⟩ : ∃ s, i % k = s := ⟨_, rfl⟩
  have hq : q < c := by rw [← hqe, Nat.div_lt_iff_lt_mul hm1, hcm]; exact hi
  have hti : t ≤ i := by rw [← hte]; exact Nat.div_le_self i k
  have hr : r < h := by rw [← hre]; exact Nat.mod_lt _ hh
  have hs : s < k := by rw [← hse]; exact Nat.mod_lt _ hk
  have dq : (i : Int).tdiv (m : Int) = (q : Int) := by rw [← hqe]; rfl
  have dt : (i : Int).tdiv (k : Int) = (t : Int) := by rw [← hte]; rfl
  have dr : (t : Int).tmod (h : Int) = (r : Int) := by rw [← hre]; rfl
  have ds : (i : Int).tmod (k : Int) = (s : Int) := by rw [← hse]; rfl
  have hP : ∀ w, Calls Try.prog 23 #[.int .i64 (i : Int), .agg #[.int .i64 (c : Int), .int .i64 (h : Int), .int .i64 (k : Int)]] w fun e w' => e = .returned (.agg #[.int .i64 (q : Int), .int .i64 (r : Int), .int .i64 (s : Int)]) ∧ Below w.heap.size w w' := fun w =>
    placeOf_any (i : Int) (c : Int) (h : Int) (k : Int) (m : Int) (q : Int) (t : Int) (r : Int) (s : Int) (by rw [← Int.natCast_mul, hm, IntKind.wrap_i64]; omega) (by omega) (by omega) (by omega)
      (by rw [dq]; unfold wrap64; omega) (by rw [dt]; unfold wrap64; omega) dr ds w
  have hwk : IntKind.i64.wrap ((1 : Int) - 1) = 0 := by decide
  have hfit := fun (v1 v2 v3 v4 : Value) (w : World) => fit_ok 0 0 1 16 1 16 1 16 1 16 0 0 0 0 0 0 1 (c : Int) (h : Int) (k : Int) 0 0 0 0 (c : Int) (h : Int) (k : Int) (n : Int) (n : Int) (.int .i64 4) (.int .i64 0) (.int .i64 1) (.int .i64 1) (.int .i64 1) (.int .i64 1) (.int .i64 0) (.int .i64 0) (.int .i64 0) (.float .f64 A) v1 v2 v3 v4 w
    (fun w => formMean_any 0 1 1 1 1 0 0 0 A v1 v2 v3 v4 (c : Int) (h : Int) (k : Int) 0 0 (h : Int) (k : Int) hwk hwk (windows_one (h : Int) (by omega)) (windows_one (k : Int) (by omega)) w)
    (fun w => fieldsA_ok A hA hF 0 1 1 1 1 0 0 0 0 16 16 16 16 0 0 0 0 1 1 1 1 0 0 0 (c : Int) (h : Int) (k : Int) 0 0 0 0 4 v1 v2 v3 v4 (leL 0) (by omega) (by omega) (by omega) (by omega) (leL 0) (leL 0) (leL 0) w) hsz hsz
  have hout := fun (v1 v2 v3 v4 : Value) (w : World) => outOf 0 0 1 16 1 16 1 16 1 16 0 0 0 0 0 0 1 (c : Int) (h : Int) (k : Int) 0 0 0 0 (c : Int) (h : Int) (k : Int) (.int .i64 4) (.int .i64 0) (.int .i64 1) (.int .i64 1) (.int .i64 1) (.int .i64 1) (.int .i64 0) (.int .i64 0) (.int .i64 0) (.float .f64 A) v1 v2 v3 v4 w (hfit v1 v2 v3 v4)
  have hlis := fun (v1 v2 v3 v4 : Value) (w : World) => listsOf 0 0 1 16 1 16 1 16 1 16 0 0 0 0 0 0 1 (c : Int) (h : Int) (k : Int) 0 0 0 0 (c : Int) (h : Int) (k : Int) (.int .i64 4) (.int .i64 0) (.int .i64 1) (.int .i64 1) (.int .i64 1) (.int .i64 1) (.int .i64 0) (.int .i64 0) (.int .i64 0) (.float .f64 A) v1 v2 v3 v4 w (hfit v1 v2 v3 v4)
  have hcnt := fun (v1 v2 v3 v4 : Value) (w : World) => countOf (c : Int) (h : Int) (k : Int) (c : Int) (h : Int) (k : Int) (n : Int) (.int .i64 4) (.int .i64 0) (.int .i64 1) (.int .i64 1) (.int .i64 1) (.int .i64 1) (.int .i64 0) (.int .i64 0) (.int .i64 0) (.float .f64 A) v1 v2 v3 v4 w (hout v1 v2 v3 v4) hsz
  have htol := fun (v1 v2 v3 v4 : Value) (w : World) => toldOf (c : Int) (h : Int) (k : Int) (n : Int) (i : Int) (.int .i64 4) (.int .i64 0) (.int .i64 1) (.int .i64 1) (.int .i64 1) (.int .i64 1) (.int .i64 0) (.int .i64 0) (.int .i64 0) (.float .f64 A) v1 v2 v3 v4 w (hcnt v1 v2 v3 v4) (by omega) (by omega)
  have hhav := fun (w : World) => haveOf 4 (c : Int) (h : Int) (k : Int) (i : Int) (.int .i64 0) (.int .i64 1) (.int .i64 1) (.int .i64 1) (.int .i64 1) (.int .i64 0) (.int .i64 0) (.int .i64 0) (.float .f64 A) none none none none 0 0 0 0 0 0 0 0 w ⟨by omega, by omega⟩ (by decide) (hlis _ _ _ _) (htol _ _ _ _)
  refine rowFrom (c : Int) (h : Int) (k : Int) (i : Int) (.int .i64 4) (.int .i64 0) (.int .i64 1) (.int .i64 1) (.int .i64 1) (.int .i64 1) (.int .i64 0) (.int .i64 0) (.int .i64 0) (.float .f64 A) _ _ _ _ _ _ _ w hhav fun wx hb => ?_
  refine rowOfMean (c : Int) (h : Int) (k : Int) (i : Int) (.int .i64 0) (.int .i64 1) (.int .i64 1) (.int .i64 1) (.int .i64 1) (.int .i64 0) (.int .i64 0) (.int .i64 0) (.float .f64 A) _ _ _ _ _ _ _ wx fun wy hb' => ?_
  have hwin := fun (w : World) => windowM_any 0 1 1 1 1 0 0 0 A (.slice none 0 0) (.slice none 0 0) (.slice none 0 0) (.slice none 0 0) (c : Int) (h : Int) (k : Int) (q : Int) (r : Int) (s : Int) (r : Int) (r : Int) (s : Int) (s : Int) ((r : Int) + 1) ((s : Int) + 1) ((q : Int) + 1) (by rw [IntKind.wrap_i64]; omega) (by rw [IntKind.wrap_i64]; omega) (by rw [IntKind.wrap_i64]; omega) (by rw [IntKind.wrap_i64]; omega) (by rw [IntKind.wrap_i64]; omega) (by rw [IntKind.wrap_i64]; omega) (by rw [IntKind.wrap_i64]; omega) w
  have hwit := fun (w : World) => withinW_any (.int .i64 4) (.int .i64 0) (.int .i64 1) (.int .i64 1) (.int .i64 1) (.int .i64 1) (.int .i64 0) (.int .i64 0) (.int .i64 0) (.float .f64 A) (.slice none 0 0) (.slice none 0 0) (.slice none 0 0) (.slice none 0 0) (c : Int) (h : Int) (k : Int) (q : Int) (r : Int) (s : Int) _ _ _ _ _ _ hwin (by omega) (by omega) (by omega) (by omega) (by omega) (by omega) (by omega) (by omega) w
  rw [csP_point] at hwit
  have hidx : (q * h + r) * k + s = i := by
    have e1 : q = t / h := by rw [← hqe, ← hte, Nat.div_div_eq_div_mul, Nat.mul_comm k h, hm]
    rw [e1, ← hre, ← hse, Nat.mul_comm (t / h) h, Nat.div_add_mod, ← hte, Nat.mul_comm, Nat.div_add_mod]
  have hqh : q * h ≤ i := Nat.le_trans (Nat.le_trans (Nat.le_mul_of_pos_right _ hk) (Nat.mul_le_mul_right k (Nat.le_add_right (q * h) r))) (by omega)
  have hqk : (q * h + r) * k ≤ i := by omega
  have hqr : q * h + r ≤ i := Nat.le_trans (Nat.le_mul_of_pos_right _ hk) hqk
  refine Calls.mono (meanRow_any (.int .i64 4) (.int .i64 0) (.int .i64 1) (.int .i64 1) (.int .i64 1) (.int .i64 1) (.int .i64 0) (.int .i64 0) (.int .i64 0) (.slice none 0 0) (.slice none 0 0) (.slice none 0 0) (.slice none 0 0) A (c : Int) (h : Int) (k : Int) (c : Int) (h : Int) (k : Int) (q : Int) (r : Int) (s : Int) (i : Int) [((q : Int), (r : Int), (s : Int))] (fun _ => (i : Int)) (by simp) (hout _ _ _ _) hP hwit (fun p hp w => ?_) wy) ?_
  · obtain rfl : p = ((q : Int), (r : Int), (s : Int)) := by simpa using hp
    exact index_any (q : Int) (r : Int) (s : Int) (c : Int) (h : Int) (k : Int) ((q * h : Nat) : Int) ((q * h + r : Nat) : Int) (((q * h + r) * k : Nat) : Int) (i : Int) (by rw [← Int.natCast_mul, IntKind.wrap_i64]; omega) (by rw [IntKind.wrap_i64]; omega) (by rw [← Int.natCast_mul, IntKind.wrap_i64]; omega) (by rw [IntKind.wrap_i64]; omega) w
  · rintro e w' ⟨v1, v2, h1, h2, h3, h4, h5⟩
    exact ⟨v1, v2, h1, h2, h3, h4, h5⟩
end Go.Proofs.Ytmbnbleahehdaaa
