import Derived.Test.YtmbnbleahehdaaaEK
import Derived.Test.YtmbnbleahehdaaaEO
import Derived.Test.YtmbnbleahehdaaaEP
import Derived.Test.YtmbnbleahehdaaaEGc
namespace Go.Proofs.Ytmbnbleahehdaaa
open Go.RowKit
set_option linter.unusedVariables false

theorem ysP_one (q : Int) : ysP q 0 1 0 1 = [(q, 0, 0)] := by
  unfold ysP xsP
  rw [show (1 : Int) = 0 + 1 from rfl, upto_snoc (Int.le_refl 0), upto_none (Int.le_refl 0)]
  rfl
theorem csP_line : ∀ c : Nat, csP 0 (c : Int) 0 1 0 1 = (List.range c).map fun (j : Nat) => ((j : Int), (0 : Int), (0 : Int))
  | 0 => by unfold csP; rw [upto_none (by omega)]; rfl
  | c + 1 => by rw [show ((c + 1 : Nat) : Int) = (c : Int) + 1 by omega, csP_snoc (by omega), csP_line c, ysP_one, List.range_succ, List.map_append]; rfl
theorem mem_line {c : Nat} {p : P3} (h : p ∈ csP 0 (c : Int) 0 1 0 1) : ∃ j : Nat, j < c ∧ p = ((j : Int), (0 : Int), (0 : Int)) := by
  rw [csP_line] at h
  obtain ⟨j, hj, e⟩ := List.mem_map.1 h
  exact ⟨j, List.mem_range.1 hj, e.symm⟩
theorem rowConv (o c i : Nat) (ho : 1 ≤ o ∧ o ≤ 30) (hc : 1 ≤ c ∧ c ≤ 30) (hi : i < o) (wo bo : Option Addr) (wc bc : Nat) (us vs : List Nat) (hwc : o * c ≤ wc) (w : World) (hW : RdF w wo (o * c) wc us) (hB : RdF w bo o bc vs) :
    Calls Try.prog 9 #[.agg #[.int .i64 2, .int .i64 (o : Int), .int .i64 1, .int .i64 1, .int .i64 1, .int .i64 1, .int .i64 0, .int .i64 0, .int .i64 0, .float .f64 0, .slice wo (o * c) wc, .slice bo o bc, .slice none 0 0, .slice none 0 0], .agg #[.int .i64 (c : Int), .int .i64 1, .int .i64 1], .int .i64 (i : Int)] w fun e w' =>
      ∃ v1 v2, e = .returned (.tuple #[v1, v2, .float .f64 (vs[i]?.getD 0), .int .i64 0]) ∧ RowV w' w.heap.size v1 v2 (idx c) (pk us (i * c) c) ∧ Below w.heap.size w w' := by
  have hm : o * c ≤ 900 := Nat.mul_le_mul ho.2 hc.2
  have him : i * c + c ≤ o * c := by rw [← Nat.succ_mul]; exact Nat.mul_le_mul_right c hi
  have hp : IntKind.i64.wrap ((o : Int) * (c : Int)) = ((o * c : Nat) : Int) := by rw [← Int.natCast_mul, IntKind.wrap_i64]; omega
  have hp1 : IntKind.i64.wrap (((o * c : Nat) : Int) * 1) = ((o * c : Nat) : Int) := by rw [Int.mul_one, IntKind.wrap_i64]; omega
  have hic : IntKind.i64.wrap ((i : Int) * (c : Int)) = ((i * c : Nat) : Int) := by rw [← Int.natCast_mul, IntKind.wrap_i64]; omega
  have hsc := szF_one (c : Int) (by omega)
  have hso := szF_one (o : Int) (by omega)
  have hwk : IntKind.i64.wrap ((1 : Int) - 1) = 0 := by decide
  have hfit := fun (v1 v2 v3 v4 : Value) (w : World) => fit_ok 1 256 1 16 1 16 1 16 1 16 0 0 0 0 0 0 0 (o : Int) 1 1 ((o * c : Nat) : Int) (o : Int) 0 0 (c : Int) 1 1 (c : Int) (o : Int) (.int .i64 2) (.int .i64 (o : Int)) (.int .i64 1) (.int .i64 1) (.int .i64 1) (.int .i64 1) (.int .i64 0) (.int .i64 0) (.int .i64 0) (.float .f64 0) v1 v2 v3 v4 w
    (fun w => formConv_any (o : Int) 1 1 1 1 0 0 0 0 v1 v2 v3 v4 (c : Int) 1 1 0 0 1 1 hwk hwk (windows_one 1 (by omega)) (windows_one 1 (by omega)) ((o * c : Nat) : Int) ((o * c : Nat) : Int) ((o * c : Nat) : Int) hp hp1 hp1 w)
    (fun w => fields_ok 1 1 1 1 1 0 0 0 256 16 16 16 16 0 0 0 (o : Int) 1 1 1 1 0 0 0 (o : Int) 1 1 ((o * c : Nat) : Int) (o : Int) 0 0 2 v1 v2 v3 v4 (by omega) (by omega) (by omega) (by omega) (by omega) (leL 0) (leL 0) (leL 0) w) hsc hso
  have hout := fun (v1 v2 v3 v4 : Value) (w : World) => outOf 1 256 1 16 1 16 1 16 1 16 0 0 0 0 0 0 0 (o : Int) 1 1 ((o * c : Nat) : Int) (o : Int) 0 0 (c : Int) 1 1 (.int .i64 2) (.int .i64 (o : Int)) (.int .i64 1) (.int .i64 1) (.int .i64 1) (.int .i64 1) (.int .i64 0) (.int .i64 0) (.int .i64 0) (.float .f64 0) v1 v2 v3 v4 w (hfit v1 v2 v3 v4)
  have hlis := fun (v1 v2 v3 v4 : Value) (w : World) => listsOf 1 256 1 16 1 16 1 16 1 16 0 0 0 0 0 0 0 (o : Int) 1 1 ((o * c : Nat) : Int) (o : Int) 0 0 (c : Int) 1 1 (.int .i64 2) (.int .i64 (o : Int)) (.int .i64 1) (.int .i64 1) (.int .i64 1) (.int .i64 1) (.int .i64 0) (.int .i64 0) (.int .i64 0) (.float .f64 0) v1 v2 v3 v4 w (hfit v1 v2 v3 v4)
  have hcnt := fun (v1 v2 v3 v4 : Value) (w : World) => countOf (c : Int) 1 1 (o : Int) 1 1 (o : Int) (.int .i64 2) (.int .i64 (o : Int)) (.int .i64 1) (.int .i64 1) (.int .i64 1) (.int .i64 1) (.int .i64 0) (.int .i64 0) (.int .i64 0) (.float .f64 0) v1 v2 v3 v4 w (hout v1 v2 v3 v4) (szF_one (o : Int) (by omega))
  have htol := fun (v1 v2 v3 v4 : Value) (w : World) => toldOf (c : Int) 1 1 (o : Int) (i : Int) (.int .i64 2) (.int .i64 (o : Int)) (.int .i64 1) (.int .i64 1) (.int .i64 1) (.int .i64 1) (.int .i64 0) (.int .i64 0) (.int .i64 0) (.float .f64 0) v1 v2 v3 v4 w (hcnt v1 v2 v3 v4) (by omega) (by omega)
  have hhav := fun (w : World) => haveOf 2 (c : Int) 1 1 (i : Int) (.int .i64 (o : Int)) (.int .i64 1) (.int .i64 1) (.int .i64 1) (.int .i64 1) (.int .i64 0) (.int .i64 0) (.int .i64 0) (.float .f64 0) wo bo none none (o * c) wc o bc 0 0 0 0 w ⟨by omega, by omega⟩ (by decide) (hlis _ _ _ _) (htol _ _ _ _)
  refine rowFrom (c : Int) 1 1 (i : Int) (.int .i64 2) (.int .i64 (o : Int)) (.int .i64 1) (.int .i64 1) (.int .i64 1) (.int .i64 1) (.int .i64 0) (.int .i64 0) (.int .i64 0) (.float .f64 0) _ _ _ _ _ _ _ w hhav fun wx hb => ?_
  refine rowOfConv (c : Int) 1 1 (i : Int) (.int .i64 (o : Int)) (.int .i64 1) (.int .i64 1) (.int .i64 1) (.int .i64 1) (.int .i64 0) (.int .i64 0) (.int .i64 0) (.float .f64 0) _ _ _ _ _ _ _ wx fun wy hb' => ?_
  have hby : Below w.heap.size w wy := to_call hb hb'
  have hwin := fun (w : World) => windowC_any (o : Int) 1 1 1 1 0 0 0 0 (.slice wo (o * c) wc) (.slice bo o bc) (.slice none 0 0) (.slice none 0 0) (c : Int) 1 1 (i : Int) 0 0 0 0 0 0 1 1 (c : Int) (by decide) (by decide) (by decide) (by decide) (by decide) (by decide) (by rw [IntKind.wrap_i64]; omega) w
  have hwit := fun (w : World) => withinW_any (.int .i64 2) (.int .i64 (o : Int)) (.int .i64 1) (.int .i64 1) (.int .i64 1) (.int .i64 1) (.int .i64 0) (.int .i64 0) (.int .i64 0) (.float .f64 0) (.slice wo (o * c) wc) (.slice bo o bc) (.slice none 0 0) (.slice none 0 0) (c : Int) 1 1 (i : Int) 0 0 _ _ _ _ _ _ hwin (by omega) (by omega) (by omega) (by omega) (by omega) (by omega) (by omega) (by omega) w
  have hP := fun (w : World) => placeOf_any (i : Int) (o : Int) 1 1 1 (i : Int) (i : Int) 0 0 (by decide) (by decide) (by decide) (by decide) (by rw [Int.tdiv_one]; unfold wrap64; omega) (by rw [Int.tdiv_one]; unfold wrap64; omega) (Int.tmod_one _) (Int.tmod_one _) w
  have hlen : (csP 0 (c : Int) 0 1 0 1).length ≤ 1000 := by rw [csP_line]; simp; omega
  refine Calls.mono (convRow_any (.int .i64 2) (.int .i64 1) (.int .i64 1) (.int .i64 0) (.int .i64 0) (.int .i64 0) (.float .f64 0) (.slice none 0 0) (.slice none 0 0) wo bo (o * c) wc o bc us vs (o : Int) 1 1 (c : Int) 1 1 (o : Int) 1 1 0 0 (i : Int) 0 0 0 (c : Int) 1 1 ((o * c : Nat) : Int) ((i * c : Nat) : Int) i (csP 0 (c : Int) 0 1 0 1) (fun p => p.1) (fun p => p.1) (fun p => p.2.1) (fun p => p.2.2) (fun p => p.1 + ((i * c : Nat) : Int)) (fun p => (p.1 + ((i * c : Nat) : Int)).toNat) hlen hi hp hic
    (fun p hp => ?_) (fun p hp => ?_) (hout _ _ _ _) hP hwin hwit (fun p hp w => ?_) (fun p hp w => ?_) (fun p hp w => ?_) wy (hW.later hby) (hB.later hby)) ?_
  · obtain ⟨j, hj, rfl⟩ := mem_line hp
    rw [IntKind.wrap_i64]; dsimp only; omega
  · obtain ⟨j, hj, rfl⟩ := mem_line hp
    dsimp only; omega
  · obtain ⟨j, hj, rfl⟩ := mem_line hp
    exact index_any (j : Int) 0 0 (c : Int) 1 1 (j : Int) (j : Int) (j : Int) (j : Int) (by rw [IntKind.wrap_i64]; omega) (by rw [IntKind.wrap_i64]; omega) (by rw [IntKind.wrap_i64]; omega) (by rw [IntKind.wrap_i64]; omega) w
  · obtain ⟨j, hj, rfl⟩ := mem_line hp
    exact from_any (j : Int) 0 0 0 0 0 (j : Int) 0 0 (by rw [IntKind.wrap_i64]; omega) (by decide) (by decide) w
  · obtain ⟨j, hj, rfl⟩ := mem_line hp
    have hJ : (((((j : Int), (0 : Int), (0 : Int)) : P3).1 + ((i * c : Nat) : Int)).toNat : Int) = (j : Int) + ((i * c : Nat) : Int) := by dsimp only; omega
    dsimp only at hJ ⊢
    rw [hJ]
    have hjx : (0 : Int) ≤ (j : Int) + ((i * c : Nat) : Int) ∧ (j : Int) + ((i * c : Nat) : Int) ≤ 900 := by omega
    clear hJ
    generalize (j : Int) + ((i * c : Nat) : Int) = x at hjx ⊢
    exact index_any x 0 0 ((o * c : Nat) : Int) 1 1 x x x x (by rw [IntKind.wrap_i64]; omega) (by rw [IntKind.wrap_i64]; omega) (by rw [IntKind.wrap_i64]; omega) (by rw [IntKind.wrap_i64]; omega) w
  · rintro e w' ⟨v1, v2, h1, h2, h3, h4, h5⟩
    refine ⟨v1, v2, h1, h2, h3, ?_, h5⟩
    have e1 : (csP 0 (c : Int) 0 1 0 1).map (fun p => p.1) = idx c := by rw [csP_line, List.map_map]; rfl
    have e2 : (csP 0 (c : Int) 0 1 0 1).map (fun p => us[(p.1 + ((i * c : Nat) : Int)).toNat]?.getD 0) = pk us (i * c) c := by
      rw [csP_line, List.map_map]; unfold pk
      refine List.map_congr_left fun j hj => ?_
      simp only [Function.comp]
      rw [show ((j : Int) + ((i * c : Nat) : Int)).toNat = i * c + j by omega]
    rw [e1, e2] at h4
    exact h4
end Go.Proofs.Ytmbnbleahehdaaa
