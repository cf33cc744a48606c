import Derived.Test.YtogdfdhdmfkmaaaGreatGJb
import Derived.Test.YtogdfdhdmfkmaaaGreatMS
namespace Go.Proofs.YtogdfdhdmfkmaaaGreat
open Go.RowKit
set_option linter.unusedVariables false
set_option linter.unusedSimpArgs false

theorem RndO.ltJ {d : Int} {o : Option Int} {u : Nat} {b : Bool} (h : RndO d o u b) : u < 18446744073709551616 := by
  cases o with
  | none => rw [h.1]; decide
  | some z =>
    obtain ⟨a, ha⟩ : ∃ a : Nat, a = 1166 := ⟨_, rfl⟩
    exact (tell_fin (h a ha)).2
end Go.Proofs.YtogdfdhdmfkmaaaGreat


namespace Go.Proofs.YtogdfdhdmfkmaaaGreat
open Go.RowKit
set_option linter.unusedVariables false
set_option linter.unusedSimpArgs false

end Go.Proofs.YtogdfdhdmfkmaaaGreat


namespace Go.Proofs.YtogdfdhdmfkmaaaGreat
open Go.RowKit
set_option linter.unusedVariables false
set_option linter.unusedSimpArgs false

theorem plainM_ltJ {x : Nat} (h : x < 18446744073709551616) : plainM x < 18446744073709551616 := by unfold plainM; split <;> omega
end Go.Proofs.YtogdfdhdmfkmaaaGreat


namespace Go.Proofs.YtogdfdhdmfkmaaaGreat
open Go.RowKit
set_option linter.unusedVariables false
set_option linter.unusedSimpArgs false

theorem drop_eqI {is js : List Int} {k : Nat} (h1 : k < is.length) (h2 : k < js.length) : decide (is.drop k = js.drop k) = (decide (is[k]?.getD 0 = js[k]?.getD 0) && decide (is.drop (k + 1) = js.drop (k + 1))) := by
  rw [List.drop_eq_getElem_cons h1, List.drop_eq_getElem_cons h2, List.getElem?_eq_getElem h1, List.getElem?_eq_getElem h2]
  simp only [List.cons.injEq, Option.getD_some, Bool.decide_and]
end Go.Proofs.YtogdfdhdmfkmaaaGreat


namespace Go.Proofs.YtogdfdhdmfkmaaaGreat
open Go.RowKit Go.Shelf
set_option linter.unusedVariables false
set_option linter.unusedSimpArgs false

theorem neq_ord {u v : Nat} (hu : Fin u) (hv : Fin v) : (FloatKind.f64.format.order u v == some Ordering.eq) = decide (srung u = srung v) := by
  have ho := order_rung (x := u) (y := v) (Nat.le_of_lt hu) (Nat.le_of_lt hv)
  rw [f64_fmtJ, ho]
  by_cases h : srung u = srung v
  · rw [Int.compare_eq_eq.2 h, decide_eq_true h]; rfl
  · rw [decide_eq_false h]
    by_cases h2 : srung u < srung v
    · rw [Int.compare_eq_lt.2 h2]; rfl
    · rw [Int.compare_eq_gt.2 (by omega)]; rfl
theorem neq_ordN {u v : Nat} (hu : Fin u) (hv : Fin v) : (FloatKind.f64.format.order u v != some Ordering.eq) = !decide (srung u = srung v) := by
  rw [← neq_ord hu hv]; rfl
end Go.Proofs.YtogdfdhdmfkmaaaGreat


namespace Go.Proofs.YtogdfdhdmfkmaaaGreat
open Go.RowKit Go.Shelf
set_option linter.unusedVariables false
set_option linter.unusedSimpArgs false

end Go.Proofs.YtogdfdhdmfkmaaaGreat


namespace Go.Proofs.YtogdfdhdmfkmaaaGreat
open Go.RowKit Go.Shelf
set_option linter.unusedVariables false
set_option linter.unusedSimpArgs false

/-- What a call takes a zonotope for. -/
def badZD : ZD := ⟨0, none, 0, 0, none, 0, 0, none, 0, 0, none, 0, 0, true, [], [], fun _ => (none, 0, 0), [], []⟩
def tkZ (z : ZD) : ZD := if checkB z then z else badZD
def zRow (z : ZD) : Array Value := #[.int .i64 z.N, .slice z.co z.cn z.cc, .slice z.io z.dn z.dc, .slice z.go z.gn z.gc, .slice z.ro z.rn z.rc, .bool z.bad]
theorem badZD_ZR (w : World) : ZR w badZD := ⟨⟨rfl, Nat.zero_le _, fun u hu => (by cases hu), .inl rfl⟩, ⟨rfl, Nat.zero_le _, .inl rfl⟩, ⟨rfl, Nat.zero_le _, .inl rfl, fun j hj => absurd hj (Nat.not_lt_zero _)⟩, ⟨rfl, Nat.zero_le _, fun u hu => (by cases hu), .inl rfl⟩⟩
theorem tkZ_ZR {w : World} {z : ZD} (h : ZR w z) : ZR w (tkZ z) := by
  unfold tkZ
  split
  · exact h
  · exact badZD_ZR w
theorem takenZ_any (z : ZD) (w : World) (hz : ZR w z) : Calls Tryz.prog 35 #[.agg (zRow z)] w fun e w' => e = .returned (.agg (zRow (tkZ z))) ∧ Below w.heap.size w w' := by
  unfold tkZ
  cases hc : checkB z with
  | true => exact taken_ok z w hz hc
  | false => exact taken_no z w hz hc
theorem colsB_mem (z : ZD) : ∀ (ks : List (_root_.Fin z.dn)) (last : Int), colsB z last ks = true → ∀ k ∈ ks, ∃ l, colOk z l k = true
  | [], _, _, k, hk => by cases hk
  | c :: ks, last, h, k, hk => by
    unfold colsB at h
    rw [Bool.and_eq_true] at h
    rcases List.mem_cons.1 hk with rfl | hk
    · exact ⟨_, h.1⟩
    · exact colsB_mem z ks _ h.2 k hk
/-- All numbers of it are numbers. -/
structure FinZ (z : ZD) : Prop where
  c : ∀ u ∈ z.cs, Fin u
  r : ∀ u ∈ z.rs, Fin u
  g : ∀ l ∈ z.gs, ∀ u ∈ l, Fin u
theorem tkZ_fin {w : World} {z : ZD} (h : ZR w z) : FinZ (tkZ z) := by
  unfold tkZ
  cases hc : checkB z with
  | false => exact ⟨fun u hu => (by cases hu), fun u hu => (by cases hu), fun u hu => (by cases hu)⟩
  | true =>
    simp only [if_true]
    unfold checkB at hc
    cases hb : z.bad with
    | true =>
      rw [hb] at hc
      simp only [if_true, bareB, Bool.and_eq_true, decide_eq_true_eq] at hc
      have e1 : z.cs = [] := List.length_eq_zero_iff.1 (by rw [h.c.length]; omega)
      have e2 : z.rs = [] := List.length_eq_zero_iff.1 (by rw [h.r.length]; omega)
      have e3 : z.gs = [] := List.length_eq_zero_iff.1 (by rw [h.g.length]; omega)
      exact ⟨fun u hu => (by rw [e1] at hu; cases hu), fun u hu => (by rw [e2] at hu; cases hu), fun u hu => (by rw [e3] at hu; cases hu)⟩
    | false =>
      rw [hb] at hc
      simp only [Bool.false_eq_true, if_false, wholeB, Bool.and_eq_true, decide_eq_true_eq] at hc
      refine ⟨(numN_fin hc.1.1.1.1.2).2, (numN_fin hc.1.1.1.2).2, fun l hl => ?_⟩
      obtain ⟨j, hj, rfl⟩ := List.getElem_of_mem hl
      have hj2 : j < z.dn := by have := h.g.length; omega
      obtain ⟨la, hok⟩ := colsB_mem z _ _ hc.2 ⟨j, hj2⟩ (List.mem_finRange _)
      unfold colOk at hok
      simp only [Bool.and_eq_true] at hok
      have := (numN_fin hok.2).2
      rw [show z.gs[(⟨j, hj2⟩ : _root_.Fin z.dn).val]? = some z.gs[j] from List.getElem?_eq_getElem hj] at this
      exact this
end Go.Proofs.YtogdfdhdmfkmaaaGreat

