import Derived.Test.YtgjdmenmegnacaaLRoundPlays
import Derived.Test.YtgjdmenmegnacaaFlat
import Derived.Test.YtgjdmenmegnacaaRows
import Derived.ChangeSame
import Derived.JoinedOf
import Derived.JoinedAt
import Derived.JoinedStill
import Derived.RowKit
import Derived.ProofKit
import Derived.Seven
import Derived.Laws.Cover2
import Derived.WalkKit
import Derived.OpenShut
import Derived.ChangeOld
import Derived.Below
import Derived.Deep.DeepHandedRow
import Derived.Lib.LaidTab
namespace Go.Proofs.Ytgjdmenmegnacaa.roundPlaysDone
open Go.ChangeShapes Go.WideShapes Go.ChangeAt Go.RowKit
set_option linter.unusedVariables false
set_option maxRecDepth 100000
theorem own : ownKnob Try.prog.godebug = none := by kernel_rfl
theorem laidOut : laidOutB Try.prog = true := by kernel_rfl
theorem i64_bounds {n : Int} (h : (Lit.int .i64 n).wf = true) : -9223372036854775808 ≤ n ∧ n ≤ 9223372036854775807 := by
  have h2 : (decide ((-9223372036854775808 : Int) ≤ n) && decide (n ≤ 9223372036854775807)) = true := h
  simpa using h2
theorem f64_lt {b : Nat} (h : (Lit.float .f64 b).wf = true) : b < 18446744073709551616 := by simpa [Lit.wf] using h
def numOf : Value → Int
  | .int _ n => n
  | _ => 0
def fltOf : Value → Nat
  | .float _ n => n
  | _ => 0
def cellOf (W : World) (a : Addr) : Value := (W.cell? a).getD undef
def opAt (W : World) (b off : Nat) (j : Nat) : OpV := ⟨numOf (cellOf W ⟨b, off + 5 * j, none⟩), numOf (cellOf W ⟨b, off + 5 * j + 1, none⟩), fltOf (cellOf W ⟨b, off + 5 * j + 2, none⟩), fltOf (cellOf W ⟨b, off + 5 * j + 3, none⟩), numOf (cellOf W ⟨b, off + 5 * j + 4, none⟩)⟩
/-- A slice of calls that came in. -/
theorem rdO_of_trod {P : Program} {H : Type} {enc : TypeId × Value → H} {W : World} {T E : TypeId} {f0 f1 f2 f3 f4 : Field} {a : Option Addr} {len cap : Nat} {d : DataW H} {p : List MemPlace}
    (hT : P.underlying T = some (.slice E)) (hE : P.underlying E = some (.struct #[f0, f1, f2, f3, f4])) (ce : P.cellsOf E = 5) (o0 : f0.offset = 0 ∧ P.cellsOf f0.type = 1) (o1 : f1.offset = 1 ∧ P.cellsOf f1.type = 1) (o2 : f2.offset = 2 ∧ P.cellsOf f2.type = 1) (o3 : f3.offset = 3 ∧ P.cellsOf f3.type = 1) (o4 : f4.offset = 4 ∧ P.cellsOf f4.type = 1)
    (q0 : P.underlying f0.type = some (.int .i64)) (q1 : P.underlying f1.type = some (.int .i64)) (q2 : P.underlying f2.type = some (.float .f64)) (q3 : P.underlying f3.type = some (.float .f64)) (q4 : P.underlying f4.type = some (.int .i64)) (h : DataW.Trod enc P W 0 (fun _ => true) true T (.slice a len cap) d p) : ∃ F, RdO W a len cap F := by
  obtain ⟨fuel, hf⟩ := h
  rcases open_slice_flat hT hE ce (by
      intro k f hk
      match k, hk with
      | 0, hk => cases hk; exact o0
      | 1, hk => cases hk; exact o1
      | 2, hk => cases hk; exact o2
      | 3, hk => cases hk; exact o3
      | 4, hk => cases hk; exact o4) hf with hcs | ⟨x, l, c, m, n, hcs, hl, hm, hmm, hcell⟩
  · simp [Value.cells] at hcs
    obtain ⟨rfl, rfl, rfl⟩ := hcs
    exact ⟨fun _ => ⟨0, 0, 0, 0, 0⟩, Nat.le_refl _, by decide, (fun j hj => by omega), .inl rfl⟩
  · simp [Value.cells] at hcs
    obtain ⟨rfl, rfl, rfl⟩ := hcs
    simp only [if_true] at hmm
    subst hmm
    by_cases h0 : len = 0
    · subst h0
      exact ⟨fun _ => ⟨0, 0, 0, 0, 0⟩, hl, hm, (fun j hj => by omega), .inl rfl⟩
    obtain ⟨b, off, spot⟩ := x
    have hspot : spot = none := by
      obtain ⟨v, y, hc, _⟩ := hcell 0 (by omega) 0 f0 rfl
      simpa [Addr.add] using World.cell?_spot hc
    subst hspot
    have key : ∀ j, j < len → (W.cell? ⟨b, off + 5 * j, none⟩ = some (.int .i64 (opAt W b off j).c) ∧ W.cell? ⟨b, off + 5 * j + 1, none⟩ = some (.int .i64 (opAt W b off j).d) ∧ W.cell? ⟨b, off + 5 * j + 2, none⟩ = some (.float .f64 (opAt W b off j).a) ∧ W.cell? ⟨b, off + 5 * j + 3, none⟩ = some (.float .f64 (opAt W b off j).b) ∧ W.cell? ⟨b, off + 5 * j + 4, none⟩ = some (.int .i64 (opAt W b off j).n)) ∧ (-9223372036854775808 ≤ (opAt W b off j).d ∧ (opAt W b off j).d ≤ 9223372036854775807) ∧ (opAt W b off j).a < 18446744073709551616 ∧ (opAt W b off j).b < 18446744073709551616 := by
      intro j hj
      obtain ⟨v0, y0, c0, t0⟩ := hcell j (by omega) 0 f0 rfl
      obtain ⟨v1, y1, c1, t1⟩ := hcell j (by omega) 1 f1 rfl
      obtain ⟨v2, y2, c2, t2⟩ := hcell j (by omega) 2 f2 rfl
      obtain ⟨v3, y3, c3, t3⟩ := hcell j (by omega) 3 f3 rfl
      obtain ⟨v4, y4, c4, t4⟩ := hcell j (by omega) 4 f4 rfl
      obtain ⟨a0, e0, _, w0⟩ := DataW.trod_int q0 t0
      obtain ⟨a1, e1, _, w1⟩ := DataW.trod_int q1 t1
      obtain ⟨a2, e2, _, w2⟩ := trod_float q2 t2
      obtain ⟨a3, e3, _, w3⟩ := trod_float q3 t3
      obtain ⟨a4, e4, _, w4⟩ := DataW.trod_int q4 t4
      simp only [List.cons.injEq, and_true] at e0 e1 e2 e3 e4
      subst e0 e1 e2 e3 e4
      have hs : (#[f0, f1, f2, f3, f4] : Array Field).size = 5 := rfl
      rw [hs, Addr.add_lit] at c0 c1 c2 c3 c4
      rw [Nat.mul_comm j 5] at c0 c1 c2 c3 c4
      rw [Nat.add_zero] at c0
      rw [← Nat.add_assoc] at c1 c2 c3 c4
      have b1 := i64_bounds w1
      have b2 := f64_lt w2
      have b3 := f64_lt w3
      unfold opAt cellOf
      rw [c0, c1, c2, c3, c4]
      exact ⟨⟨rfl, rfl, rfl, rfl, rfl⟩, b1, b2, b3⟩
    exact ⟨opAt W b off, hl, hm, fun j hj => (key j hj).2, .inr ⟨b, off, rfl, fun j hj => (key j hj).1⟩⟩
theorem reads (os : Os) {H : Type} (enc : TypeId × Value → H) : ∃ places, DataW.whole enc Try.prog ((World.holding Try.prog os ⟨#[], #[], []⟩).forCall (fun _ _ => 0) ⟨#[], #[.slice none 0 0], []⟩).memory Try.f7.params.toList Rows.roundPlaysSpec.vars false #[Value.slice none 0 0].toList 8 = some ([.nil], [], places) :=
  ⟨[], by kernel_rfl⟩
theorem contract (H : Type) (enc : TypeId × Value → H) (W : World) (base : Nat) (args : Array Value) (ds gs : List (DataW H)) (before : List MemPlace)
    (hval : ∀ (j : Nat) t v, Try.f7.params[j]? = some t → args[j]? = some v → Value.okWide Try.prog W .any base t v)
    (hW : DataW.Whole enc Try.prog Try.f7.params.toList Rows.roundPlaysSpec.vars false W args.toList ds gs before) :
    Calls Try.prog 7 args W fun e W' => ∃ v, e = .returned v ∧ Rows.roundPlaysSpec.post enc Try.prog Try.f7 false true false false W args v W' := by
  have hW' := hW
  obtain ⟨p, q, hA0, hV, rfl, hfz, hnd⟩ := hW
  have hA : DataW.TrodAll enc Try.prog W 0 (fun _ => true) true Try.f7.params.toList args.toList ds p := hA0
  rw [Try.params7] at hA hval
  obtain ⟨v0, vs0, d0, ds0, p0, q0, hargs, rfl, rfl, h0, r0⟩ := trodAll_cons hA
  obtain ⟨rfl, rfl, rfl⟩ := trodAll_nil r0
  obtain rfl : args = #[v0] := by cases args; simp_all
  obtain ⟨rfl, rfl⟩ := trodVars_none hV
  obtain ⟨b0, len0, cap0, rfl⟩ := okWide_slice Try.underlying36 (hval 0 36 v0 rfl rfl)
  have k0 := h0
  have lt0 : ∀ x ∈ p0, x.block < W.heap.size := by obtain ⟨m, hm⟩ := k0; exact DataW.trod_lt m _ _ _ hm
  obtain ⟨z0, w0⟩ : ∃ F, RdO W b0 len0 cap0 F := rdO_of_trod Try.underlying36 Try.underlying38 (by kernel_rfl) ⟨rfl, by kernel_rfl⟩ ⟨rfl, by kernel_rfl⟩ ⟨rfl, by kernel_rfl⟩ ⟨rfl, by kernel_rfl⟩ ⟨rfl, by kernel_rfl⟩ Try.underlying3 Try.underlying3 Try.underlying22 Try.underlying22 Try.underlying3 h0
  clear hA0
  refine (roundPlays_walk b0 len0 cap0 z0 W w0).mono fun e W' ⟨he, bel⟩ => ?_
  subst he
  exact ⟨_, rfl, _, _, _, [], _, [], hW', trodAll_mk1 (shut_bool Try.underlying4 _), (trodAll_cons_mk (Below.trod laidOut (by kernel_rfl) (of_decide_eq_true (by kernel_rfl)) k0 bel lt0) trodAll_mk0), rfl, bel.frame _, fun h => by cases h⟩
theorem lifted (os : Os) (started : os.Started) (H : Type) (enc : TypeId × Value → H) (F : Stop.Interp) :
    ReturnsInHanded {} Try.checked os 7 .any ((OpenSpec.ofChange Rows.roundPlaysSpec).preRow enc Try.prog Try.f7 Rows.roundPlaysRow.domain false Rows.roundPlaysRow.laid) (((OpenSpec.ofChange Rows.roundPlaysSpec).at F).post enc Try.prog Try.f7 false true false false) := by
  obtain ⟨places, hx⟩ := reads os enc
  refine returnsInHanded_of_row (C := Try.checked) (s := OpenSpec.ofChange Rows.roundPlaysSpec) own started (by kernel_rfl) Try.func7
    (witness_row_at (enc := enc) (C := Try.checked) false (World.holding Try.prog os ⟨#[], #[], []⟩) #[.slice none 0 0] rfl (by kernel_rfl) (by kernel_rfl) (by kernel_rfl)
      (OpenSpec.preRow_of_cond 8 hx (by kernel_rfl) (fun k hk => by cases hk) (by kernel_rfl) (laidMet_of_run' 8 (by kernel_rfl) (by kernel_rfl)))) ?_
  intro W base args ds gs before hval hW _ _ _ hL _ _
  exact contract H enc W base args ds gs before hval hW
theorem said : Rows.RoundPlaysSaid :=
  OpenClaim.holds_of_cond 7 Try.f7 rfl rfl rfl rfl rfl rfl rfl ⟨rfl, rfl, rfl, rfl, rfl⟩ rfl rfl rfl rfl rfl (by kernel_rfl) Try.func7 (by kernel_rfl)
    (of_decide_eq_true (by kernel_rfl)) (by unfold Func.isWrapper; first | (rw [if_pos (by decide +kernel)]; kernel_rfl) | (rw [if_neg (by decide +kernel)]; exact ⟨rfl, rfl⟩))
    (fun os started H enc _ F => by rw [OpenClaim.pre_eq_preRow]; exact lifted os started H enc F)
end Go.Proofs.Ytgjdmenmegnacaa.roundPlaysDone
namespace Go.Proofs.Ytgjdmenmegnacaa
theorem roundPlays_holds : Rows.RoundPlaysSaid := roundPlaysDone.said
#print axioms roundPlays_holds
end Go.Proofs.Ytgjdmenmegnacaa
