import Derived.Test.YtfecnhfghepfkaaGreatChecked
import Derived.Test.YtfecnhfghepfkaaGreatPur
import Derived.WalkKit
import Derived.WalkSmall
import Derived.WalkLawsBesides
import Derived.Laws.BitsAll
import Derived.Laws.OwnMore
import Derived.OneCell
import Derived.Deep.RegionWith
import Derived.Deep.DeepCutAuto
import Derived.BigRegion
import Derived.BigGuard
namespace Go.Proofs.YtfecnhfghepfkaaGreat
open Go.RowKit
set_option linter.unusedVariables false

theorem Tryz.elemU32 : Tryz.prog.elem 79 = 127 := by kernel_rfl
theorem Tryz.sizeU32 (w : World) : (sizeOf 127).run Tryz.prog w = .ok 1 w := by kernel_rfl

/-- THE SLICE OF WORDS '.slice ao len cap' READS AS xs. -/
structure Rd4 (w : World) (ao : Option Addr) (len cap : Nat) (xs : List Nat) : Prop where
  length : xs.length = len
  le : len ≤ cap
  max : cap ≤ 1000000
  lt : U4 xs
  nil : ao = none → cap = 0
  cells : len = 0 ∨ ∃ b off, ao = some ⟨b, off, none⟩ ∧ ∀ j, j < len → w.cell? ⟨b, off + j, none⟩ = some (.int .u32 ((xs[j]?.getD 0 : Nat) : Int))
theorem Rd4.later {w w' : World} {ao : Option Addr} {len cap : Nat} {xs : List Nat} (h : Rd4 w ao len cap xs) (hb : Below w.heap.size w w') : Rd4 w' ao len cap xs := by
  refine ⟨h.length, h.le, h.max, h.lt, h.nil, ?_⟩
  rcases h.cells with h0 | ⟨b, off, ha, hc⟩
  · exact .inl h0
  · refine .inr ⟨b, off, ha, fun j hj => ?_⟩
    have hl := World.block_lt_of_cell? w _ (hc j hj)
    rw [hb.cell (p := ⟨b, off + j, none⟩) hl]
    exact hc j hj
theorem Rd4.none (w : World) : Rd4 w none 0 0 [] := ⟨rfl, Nat.le_refl _, by decide, (fun _ h => by cases h), fun _ => rfl, .inl rfl⟩
/-- The first q words. -/
theorem Rd4.cut {W : World} {ao : Option Addr} {len cap : Nat} {xs : List Nat} (hr : Rd4 W ao len cap xs) (q : Nat) (hq : q ≤ len) :
    Rd4 W (if cap = 0 then ao else ao.map (·.add (0 * 1))) q cap (xs.take q) := by
  have hl := hr.length
  refine ⟨by simp [hl]; omega, by have := hr.le; omega, hr.max, hr.lt.take q, ?_, ?_⟩
  · intro h
    split at h
    · assumption
    · cases ao with
      | none => exact hr.nil rfl
      | some a => simp at h
  · by_cases h0 : q = 0
    · exact .inl h0
    · right
      rcases hr.cells with h1 | ⟨b, off, rfl, hc⟩
      · omega
      · refine ⟨b, off, ?_, fun j hj => ?_⟩
        · have := hr.le; rw [if_neg (by omega), Option.map_some, Addr.add_lit, Nat.zero_mul, Nat.add_zero]
        · rw [hc j (by omega), List.getElem?_take, if_pos (by omega)]
theorem cut4 {W : World} {ao : Option Addr} {len cap : Nat} {xs : List Nat} (hr : Rd4 W ao len cap xs) (q : Nat) (hq : q ≤ len) :
    ∃ ao', (∀ w, (Instr.slice 79 (.slice ao len cap) none (some (.int .i64 q)) none).run Tryz.prog w = .ok (.slice ao' q cap) w) ∧ Rd4 W ao' q cap (xs.take q) := by
  refine ⟨_, fun w => ?_, hr.cut q hq⟩
  have hle := hr.le
  rw [run_slice_h w _ _ _ _ (by rw [Tryz.elemU32]; exact Tryz.underlying79) .i64 q (by omega) (by omega), Tryz.elemU32, Tryz.sizeU32]
  simp [Result.andThen, sliced]

set_option maxRecDepth 100000 in
set_option maxHeartbeats 1000000 in
theorem trim_any (ao : Option Addr) (len cap : Nat) (xs : List Nat) (w : World) (hr : Rd4 w ao len cap xs) :
    Calls Tryz.prog 80 #[.slice ao len cap] w fun e w' => ∃ ao' n, e = .returned (.slice ao' n cap) ∧ w' = w ∧ Rd4 w ao' n cap (xs.take n) ∧ n ≤ len ∧ Nm (xs.take n) ∧ dig (xs.take n) = dig xs := by
  have HR : Hid _ := hr
  have HL : Hid (xs.length = len) := hr.length
  have hle := hr.le
  have hmx := hr.max
  have hcl := hr.cells
  have HLT : Hid (U4 xs) := hr.lt
  clear hr
  go_enter Tryz.func80, Tryz.ntmps80
  go_wp2_with fail
  go_loop [3] (fun i => ∃ k : Nat, k ≤ len ∧ i = .int .i64 k ∧ Hid (dig (xs.take k) = dig xs)) (fun i => (intOf i).toNat)
  case atStart => exact ⟨len, by omega, rfl, by unfold Hid; rw [← HL.out, List.take_length]⟩
  case round =>
    obtain ⟨k, hk, rfl, hD⟩ := hrel
    cases k with
    | zero =>
      obtain ⟨ao', hcut, hr'⟩ := cut4 HR.out 0 (by omega)
      have HR' : Hid _ := hr'
      clear hr'
      have hz : ((0 : Nat) : Int) = 0 := rfl
      rw [hz] at hcut ⊢
      go_wp2
      go_ret
      exact ⟨ao', 0, rfl, rfl, HR'.out, by omega, .inl (by simp), hD.out⟩
    | succ k =>
      rcases hcl with h0 | ⟨b, off, rfl, hc⟩
      · omega
      have g := hc k (by omega)
      have hkl : k < xs.length := by rw [HL.out]; omega
      have hlt := HLT.out.at k
      have HDS : Hid _ := dig_take_succ hkl
      have HX : Hid (xs[k]?.getD 0 = (xs.take (k + 1))[(xs.take (k + 1)).length - 1]?.getD 0) := by
        unfold Hid; rw [List.length_take, Nat.min_eq_left (by omega), show k + 1 - 1 = k from rfl, List.getElem?_take, if_pos (by omega)]
      obtain ⟨ao', hcut, hr'⟩ := cut4 HR.out (k + 1) (by omega)
      have HR' : Hid _ := hr'
      clear hr' hc hkl
      have hz : ((k + 1 : Nat) : Int) = (k : Int) + 1 := rfl
      rw [hz] at hcut ⊢
      by_cases hx : xs[k]?.getD 0 = 0
      · rw [hx] at g
        have g' : w.cell? ⟨b, off + k, none⟩ = some (.int .u32 0) := g
        clear g hcut
        go_wp2
        go_round
        case rel => exact ⟨k, by omega, by go_num, by unfold Hid; have h1 := HDS.out; have h2 := hD.out; rw [hx, Nat.mul_zero] at h1; omega⟩
        case measure => show ((k : Int)).toNat < ((k : Int) + 1).toNat; omega
      · generalize hxe : xs[k]?.getD 0 = x at *
        go_wp2
        go_ret
        exact ⟨ao', k + 1, rfl, rfl, HR'.out, by omega, .inr (by rw [← HX.out]; exact hx), hD.out⟩

end Go.Proofs.YtfecnhfghepfkaaGreat


namespace Go.Proofs.YtfecnhfghepfkaaGreat
open Go.RowKit
set_option linter.unusedVariables false

def v4 (x : Nat) : Value := .int .u32 (x : Int)
end Go.Proofs.YtfecnhfghepfkaaGreat


namespace Go.Proofs.YtfecnhfghepfkaaGreat
open Go.RowKit
set_option linter.unusedVariables false

end Go.Proofs.YtfecnhfghepfkaaGreat


namespace Go.Proofs.YtfecnhfghepfkaaGreat
open Go.RowKit
set_option linter.unusedVariables false

end Go.Proofs.YtfecnhfghepfkaaGreat


namespace Go.Proofs.YtfecnhfghepfkaaGreat
open Go.RowKit
set_option linter.unusedVariables false

/-- v is the exact real m 2^e, turned if neg. -/
def NumV (w : World) (v : Value) (neg : Bool) (m : Nat) (e : Int) : Prop := ∃ ao len cap xs, v = .agg #[.bool neg, .slice ao len cap, .int .i64 e] ∧ Rd4 w ao len cap xs ∧ Nm xs ∧ dig xs = m
theorem NumV.later {w w' : World} {v : Value} {neg : Bool} {m : Nat} {e : Int} (h : NumV w v neg m e) (hb : Below w.heap.size w w') : NumV w' v neg m e := by
  obtain ⟨ao, len, cap, xs, h1, h2, h3, h4⟩ := h
  exact ⟨ao, len, cap, xs, h1, h2.later hb, h3, h4⟩
theorem len_zero {xs : List Nat} {len : Nat} (hl : xs.length = len) (hu : U4 xs) (hn : Nm xs) : (len = 0 ↔ dig xs = 0) := by
  constructor
  · intro h; have : xs = [] := List.eq_nil_of_length_eq_zero (by omega)
    subst this; rfl
  · intro h
    rcases Nat.eq_zero_or_pos len with h0 | h0
    · exact h0
    · exact absurd h (bl_dig hu hn (fun e => by rw [e] at hl; simp at hl; omega)).2

theorem three_cells {W : World} {B : Nat} {v0 v1 v2 : Value} (h : W.heap[B]? = some (.cells #[v0, v1, v2] 81)) :
    W.cell? ⟨B, 0, none⟩ = some v0 ∧ W.cell? ⟨B, 1, none⟩ = some v1 ∧ W.cell? ⟨B, 2, none⟩ = some v2 :=
  ⟨cell_of_row _ _ 0 _ _ _ h, cell_of_row _ _ 1 _ _ _ h, cell_of_row _ _ 2 _ _ _ h⟩
theorem res_num2 (f : Func) (i j : Nat) (hf : f.results = #[ResultVar.cell i 81, ResultVar.tmp j]) (tmps : Array Value) (W : World) (B : Nat) (v0 v1 v2 u : Value) (hp : tmps[i]? = some (.pointer (some ⟨B, 0, none⟩))) (hq : tmps[j]? = some u)
    (h : W.heap[B]? = some (.cells #[v0, v1, v2] 81)) : (results f tmps).run Tryz.prog W = .ok (.tuple #[.agg #[v0, v1, v2], u]) W := by
  obtain ⟨h0, h1, h2⟩ := three_cells h
  simp [results, hf, go_sem, hp, hq, h0, h1, h2]

end Go.Proofs.YtfecnhfghepfkaaGreat


namespace Go.Proofs.YtfecnhfghepfkaaGreat
open Go.RowKit
set_option linter.unusedVariables false

/-- A number's block in memory, as the call's own. -/
def NumB (w : World) (B : Nat) : Prop := ∃ neg ao len cap e, w.heap[B]? = some (.cells #[.bool neg, .slice ao len cap, .int .i64 e] 81)
theorem NumB.not {w : World} {B : Nat} (h : NumB w B) (j : Nat) (x : Int) : w.cell? ⟨B, j, none⟩ ≠ some (.int .u32 x) := by
  obtain ⟨neg, ao, len, cap, e, h⟩ := h
  match j with
  | 0 => rw [(three_cells h).1]; simp
  | 1 => rw [(three_cells h).2.1]; simp
  | 2 => rw [(three_cells h).2.2]; simp
  | j + 3 => rw [cell_of_row _ _ _ _ _ _ h]; simp
theorem rd4_other {w w' : World} {B : Nat} (hB : NumB w B) (hs : ∀ b, b ≠ B → w'.heap[b]? = w.heap[b]?) {ao : Option Addr} {len cap : Nat} {xs : List Nat} (h : Rd4 w ao len cap xs) : Rd4 w' ao len cap xs := by
  refine ⟨h.length, h.le, h.max, h.lt, h.nil, ?_⟩
  rcases h.cells with h0 | ⟨b, off, ha, hc⟩
  · exact .inl h0
  · refine .inr ⟨b, off, ha, fun j hj => ?_⟩
    have hne : b ≠ B := by rintro rfl; exact hB.not _ _ (hc j hj)
    rw [World.cell?_of_block (w := w) (w' := w') (a := ⟨b, off + j, none⟩) (hs b hne)]
    exact hc j hj
end Go.Proofs.YtfecnhfghepfkaaGreat


namespace Go.Proofs.YtfecnhfghepfkaaGreat
open Go.RowKit
set_option linter.unusedVariables false

end Go.Proofs.YtfecnhfghepfkaaGreat


namespace Go.Proofs.YtfecnhfghepfkaaGreat
open Go.RowKit
set_option linter.unusedVariables false

end Go.Proofs.YtfecnhfghepfkaaGreat


namespace Go.Proofs.YtfecnhfghepfkaaGreat
open Go.RowKit
set_option linter.unusedVariables false

end Go.Proofs.YtfecnhfghepfkaaGreat


namespace Go.Proofs.YtfecnhfghepfkaaGreat
open Go.RowKit
set_option linter.unusedVariables false

end Go.Proofs.YtfecnhfghepfkaaGreat


namespace Go.Proofs.YtfecnhfghepfkaaGreat
open Go.RowKit
set_option linter.unusedVariables false

set_option maxRecDepth 100000 in
set_option maxHeartbeats 1000000 in
theorem sign_any (v : Value) (neg : Bool) (m : Nat) (e : Int) (w : World) (h : NumV w v neg m e) :
    Calls Tryz.prog 41 #[v] w fun e' w' => e' = .returned (.int .i64 (if m = 0 then 0 else if neg then -1 else 1)) ∧ Below w.heap.size w w' := by
  obtain ⟨ao, len, cap, xs, rfl, hr, hnm, hm⟩ := h
  have hz := len_zero hr.length hr.lt hnm
  rw [hm] at hz
  clear hr
  by_cases h0 : m = 0
  · have hl : len = 0 := hz.2 h0
    subst hl
    rw [if_pos h0]
    clear hz
    go_enter Tryz.func41, Tryz.ntmps41
    go_wp2_with fail
    go_ret
    exact ⟨rfl, (Below.refl _ _).alloc (Nat.le_refl _) _⟩
  · have hl : 0 < len := by omega
    have hb : ((len : Int) == 0) = false := by rw [beq_eq_false_iff_ne]; omega
    rw [if_neg h0]
    clear hz
    cases neg
    · go_enter Tryz.func41, Tryz.ntmps41
      go_wp2_with fail
      go_ret
      exact ⟨rfl, (Below.refl _ _).alloc (Nat.le_refl _) _⟩
    · go_enter Tryz.func41, Tryz.ntmps41
      go_wp2_with fail
      go_ret
      exact ⟨rfl, (Below.refl _ _).alloc (Nat.le_refl _) _⟩
end Go.Proofs.YtfecnhfghepfkaaGreat
