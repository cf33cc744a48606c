import Derived.Test.YtmeechafeeaenaaChecked
import Derived.Test.YtmeechafeeaenaaPur
import Derived.WalkKit
import Derived.WalkSmall
import Derived.WalkLawsBesides
import Derived.Laws.BitsAll
import Derived.Laws.OwnMore
import Derived.OneCell
import Derived.Deep.RegionWith
import Derived.Deep.DeepCutAuto
import Derived.BigRegion
import Derived.BigGuard
namespace Go.Proofs.Ytmeechafeeaenaa
open Go.RowKit
set_option linter.unusedVariables false

theorem Try.infoU32 : (Try.prog.info? 112).map (fun i => (i.zero, i.size, i.bytes)) = some (some (.int .u32 0), 1, 4) := by kernel_rfl
theorem Try.elemU32 : Try.prog.elem 50 = 112 := by kernel_rfl
theorem Try.sizeU32 (w : World) : (sizeOf 112).run Try.prog w = .ok 1 w := by kernel_rfl

/-- THE SLICE OF WORDS '.slice ao len cap' READS AS xs. -/
structure Rd4 (w : World) (ao : Option Addr) (len cap : Nat) (xs : List Nat) : Prop where
  length : xs.length = len
  le : len ≤ cap
  max : cap ≤ 1000000
  lt : U4 xs
  nil : ao = none → cap = 0
  cells : len = 0 ∨ ∃ b off, ao = some ⟨b, off, none⟩ ∧ ∀ j, j < len → w.cell? ⟨b, off + j, none⟩ = some (.int .u32 ((xs[j]?.getD 0 : Nat) : Int))
theorem Rd4.later {w w' : World} {ao : Option Addr} {len cap : Nat} {xs : List Nat} (h : Rd4 w ao len cap xs) (hb : Below w.heap.size w w') : Rd4 w' ao len cap xs := by
  refine ⟨h.length, h.le, h.max, h.lt, h.nil, ?_⟩
  rcases h.cells with h0 | ⟨b, off, ha, hc⟩
  · exact .inl h0
  · refine .inr ⟨b, off, ha, fun j hj => ?_⟩
    have hl := World.block_lt_of_cell? w _ (hc j hj)
    rw [hb.cell (p := ⟨b, off + j, none⟩) hl]
    exact hc j hj
theorem Rd4.none (w : World) : Rd4 w none 0 0 [] := ⟨rfl, Nat.le_refl _, by decide, (fun _ h => by cases h), fun _ => rfl, .inl rfl⟩
/-- The first q words. -/
theorem Rd4.cut {W : World} {ao : Option Addr} {len cap : Nat} {xs : List Nat} (hr : Rd4 W ao len cap xs) (q : Nat) (hq : q ≤ len) :
    Rd4 W (if cap = 0 then ao else ao.map (·.add (0 * 1))) q cap (xs.take q) := by
  have hl := hr.length
  refine ⟨by simp [hl]; omega, by have := hr.le; omega, hr.max, hr.lt.take q, ?_, ?_⟩
  · intro h
    split at h
    · assumption
    · cases ao with
      | none => exact hr.nil rfl
      | some a => simp at h
  · by_cases h0 : q = 0
    · exact .inl h0
    · right
      rcases hr.cells with h1 | ⟨b, off, rfl, hc⟩
      · omega
      · refine ⟨b, off, ?_, fun j hj => ?_⟩
        · have := hr.le; rw [if_neg (by omega), Option.map_some, Addr.add_lit, Nat.zero_mul, Nat.add_zero]
        · rw [hc j (by omega), List.getElem?_take, if_pos (by omega)]
theorem cut4 {W : World} {ao : Option Addr} {len cap : Nat} {xs : List Nat} (hr : Rd4 W ao len cap xs) (q : Nat) (hq : q ≤ len) :
    ∃ ao', (∀ w, (Instr.slice 50 (.slice ao len cap) none (some (.int .i64 q)) none).run Try.prog w = .ok (.slice ao' q cap) w) ∧ Rd4 W ao' q cap (xs.take q) := by
  refine ⟨_, fun w => ?_, hr.cut q hq⟩
  have hle := hr.le
  rw [run_slice_h w _ _ _ _ (by rw [Try.elemU32]; exact Try.underlying50) .i64 q (by omega) (by omega), Try.elemU32, Try.sizeU32]
  simp [Result.andThen, sliced]

set_option maxRecDepth 100000 in
set_option maxHeartbeats 1000000 in
theorem trim_any (ao : Option Addr) (len cap : Nat) (xs : List Nat) (w : World) (hr : Rd4 w ao len cap xs) :
    Calls Try.prog 60 #[.slice ao len cap] w fun e w' => ∃ ao' n, e = .returned (.slice ao' n cap) ∧ w' = w ∧ Rd4 w ao' n cap (xs.take n) ∧ n ≤ len ∧ Nm (xs.take n) ∧ dig (xs.take n) = dig xs := by
  have HR : Hid _ := hr
  have HL : Hid (xs.length = len) := hr.length
  have hle := hr.le
  have hmx := hr.max
  have hcl := hr.cells
  have HLT : Hid (U4 xs) := hr.lt
  clear hr
  go_enter Try.func60, Try.ntmps60
  go_wp2_with fail
  go_loop [3] (fun i => ∃ k : Nat, k ≤ len ∧ i = .int .i64 k ∧ Hid (dig (xs.take k) = dig xs)) (fun i => (intOf i).toNat)
  case atStart => exact ⟨len, by omega, rfl, by unfold Hid; rw [← HL.out, List.take_length]⟩
  case round =>
    obtain ⟨k, hk, rfl, hD⟩ := hrel
    cases k with
    | zero =>
      obtain ⟨ao', hcut, hr'⟩ := cut4 HR.out 0 (by omega)
      have HR' : Hid _ := hr'
      clear hr'
      have hz : ((0 : Nat) : Int) = 0 := rfl
      rw [hz] at hcut ⊢
      go_wp2
      go_ret
      exact ⟨ao', 0, rfl, rfl, HR'.out, by omega, .inl (by simp), hD.out⟩
    | succ k =>
      rcases hcl with h0 | ⟨b, off, rfl, hc⟩
      · omega
      have g := hc k (by omega)
      have hkl : k < xs.length := by rw [HL.out]; omega
      have hlt := HLT.out.at k
      have HDS : Hid _ := dig_take_succ hkl
      have HX : Hid (xs[k]?.getD 0 = (xs.take (k + 1))[(xs.take (k + 1)).length - 1]?.getD 0) := by
        unfold Hid; rw [List.length_take, Nat.min_eq_left (by omega), show k + 1 - 1 = k from rfl, List.getElem?_take, if_pos (by omega)]
      obtain ⟨ao', hcut, hr'⟩ := cut4 HR.out (k + 1) (by omega)
      have HR' : Hid _ := hr'
      clear hr' hc hkl
      have hz : ((k + 1 : Nat) : Int) = (k : Int) + 1 := rfl
      rw [hz] at hcut ⊢
      by_cases hx : xs[k]?.getD 0 = 0
      · rw [hx] at g
        have g' : w.cell? ⟨b, off + k, none⟩ = some (.int .u32 0) := g
        clear g hcut
        go_wp2
        go_round
        case rel => exact ⟨k, by omega, by go_num, by unfold Hid; have h1 := HDS.out; have h2 := hD.out; rw [hx, Nat.mul_zero] at h1; omega⟩
        case measure => show ((k : Int)).toNat < ((k : Int) + 1).toNat; omega
      · generalize hxe : xs[k]?.getD 0 = x at *
        go_wp2
        go_ret
        exact ⟨ao', k + 1, rfl, rfl, HR'.out, by omega, .inr (by rw [← HX.out]; exact hx), hD.out⟩
end Go.Proofs.Ytmeechafeeaenaa

namespace Go.Proofs.Ytmeechafeeaenaa
open Go.RowKit
set_option linter.unusedVariables false

def v4 (x : Nat) : Value := .int .u32 (x : Int)
/-- Words that the call itself made. -/
def Own4 (w : World) (base g n : Nat) (xs : List Nat) : Prop := xs.length = n ∧ w.ownsRow base 112 1 (.slice (some ⟨g, 0, none⟩) n n) n (xs.map v4)
theorem Own4.cell {w : World} {base g n : Nat} {xs : List Nat} (h : Own4 w base g n xs) (j : Nat) (hj : j < n) : w.cell? ⟨g, j, none⟩ = some (.int .u32 ((xs[j]?.getD 0 : Nat) : Int)) := by
  rw [World.ownsRow.cellAt h.2 j (by omega), List.getElem?_map, List.getElem?_eq_getElem (by rw [h.1]; exact hj)]
  rfl
theorem Own4.frozen {w : World} {base g n : Nat} {xs : List Nat} (h : Own4 w base g n xs) (j : Nat) : w.frozen? ⟨g, j, none⟩ = false := World.ownsRow.frozenAt h.2 j
theorem Own4.set {w : World} {base g n : Nat} {xs : List Nat} (h : Own4 w base g n xs) (j x : Nat) : Own4 (w.setCell ⟨g, j, none⟩ (.int .u32 (x : Int))) base g n (xs.set j x) := by
  refine ⟨by rw [List.length_set]; exact h.1, ?_⟩
  rw [List.map_set]
  exact (World.ownsRow.stored h.2 j (v4 x)).1
theorem Own4.base {w : World} {base g n : Nat} {xs : List Nat} (h : Own4 w base g n xs) : base ≤ g := by
  rcases h.2.2 with ⟨h1, _⟩ | ⟨g2, cap2, cur2, hv, hg2, _⟩
  · simp at h1
  · simp only [Value.slice.injEq, Option.some.injEq, Addr.mk.injEq, and_true, true_and] at hv
    obtain ⟨rfl, rfl⟩ := hv
    exact hg2
theorem Own4.rd {w : World} {base g n : Nat} {xs : List Nat} (h : Own4 w base g n xs) (hu : U4 xs) (hn : n ≤ 1000000) : Rd4 w (some ⟨g, 0, none⟩) n n xs :=
  ⟨h.1, Nat.le_refl _, hn, hu, (fun h => by cases h), .inr ⟨g, 0, rfl, fun j hj => by rw [Nat.zero_add]; exact h.cell j hj⟩⟩
/-- A store into the call's own words leaves what was there. -/
theorem below_set {w0 w : World} {base g j : Nat} {v : Value} (h : Below base w0 w) (hg : base ≤ g) : Below base w0 (w.setCell ⟨g, j, none⟩ v) := h.setCell (p := ⟨g, j, none⟩) hg v

/-- make([]uint32, n) -/
theorem make4 (w : World) (n : Nat) (hn : n ≤ 1000000) : ∃ w', (∀ z : Int, z = n → (Instr.makeSlice 50 (.int .i64 z) (.int .i64 z)).run Try.prog w = .ok (.slice (some ⟨w.heap.size, 0, none⟩) n n) w') ∧ Own4 w' w.heap.size w.heap.size n (List.replicate n 0) ∧ Below w.heap.size w w' := by
  obtain ⟨i0, hi, hz0, hz1, hz2⟩ := info_parts Try.infoU32
  obtain ⟨w', h1, h2, h3⟩ := run_make_full (P := Try.prog) w w.heap.size 50 112 i0 (.int .u32 0) 1 Try.underlying50 hi hz0 hz1 .i64 .i64 n (by rw [hz2]; omega) (by simp only [maxLen]; omega) (Nat.le_refl _)
  refine ⟨w', fun z hz => by rw [hz]; exact h1, ⟨List.length_replicate, ?_⟩, ?_⟩
  · have e : (madeCells (Value.int IntKind.u32 0).cells (n * 1)).toList = (List.replicate n 0).map v4 := by
      rw [List.map_replicate, Nat.mul_one]
      exact toList_madeCells_one _ _
    rw [e] at h2
    exact h2
  · exact (Below.refl _ _).grown h3 (Nat.le_refl _) (fun k hk => by cases hk)
end Go.Proofs.Ytmeechafeeaenaa

namespace Go.Proofs.Ytmeechafeeaenaa
open Go.RowKit
set_option linter.unusedVariables false
end Go.Proofs.Ytmeechafeeaenaa

namespace Go.Proofs.Ytmeechafeeaenaa
open Go.RowKit
set_option linter.unusedVariables false

/-- Is it not 0? -/
def nz (m : Nat) : Bool := m != 0
theorem nz_true {m : Nat} (h : m ≠ 0) : nz m = true := by unfold nz; rw [bne_iff_ne]; exact h
theorem nz_zero : nz 0 = false := rfl
end Go.Proofs.Ytmeechafeeaenaa

namespace Go.Proofs.Ytmeechafeeaenaa
open Go.RowKit
set_option linter.unusedVariables false

/-- v is the exact real m 2^e, turned if neg. -/
def NumV (w : World) (v : Value) (neg : Bool) (m : Nat) (e : Int) : Prop := ∃ ao len cap xs, v = .agg #[.bool neg, .slice ao len cap, .int .i64 e] ∧ Rd4 w ao len cap xs ∧ Nm xs ∧ dig xs = m
theorem NumV.later {w w' : World} {v : Value} {neg : Bool} {m : Nat} {e : Int} (h : NumV w v neg m e) (hb : Below w.heap.size w w') : NumV w' v neg m e := by
  obtain ⟨ao, len, cap, xs, h1, h2, h3, h4⟩ := h
  exact ⟨ao, len, cap, xs, h1, h2.later hb, h3, h4⟩
theorem len_zero {xs : List Nat} {len : Nat} (hl : xs.length = len) (hu : U4 xs) (hn : Nm xs) : (len = 0 ↔ dig xs = 0) := by
  constructor
  · intro h; have : xs = [] := List.eq_nil_of_length_eq_zero (by omega)
    subst this; rfl
  · intro h
    rcases Nat.eq_zero_or_pos len with h0 | h0
    · exact h0
    · exact absurd h (bl_dig hu hn (fun e => by rw [e] at hl; simp at hl; omega)).2

theorem len_bl {xs : List Nat} {len : Nat} (hl : xs.length = len) (hu : U4 xs) (hn : Nm xs) : 32 * len ≤ bl (dig xs) + 31 := by
  rcases Nat.eq_zero_or_pos len with h0 | h0
  · omega
  · have h := bl_dig hu hn (fun e => by rw [e] at hl; simp at hl; omega)
    have h1 : xs[xs.length - 1]?.getD 0 ≠ 0 := by
      rcases hn with e | e
      · rw [e] at hl; simp at hl; omega
      · exact e
    have := bl_spec h1
    rw [hl] at h this
    omega
theorem three_cells {W : World} {B : Nat} {v0 v1 v2 : Value} (h : W.heap[B]? = some (.cells #[v0, v1, v2] 52)) :
    W.cell? ⟨B, 0, none⟩ = some v0 ∧ W.cell? ⟨B, 1, none⟩ = some v1 ∧ W.cell? ⟨B, 2, none⟩ = some v2 :=
  ⟨cell_of_row _ _ 0 _ _ _ h, cell_of_row _ _ 1 _ _ _ h, cell_of_row _ _ 2 _ _ _ h⟩
theorem res_num (f : Func) (i : Nat) (hf : f.results = #[ResultVar.cell i 52]) (tmps : Array Value) (W : World) (B : Nat) (v0 v1 v2 : Value) (hp : tmps[i]? = some (.pointer (some ⟨B, 0, none⟩)))
    (h : W.heap[B]? = some (.cells #[v0, v1, v2] 52)) : (results f tmps).run Try.prog W = .ok (.agg #[v0, v1, v2]) W := by
  obtain ⟨h0, h1, h2⟩ := three_cells h
  simp [results, hf, go_sem, hp, h0, h1, h2]
theorem res_num2 (f : Func) (i j : Nat) (hf : f.results = #[ResultVar.cell i 52, ResultVar.tmp j]) (tmps : Array Value) (W : World) (B : Nat) (v0 v1 v2 u : Value) (hp : tmps[i]? = some (.pointer (some ⟨B, 0, none⟩))) (hq : tmps[j]? = some u)
    (h : W.heap[B]? = some (.cells #[v0, v1, v2] 52)) : (results f tmps).run Try.prog W = .ok (.tuple #[.agg #[v0, v1, v2], u]) W := by
  obtain ⟨h0, h1, h2⟩ := three_cells h
  simp [results, hf, go_sem, hp, hq, h0, h1, h2]
end Go.Proofs.Ytmeechafeeaenaa

namespace Go.Proofs.Ytmeechafeeaenaa
open Go.RowKit
set_option linter.unusedVariables false

/-- A number's block in memory, as the call's own. -/
def NumB (w : World) (B : Nat) : Prop := ∃ neg ao len cap e, w.heap[B]? = some (.cells #[.bool neg, .slice ao len cap, .int .i64 e] 52)
theorem NumB.not {w : World} {B : Nat} (h : NumB w B) (j : Nat) (x : Int) : w.cell? ⟨B, j, none⟩ ≠ some (.int .u32 x) := by
  obtain ⟨neg, ao, len, cap, e, h⟩ := h
  match j with
  | 0 => rw [(three_cells h).1]; simp
  | 1 => rw [(three_cells h).2.1]; simp
  | 2 => rw [(three_cells h).2.2]; simp
  | j + 3 => rw [cell_of_row _ _ _ _ _ _ h]; simp
theorem set3_heap {w : World} {B : Nat} {a b c : Value} (x y z : Value) (h : w.heap[B]? = some (.cells #[a, b, c] 52)) :
    (((w.setCell ⟨B, 0, none⟩ x).setCell ⟨B, 1, none⟩ y).setCell ⟨B, 2, none⟩ z).heap[B]? = some (.cells #[x, y, z] 52) := by
  have h1 := heap_setCell_same w B 0 _ _ x h
  have h2 := heap_setCell_same _ B 1 _ _ y h1
  exact heap_setCell_same _ B 2 _ _ z h2
/-- Words stay where a number's block is written over. -/
theorem rd4_set3 {w : World} {B : Nat} (x y z : Value) (hB : NumB w B) {ao : Option Addr} {len cap : Nat} {xs : List Nat} (h : Rd4 w ao len cap xs) :
    Rd4 (((w.setCell ⟨B, 0, none⟩ x).setCell ⟨B, 1, none⟩ y).setCell ⟨B, 2, none⟩ z) ao len cap xs := by
  refine ⟨h.length, h.le, h.max, h.lt, h.nil, ?_⟩
  rcases h.cells with h0 | ⟨b, off, ha, hc⟩
  · exact .inl h0
  · refine .inr ⟨b, off, ha, fun j hj => ?_⟩
    have hne : b ≠ B := by rintro rfl; exact hB.not _ _ (hc j hj)
    rw [World.cell?_setCell_other _ _ _ _ (fun e => hne (by have := congrArg Addr.block e; first | exact this | exact this.symm)), World.cell?_setCell_other _ _ _ _ (fun e => hne (by have := congrArg Addr.block e; first | exact this | exact this.symm)), World.cell?_setCell_other _ _ _ _ (fun e => hne (by have := congrArg Addr.block e; first | exact this | exact this.symm))]
    exact hc j hj
theorem rd4_other {w w' : World} {B : Nat} (hB : NumB w B) (hs : ∀ b, b ≠ B → w'.heap[b]? = w.heap[b]?) {ao : Option Addr} {len cap : Nat} {xs : List Nat} (h : Rd4 w ao len cap xs) : Rd4 w' ao len cap xs := by
  refine ⟨h.length, h.le, h.max, h.lt, h.nil, ?_⟩
  rcases h.cells with h0 | ⟨b, off, ha, hc⟩
  · exact .inl h0
  · refine .inr ⟨b, off, ha, fun j hj => ?_⟩
    have hne : b ≠ B := by rintro rfl; exact hB.not _ _ (hc j hj)
    rw [World.cell?_of_block (w := w) (w' := w') (a := ⟨b, off + j, none⟩) (hs b hne)]
    exact hc j hj
theorem dig_drop_pred {xs : List Nat} {k : Nat} : dig (xs.drop k) = xs[k]?.getD 0 + 4294967296 * dig (xs.drop (k + 1)) := by
  rw [dig_head, List.getElem?_drop, Nat.add_zero, List.drop_drop]
end Go.Proofs.Ytmeechafeeaenaa

namespace Go.Proofs.Ytmeechafeeaenaa
open Go.RowKit
set_option linter.unusedVariables false

theorem dig_take_set {zs : List Nat} {k v : Nat} (hk : k < zs.length) : dig ((zs.set k v).take (k + 1)) = dig (zs.take k) + wd k * v := by
  rw [dig_take_succ (by rw [List.length_set]; exact hk), List.take_set_of_le (by omega), List.getElem?_set, if_pos rfl, if_pos hk]
  rfl
theorem dig_take_more {ys : List Nat} {k : Nat} : dig (ys.take (k + 1)) = dig (ys.take k) + wd k * ys[k]?.getD 0 := by
  by_cases h : k < ys.length
  · exact dig_take_succ h
  · rw [List.take_of_length_le (by omega), List.take_of_length_le (by omega), List.getElem?_eq_none (by omega)]; simp
end Go.Proofs.Ytmeechafeeaenaa

namespace Go.Proofs.Ytmeechafeeaenaa
open Go.RowKit
set_option linter.unusedVariables false

def cmpN (m n : Nat) : Int := if m < n then -1 else if m = n then 0 else 1
theorem shorter_lt {xs ys : List Nat} (hx : U4 xs) (hy : U4 ys) (hn : Nm ys) (hl : xs.length < ys.length) : dig xs < dig ys := by
  have h1 := dig_lt hx
  have e := dig_take_succ (xs := ys) (k := ys.length - 1) (by omega)
  rw [show ys.length - 1 + 1 = ys.length by omega, List.take_length] at e
  have h2 : ys[ys.length - 1]?.getD 0 ≠ 0 := by
    rcases hn with h | h
    · rw [h] at hl; simp at hl
    · exact h
  have h3 : wd (ys.length - 1) * 1 ≤ wd (ys.length - 1) * ys[ys.length - 1]?.getD 0 := Nat.mul_le_mul_left _ (by omega)
  have h4 : wd xs.length ≤ wd (ys.length - 1) := by unfold wd; exact Nat.pow_le_pow_right (by omega) (by omega)
  omega
theorem upper_lt {xs ys : List Nat} {k : Nat} (hx : U4 xs) (hy : U4 ys) (hl : k < xs.length) (hl2 : k < ys.length) (hd : dig (xs.drop (k + 1)) = dig (ys.drop (k + 1))) (h : xs[k]?.getD 0 < ys[k]?.getD 0) : dig xs < dig ys := by
  have e1 := dig_split xs k
  have e2 := dig_split ys k
  have b1 := dig_lt (hx.take k)
  rw [List.length_take, Nat.min_eq_left (by omega)] at e1 e2 b1
  rw [dig_drop_pred, hd] at e1
  rw [dig_drop_pred] at e2
  generalize xs[k]?.getD 0 = x at *
  generalize ys[k]?.getD 0 = y at *
  generalize dig (ys.drop (k + 1)) = D at *
  have h5 : wd k * (x + 4294967296 * D) + wd k ≤ wd k * (y + 4294967296 * D) := by
    rw [← Nat.mul_succ]; exact Nat.mul_le_mul_left _ (by omega)
  omega
end Go.Proofs.Ytmeechafeeaenaa

namespace Go.Proofs.Ytmeechafeeaenaa
open Go.RowKit
set_option linter.unusedVariables false
end Go.Proofs.Ytmeechafeeaenaa

namespace Go.Proofs.Ytmeechafeeaenaa
open Go.RowKit
set_option linter.unusedVariables false
end Go.Proofs.Ytmeechafeeaenaa

namespace Go.Proofs.Ytmeechafeeaenaa
open Go.RowKit
set_option linter.unusedVariables false

set_option maxRecDepth 100000 in
set_option maxHeartbeats 1000000 in
theorem sign_any (v : Value) (neg : Bool) (m : Nat) (e : Int) (w : World) (h : NumV w v neg m e) :
    Calls Try.prog 10 #[v] w fun e' w' => e' = .returned (.int .i64 (if m = 0 then 0 else if neg then -1 else 1)) ∧ Below w.heap.size w w' := by
  obtain ⟨ao, len, cap, xs, rfl, hr, hnm, hm⟩ := h
  have hz := len_zero hr.length hr.lt hnm
  rw [hm] at hz
  clear hr
  by_cases h0 : m = 0
  · have hl : len = 0 := hz.2 h0
    subst hl
    rw [if_pos h0]
    clear hz
    go_enter Try.func10, Try.ntmps10
    go_wp2_with fail
    go_ret
    exact ⟨rfl, (Below.refl _ _).alloc (Nat.le_refl _) _⟩
  · have hl : 0 < len := by omega
    have hb : ((len : Int) == 0) = false := by rw [beq_eq_false_iff_ne]; omega
    rw [if_neg h0]
    clear hz
    cases neg
    · go_enter Try.func10, Try.ntmps10
      go_wp2_with fail
      go_ret
      exact ⟨rfl, (Below.refl _ _).alloc (Nat.le_refl _) _⟩
    · go_enter Try.func10, Try.ntmps10
      go_wp2_with fail
      go_ret
      exact ⟨rfl, (Below.refl _ _).alloc (Nat.le_refl _) _⟩
end Go.Proofs.Ytmeechafeeaenaa
