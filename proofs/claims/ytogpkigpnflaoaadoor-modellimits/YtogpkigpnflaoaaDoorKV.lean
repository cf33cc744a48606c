import Derived.Test.YtogpkigpnflaoaaDoorKU
import Derived.Test.YtogpkigpnflaoaaDoorKQ
namespace Go.Proofs.YtogpkigpnflaoaaDoor
open Go.RowKit
set_option linter.unusedVariables false

def ZL : Array Value := #[.int .i64 0, .int .i64 0, .int .i64 0, .int .i64 0, .int .i64 0, .int .i64 0, .int .i64 0, .int .i64 0, .int .i64 0, .float .f64 0, .slice none 0 0, .slice none 0 0, .slice none 0 0, .slice none 0 0]
def RL : Array Value := #[.int .i64 7, .int .i64 0, .int .i64 0, .int .i64 0, .int .i64 0, .int .i64 0, .int .i64 0, .int .i64 0, .int .i64 0, .float .f64 0, .slice none 0 0, .slice none 0 0, .slice none 0 0, .slice none 0 0]
def lyN (m : Nat) : Array Value := madeCells ZL (m * 14)
theorem lyN_size (m : Nat) : (lyN m).size = m * 14 := size_madeCells _ _
theorem lyN_at (m j t : Nat) (hj : j < m) (ht : t < 14) : (lyN m)[j * 14 + t]? = ZL[t]? := by
  unfold lyN madeCells
  have h1 : j * 14 + t < m * 14 := by omega
  have h2 : (j * 14 + t) % 14 = t := by omega
  rw [Array.getElem?_map, Array.getElem?_range]
  simp only [h1, if_true, Option.map_some]
  rw [show ZL.size = 14 from rfl, h2, Array.getElem?_eq_getElem (show t < ZL.size from ht), getElem!_pos ZL t ht]
  try rfl
theorem Tryd.infoLay : (Tryd.prog.info? 33).map (fun i => (i.zero, i.size, i.bytes)) = some (some (.agg ZL), 14, 176) := by kernel_rfl
theorem makeL (m : Nat) (hn : m ≤ 1000) (w : World) :
    (Instr.makeSlice 28 (.int .i64 (m : Int)) (.int .i64 (m : Int))).run Tryd.prog w = .ok (.slice (some ⟨w.heap.size, 0, none⟩) m m) (w.alloc (.cells (lyN m) 33)) := by
  obtain ⟨i0, hi, hz0, hz1, hz2⟩ := info3 Tryd.infoLay
  have h := run_makeSlice (P := Tryd.prog) w 28 33 i0 (.agg ZL) Tryd.underlying28 hi hz0 .i64 .i64 (m : Int) (m : Int) (by omega) (by omega) (by rw [hz1, Int.toNat_natCast]; omega) (by rw [hz2]; omega) (by omega)
  rw [Int.toNat_natCast, hz1] at h
  exact h
theorem splice_get (cur : Array Value) (o : Nat) (v : Value) (ho : o < cur.size) (k : Nat) : ((cur.toList.take o ++ [v] ++ cur.toList.drop (o + 1)).toArray)[k]? = if k = o then some v else cur[k]? := by
  have e : cur.toList.take o ++ [v] ++ cur.toList.drop (o + 1) = cur.toList.set o v := by
    rw [List.set_eq_take_append_cons_drop, if_pos (by simpa using ho), List.append_assoc]; rfl
  rw [e, List.getElem?_toArray, List.getElem?_set]
  by_cases h : o = k
  · subst h; rw [if_pos rfl, if_pos rfl, if_pos (by simpa using ho)]
  · rw [if_neg h, if_neg (fun c => h c.symm), Array.getElem?_toList]
theorem splice_size (cur : Array Value) (o : Nat) (v : Value) (ho : o < cur.size) : ((cur.toList.take o ++ [v] ++ cur.toList.drop (o + 1)).toArray).size = cur.size := by
  simp; omega
/-- So many layers are ReLUs already. -/
def RlU (W : World) (B i : Nat) : Prop := ∃ cur, W.heap[B]? = some (.cells cur 33) ∧ cur.size = 910 ∧ ∀ j t, j < 65 → t < 14 → cur[j * 14 + t]? = if j < i then RL[t]? else ZL[t]?
theorem RlU.lay {W : World} {B : Nat} (h : RlU W B 65) (n : Nat) (hn : n ≤ 65) : RdLay W (some ⟨B, 0, none⟩) n (fun _ => RL) := by
  obtain ⟨cur, h1, h2, h3⟩ := h
  refine ⟨by simp only [maxLen]; omega, .inr ⟨B, 0, rfl, fun j hj => ⟨rfl, one14 .., fun t v hv => ?_⟩⟩⟩
  have ht : t < 14 := by
    have := (List.getElem?_eq_some_iff.1 hv).1
    simpa [RL] using this
  rw [Nat.zero_add, cell_of_row _ B _ _ _ _ h1, h3 j t (by omega) ht, if_pos (by omega), ← Array.getElem?_toList]
  exact hv
theorem rl_zl (t : Nat) (h : t ≠ 0) (h2 : t < 14) : RL[t]? = ZL[t]? := by
  match t, h, h2 with
  | 1, _, _ => rfl
  | 2, _, _ => rfl
  | 3, _, _ => rfl
  | 4, _, _ => rfl
  | 5, _, _ => rfl
  | 6, _, _ => rfl
  | 7, _, _ => rfl
  | 8, _, _ => rfl
  | 9, _, _ => rfl
  | 10, _, _ => rfl
  | 11, _, _ => rfl
  | 12, _, _ => rfl
  | 13, _, _ => rfl
theorem RlU.step {W W' : World} {B i : Nat} {cur : Array Value} (hi : i < 65) (h2 : cur.size = 910) (h3 : ∀ j t, j < 65 → t < 14 → cur[j * 14 + t]? = if j < i then RL[t]? else ZL[t]?)
    (h : W'.heap[B]? = some (.cells (cur.toList.take (i * 14) ++ [Value.int .i64 7] ++ cur.toList.drop (i * 14 + 1)).toArray 33)) : RlU W' B (i + 1) := by
  refine ⟨_, h, (splice_size _ _ _ (by omega)).trans h2, fun j t hj ht => ?_⟩
  rw [splice_get _ _ _ (by omega)]
  by_cases hk : j * 14 + t = i * 14
  · have e1 : j = i := by omega
    have e2 : t = 0 := by omega
    subst e1 e2
    rw [if_pos hk, if_pos (by omega)]
    rfl
  · rw [if_neg hk, h3 j t hj ht]
    by_cases hji : j < i
    · rw [if_pos hji, if_pos (by omega)]
    · rw [if_neg hji]
      by_cases hj2 : j < i + 1
      · rw [if_pos hj2, rl_zl t (by omega) ht]
      · rw [if_neg hj2]
theorem RlU.zero {W : World} {B : Nat} (h : W.heap[B]? = some (.cells (lyN 65) 33)) : RlU W B 0 :=
  ⟨_, h, lyN_size 65, fun j t hj ht => by rw [if_neg (by omega)]; exact lyN_at 65 j t hj ht⟩
theorem wsum_zero : ∀ n, wsum (fun _ => 0) n = 0 := by
  intro n
  induction n with
  | zero => rfl
  | succ n ih => simp [wsum, ih]
/-- 64 ReLUs may be. -/
theorem relus64 (w : World) (B cap : Nat) (h : RlU w B 65) (hs : szF [1, 1, 256] 1 = (256, 0)) :
    Calls Tryd.prog 6 #[.agg #[.int .i64 1, .int .i64 1, .int .i64 256, .slice (some ⟨B, 0, none⟩) 64 cap, .slice none 0 0]] w fun e w' => e = .returned (.tuple #[.int .i64 0, .int .i64 0]) ∧ Below w.heap.size w w' := by
  refine check_of 1 1 256 _ none 64 cap 0 0 0 w fun w' hb => ?_
  refine shapesRun 1 1 256 256 _ none 64 cap 0 (fun _ => RL) (fun _ => (1, 1, 256)) (fun _ => 0) 64 0 0 w' hs (by omega) rfl ((h.lay 64 (by omega)).later hb) (by omega) (fun _ => by omega) (fun j _ => by rw [wsum_zero]; omega) (fun j _ => reluNext 1 1 256 256 hs j w') (fun j _ => emptyWeight _ _ _ _ _ _ _ _ _ _ w') (.inl ⟨rfl, rfl, rfl⟩)
theorem relus65 (w : World) (lo : Option Addr) (cap : Nat) (hs : szF [1, 1, 256] 1 = (256, 0)) :
    Calls Tryd.prog 6 #[.agg #[.int .i64 1, .int .i64 1, .int .i64 256, .slice lo 65 cap, .slice none 0 0]] w fun e w' => e = .returned (.tuple #[.int .i64 65, .int .i64 0]) ∧ Below w.heap.size w w' :=
  check_of 1 1 256 _ none 65 cap 0 65 0 w fun w' hb => shapesLong 1 1 256 256 _ none 65 cap 0 0 hs (by omega) (by omega) w'
end Go.Proofs.YtogpkigpnflaoaaDoor
