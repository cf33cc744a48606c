import Derived.Test.YtoehhnildocihaaSPc
namespace Go.Proofs.Ytoehhnildocihaa
open Go.RowKit
set_option linter.unusedVariables false
set_option linter.unusedSimpArgs false
/-- The cells of a row of parts. -/
def ptL : List (Int × Int) → List Value
  | [] => []
  | p :: ps => .int .i64 p.1 :: .int .i64 p.2 :: ptL ps
def ptC (ps : List (Int × Int)) : Array Value := (ptL ps).toArray
theorem ptL_len (ps : List (Int × Int)) : (ptL ps).length = ps.length * 2 := by
  induction ps with
  | nil => rfl
  | cons p ps ih => simp only [ptL, List.length_cons, ih]; omega
theorem ptL_app (ps qs : List (Int × Int)) : ptL (ps ++ qs) = ptL ps ++ ptL qs := by
  induction ps with
  | nil => rfl
  | cons p ps ih => simp only [List.cons_append, ptL, ih]
theorem ptC_size (ps : List (Int × Int)) : (ptC ps).size = ps.length * 2 := by unfold ptC; rw [List.size_toArray, ptL_len]
theorem ptL_split (ps : List (Int × Int)) (j : Nat) (h : j < ps.length) : ptL ps = ptL (ps.take j) ++ ([Value.int .i64 (ps[j]).1, Value.int .i64 (ps[j]).2] ++ ptL (ps.drop (j + 1))) := by
  conv => lhs; rw [← List.take_append_drop j ps, List.drop_eq_getElem_cons h, ptL_app]
  rfl
theorem ptL_tk (ps : List (Int × Int)) (j : Nat) (h : j < ps.length) : (ptL (ps.take j)).length = j * 2 := by rw [ptL_len, List.length_take]; congr 1; omega
theorem ptC_at {ps : List (Int × Int)} {j : Nat} {p : Int × Int} (hp : ps[j]? = some p) : (ptC ps)[j * 2]? = some (.int .i64 p.1) ∧ (ptC ps)[j * 2 + 1]? = some (.int .i64 p.2) := by
  obtain ⟨h, rfl⟩ := List.getElem?_eq_some_iff.1 hp
  have hs := ptL_split ps j h
  have hl := ptL_tk ps j h
  unfold ptC
  rw [List.getElem?_toArray, List.getElem?_toArray, hs]
  constructor
  · rw [List.getElem?_append_right (by omega), hl, Nat.sub_self]; rfl
  · rw [List.getElem?_append_right (by omega), hl, Nat.add_sub_cancel_left]; rfl
theorem ptC_set (ps : List (Int × Int)) (j : Nat) (x y : Int) (h : j < ps.length) : ((ptC ps).toList.take (j * 2) ++ (Value.agg #[.int .i64 x, .int .i64 y]).cells.toList ++ (ptC ps).toList.drop (j * 2 + 2)).toArray = ptC (ps.set j (x, y)) := by
  have hs := ptL_split ps j h
  have hl := ptL_tk ps j h
  have hc : (Value.agg #[.int .i64 x, .int .i64 y]).cells.toList = [.int .i64 x, .int .i64 y] := rfl
  have h1 : (ptC ps).toList.take (j * 2) = ptL (ps.take j) := by
    show (ptL ps).take _ = _
    rw [hs, List.take_append_of_le_length (by omega), List.take_of_length_le (by omega)]
  have h2 : (ptC ps).toList.drop (j * 2 + 2) = ptL (ps.drop (j + 1)) := by
    show (ptL ps).drop _ = _
    rw [hs, ← hl, ← List.drop_drop, List.drop_left]
    rfl
  rw [hc, h1, h2]
  unfold ptC
  rw [List.set_eq_take_append_cons_drop, if_pos h, ptL_app, List.append_assoc]
  rfl
/-- The first j of the parts, behind them parts of nothing. -/
def pzL (ps : List (Int × Int)) (j : Nat) : List (Int × Int) := ps.take j ++ List.replicate (ps.length - j) (0, 0)
theorem pzL_len (ps : List (Int × Int)) (j : Nat) (h : j ≤ ps.length) : (pzL ps j).length = ps.length := by unfold pzL; simp; omega
theorem pzL_zero (ps : List (Int × Int)) : pzL ps 0 = List.replicate ps.length (0, 0) := by unfold pzL; simp
theorem pzL_all (ps : List (Int × Int)) : pzL ps ps.length = ps := by unfold pzL; simp
theorem pzL_set (ps : List (Int × Int)) (j : Nat) (h : j < ps.length) : (pzL ps j).set j (ps[j]) = pzL ps (j + 1) := by
  unfold pzL
  rw [List.set_append_right _ _ (by simp; omega), List.length_take, Nat.min_eq_left (Nat.le_of_lt h), Nat.sub_self,
    show ps.length - j = (ps.length - (j + 1)) + 1 by omega, List.replicate_succ, List.set_cons_zero, List.take_succ_eq_append_getElem h, List.append_assoc]
  rfl
theorem pzL_at (ps : List (Int × Int)) (j : Nat) (h : j < ps.length) : (pzL ps (j + 1))[j]? = some ps[j] := by
  rw [← pzL_set ps j h, List.getElem?_set_self (by rw [pzL_len _ _ (Nat.le_of_lt h)]; exact h)]
/-- It is a region of k symbols. -/
def regB (ls bs : List Int) (k : Int) : Bool := decide (k ≤ 256) && decide ((ls.length : Int) = k) && decide ((bs.length : Int) = k) && (ls.zip bs).all fun p => okP p.1 p.2
theorem Try.infoPT : (Try.prog.info? 69).map (fun i => (i.zero, i.size, i.bytes)) = some (some (.agg #[.int .i64 0, .int .i64 0]), 2, 16) := by kernel_rfl
theorem ptC_zero (n : Nat) : madeCells (Value.agg #[.int .i64 0, .int .i64 0]).cells (n * 2) = ptC (List.replicate n (0, 0)) := by
  apply Array.ext_getElem?
  intro i
  by_cases h : i < n * 2
  · obtain ⟨j, hj⟩ : ∃ j, i = j * 2 ∨ i = j * 2 + 1 := ⟨i / 2, by omega⟩
    have hz : ∀ i, i < n * 2 → (madeCells (Value.agg #[.int .i64 0, .int .i64 0]).cells (n * 2))[i]? = some (.int .i64 0) := by
      intro i hi
      unfold madeCells
      have : i % 2 = 0 ∨ i % 2 = 1 := by omega
      rcases this with e | e <;> simp [hi, Value.cells, e]
    rw [hz i h]
    rcases hj with rfl | rfl
    · rw [(ptC_at (p := (0, 0)) (by rw [List.getElem?_replicate, if_pos (by omega)])).1]
    · rw [(ptC_at (p := (0, 0)) (by rw [List.getElem?_replicate, if_pos (by omega)])).2]
  · rw [Array.getElem?_eq_none (by unfold madeCells; simp; omega), Array.getElem?_eq_none (by rw [ptC_size]; simp; omega)]
theorem info3P {P : Program} {t : TypeId} {z : Option Value} {s b : Nat} (h : (P.info? t).map (fun i => (i.zero, i.size, i.bytes)) = some (z, s, b)) : ∃ i, P.info? t = some i ∧ i.zero = z ∧ i.size = s ∧ i.bytes = b := by
  cases hi : P.info? t with
  | none => rw [hi] at h; cases h
  | some i => rw [hi] at h; simp at h; exact ⟨i, rfl, h.1, h.2.1, h.2.2⟩
theorem makePT (n : Nat) (hn : n ≤ 4000000) (w : World) :
    (Instr.makeSlice 45 (.int .i64 (n : Int)) (.int .i64 (n : Int))).run Try.prog w = .ok (.slice (some ⟨w.heap.size, 0, none⟩) n n) (w.alloc (.cells (ptC (List.replicate n (0, 0))) 69)) := by
  obtain ⟨i0, hi, hz0, hz1, hz2⟩ := info3P Try.infoPT
  have h := run_makeSlice (P := Try.prog) w 45 69 i0 (.agg #[.int .i64 0, .int .i64 0]) Try.underlying45 hi hz0 .i64 .i64 (n : Int) (n : Int) (by omega) (by omega) (by rw [hz1, Int.toNat_natCast]; omega) (by rw [hz2]; omega) (by omega)
  rw [Int.toNat_natCast, hz1] at h
  rw [← ptC_zero]
  exact h
theorem res_tt (f : Func) (i j : Nat) (hf : f.results = #[ResultVar.tmp i, ResultVar.tmp j]) (tmps : Array Value) (W : World) (a b : Value) (hp : tmps[i]? = some a) (hq : tmps[j]? = some b) : (results f tmps).run Try.prog W = .ok (.tuple #[a, b]) W := by
  simp [results, hf, hp, hq]
theorem one_pt (x y : Int) : ∀ u ∈ (Value.agg #[.int .i64 x, .int .i64 y]).cells.toList, u.oneCell' = true := by
  intro u hu
  have : u = .int .i64 x ∨ u = .int .i64 y := by simpa [Value.cells] using hu
  rcases this with rfl | rfl <;> rfl
end Go.Proofs.Ytoehhnildocihaa
