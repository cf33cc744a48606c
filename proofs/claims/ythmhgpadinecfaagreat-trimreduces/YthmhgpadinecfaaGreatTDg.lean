import Derived.Test.YthmhgpadinecfaaGreatTDp
set_option linter.unusedVariables false
set_option linter.unusedSimpArgs false
namespace Go.Proofs.YthmhgpadinecfaaGreat
open Go.RowKit Go.Shelf
theorem info3J {P : Program} {t : TypeId} {z : Value} {s b : Nat} (h : (P.info? t).map (fun i => (i.zero, i.size, i.bytes)) = some (some z, s, b)) : ∃ i, P.info? t = some i /\ i.zero = some z /\ i.size = s /\ i.bytes = b := by
 cases hi : P.info? t with
 | none => simp [hi] at h
 | some i =>
  simp [hi] at h
  exact ⟨i, rfl, h.1, h.2.1, h.2.2⟩
theorem setP_cells {c : Array Value} {k : Nat} {v : Value} (hk : k < c.size) (hv : v.cells.toList = [v]) : ∃ d : Array Value, (c.toList.take k ++ v.cells.toList ++ c.toList.drop (k + 1)).toArray = d /\ d.size = c.size /\ d[k]? = some v /\ ∀ j, j ≠ k -> d[j]? = c[j]? := by
 refine ⟨_, rfl, ?_, ?_, fun j hj => ?_⟩
 ·rw [hv]; simp; omega
 ·rw [hv]
  simp only [List.getElem?_toArray]
  rw [List.getElem?_append_left (by simp; omega), List.getElem?_append_right (by simp; omega)]
  have h3 : min k c.size = k := by omega
  simp [h3]
 ·rw [hv]
  simp only [List.getElem?_toArray]
  by_cases h1 : j < k
  ·rw [List.append_assoc, List.getElem?_append_left (by simp; omega), List.getElem?_take_of_lt h1, Array.getElem?_toList]
  ·have hlen : (c.toList.take k ++ [v]).length = k + 1 := by simp; omega
   rw [List.getElem?_append_right (by omega), hlen, List.getElem?_drop, show k + 1 + (j - (k + 1)) = j by omega, Array.getElem?_toList]
theorem Tryz.infoBT : (Tryz.prog.info? 4).map (fun i => (i.zero, i.size, i.bytes)) = some (some (.bool false), 1, 1) := by kernel_rfl
def blN (n : Nat) (f : Nat -> Bool) : Array Value := ((List.range n).map fun j => Value.bool (f j)).toArray
theorem blN_size (n : Nat) (f : Nat -> Bool) : (blN n f).size = n := by unfold blN; simp
theorem blN_at (n : Nat) (f : Nat -> Bool) (j : Nat) (h : j < n) : (blN n f)[j]? = some (.bool (f j)) := by unfold blN; simp [h]
theorem makeBT (n : Nat) (hn : n <= 4000000) (w : World) :
  (Instr.makeSlice 61 (.int .i64 (n : Int)) (.int .i64 (n : Int))).run Tryz.prog w = .ok (.slice (some ⟨w.heap.size, 0, none⟩) n n) (w.alloc (.cells (blN n fun _ => false) 4)) := by
 obtain ⟨i0, hi, hz0, hz1, hz2⟩ := info3J Tryz.infoBT
 have h := run_makeSlice (P := Tryz.prog) w 61 4 i0 (.bool false) Tryz.underlying61 hi hz0 .i64 .i64 (n : Int) (n : Int) (by omega) (by omega) (by rw [hz1, Int.toNat_natCast]; omega) (by rw [hz2]; omega) (by omega)
 rw [Int.toNat_natCast, hz1, Nat.mul_one] at h
 have e : madeCells #[.bool false] n = blN n fun _ => false := by
  apply Array.ext_getElem?
  intro j
  by_cases hj : j < n
  ·rw [blN_at n _ j hj]; unfold madeCells; simp [hj, Nat.mod_one]
  ·rw [Array.getElem?_eq_none (by unfold madeCells; simp; omega), Array.getElem?_eq_none (by rw [blN_size]; omega)]
 rw [<- e]
 exact h
theorem blN_set (n : Nat) (f g : Nat -> Bool) (x : Nat) (hx : x < n) (hg : ∀ j, j < n -> g j = if j = x then true else f j) : ((blN n f).toList.take x ++ (Value.bool true).cells.toList ++ (blN n f).toList.drop (x + 1)).toArray = blN n g := by
 obtain ⟨d, h1, h2, h3, h4⟩ := setP_cells (c := blN n f) (k := x) (v := .bool true) (by rw [blN_size]; exact hx) rfl
 rw [h1]
 apply Array.ext_getElem?
 intro j
 by_cases hj : j < n
 ·rw [blN_at n g j hj, hg j hj]
  by_cases e : j = x
  ·subst e; rw [if_pos rfl, h3]
  ·rw [if_neg e, h4 j e, blN_at n f j hj]
 ·rw [Array.getElem?_eq_none (by rw [h2, blN_size]; omega), Array.getElem?_eq_none (by rw [blN_size]; omega)]
theorem Tryz.szB1 : (Tryz.prog.info? 4).map (·.size) = some 1 := by kernel_rfl
theorem one_bo (x : Bool) : ∀ u ∈ (Value.bool x).cells.toList, u.oneCell' = true := by
 intro u hu
 have : u = .bool x := by simpa [Value.cells] using hu
 rw [this]; rfl
theorem NuL.grw {w w' : World} {base E n : Nat} {v : Value} {T : Int} {L : Nat -> Int} {r r' : Option Nat} (h : NuL w base v E T n L) (hg : Grw w w' r r') (hcl : ∀ g, r = some g -> Cl noU w g) (hne : ∀ g, v.ownBlock = some g -> r ≠ some g) : NuL w' base v E T n L := by
 have keep : ∀ (y : Value) (z : Int), NumC w y E T z -> NumC w' y E T z := fun y z hy => by
  cases hv : r with
  | none => exact hy.later ⟨hg.by'.os, hg.by'.tape, hg.by'.output, hg.by'.size, fun k hk => hg.by'.block k hk (by rw [hv]; simp)⟩
  | some g => exact hy.cl (hcl g hv) fun b hb hlt => hg.by'.block b hlt (by rw [hv]; intro e; cases e; exact hb rfl)
 obtain ⟨xs, h1, h2⟩ := h.own
 refine ⟨⟨xs, owns_keep h1 fun k hk => hg.by'.block k (World.ownsRow.lt h1 k hk).2 (fun e => hne k hk e.symm), fun j hj => ?_⟩, fun g hg' => ?_⟩
 ·obtain ⟨a, o, l, c, e, a1, a2, a3, a4⟩ := h2 j hj
  exact ⟨a, o, l, c, e, a1, a2, a3, keep _ _ a4⟩
 ·obtain ⟨cur, t, a, b⟩ := h.cl g hg'
  exact ⟨cur, t, (hg.by'.block g (blk_lt a) (fun e => hne g hg' e.symm)).trans a, b⟩
theorem NuL.typ {w : World} {base E n : Nat} {v : Value} {T : Int} {L : Nat -> Int} (h : NuL w base v E T n L) {g : Nat} (hg : v.ownBlock = some g) : ∃ cur, w.heap[g]? = some (.cells cur 65) := by
 obtain ⟨xs, h1, h2⟩ := h.own
 exact owns_type h1 hg
theorem blN_cl {w : World} {b n : Nat} {f : Nat -> Bool} {t : TypeId} (h : w.heap[b]? = some (.cells (blN n f) t)) : Cl noU w b := by
 refine ⟨_, _, h, fun i v hv => ?_⟩
 unfold blN at hv
 rw [List.getElem?_toArray, List.getElem?_map] at hv
 obtain ⟨j, hj, rfl⟩ := Option.map_eq_some_iff.1 hv
 rfl
end Go.Proofs.YthmhgpadinecfaaGreat
