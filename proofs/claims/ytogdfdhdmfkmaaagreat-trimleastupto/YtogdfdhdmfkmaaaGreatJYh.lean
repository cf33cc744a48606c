import Derived.Test.YtogdfdhdmfkmaaaGreatGYa
import Derived.Test.YtogdfdhdmfkmaaaGreatJZy
import Derived.Test.YtogdfdhdmfkmaaaGreatGJi
import Derived.Test.YtogdfdhdmfkmaaaGreatGJd
import Derived.Test.YtogdfdhdmfkmaaaGreatGJh
namespace Go.Proofs.YtogdfdhdmfkmaaaGreat
open Go.RowKit Go.Shelf
set_option linter.unusedVariables false
open Ieee

def fl2 (us : List Nat) : List Value := us.map (Value.float .f64)
theorem fl2_len (us : List Nat) : (fl2 us).length = us.length := List.length_map _
theorem flN_fl2 (n : Nat) : flN n = (fl2 (List.replicate n 0)).toArray := by
  apply Array.ext_getElem?
  intro j
  by_cases hj : j < n
  · rw [flN_at n j hj]
    simp [fl2, hj]
  · have h1 : (flN n).size = n := by unfold flN madeCells; simp
    rw [Array.getElem?_eq_none (by omega), Array.getElem?_eq_none (by simp [fl2]; omega)]
theorem fl2_set (us : List Nat) (i b : Nat) (hi : i < us.length) : ((fl2 us).toArray.toList.take i ++ (Value.float .f64 b).cells.toList ++ (fl2 us).toArray.toList.drop (i + 1)).toArray = (fl2 (us.set i b)).toArray := by
  congr 1
  unfold fl2
  rw [List.map_set, List.set_eq_take_append_cons_drop, if_pos (by rw [List.length_map]; exact hi)]
  simp [Value.cells]
theorem rdF_blk {W : World} {B n : Nat} {us : List Nat} (h : W.heap[B]? = some (.cells (fl2 us).toArray 45)) (hl : us.length = n) (hm : n ≤ 1050000) (hu : ∀ u ∈ us, u < 18446744073709551616) : RdF W (some ⟨B, 0, none⟩) n n us := by
  refine ⟨hl, by simp only [maxLen]; omega, hu, .inr ⟨B, 0, rfl, fun j hj => ?_⟩⟩
  rw [Nat.zero_add]
  refine cellAtJ h j _ ?_
  rw [List.getElem?_toArray]
  unfold fl2
  rw [List.getElem?_map, List.getElem?_eq_getElem (by omega)]
  rfl
theorem oneF (b : Nat) : ∀ u ∈ (Value.float .f64 b).cells.toList, u.oneCell' = true := by
  intro u hu
  simp [Value.cells] at hu
  subst hu
  rfl
theorem Tryz.szF1 : (Tryz.prog.info? 45).map (·.size) = some 1 := by kernel_rfl
end Go.Proofs.YtogdfdhdmfkmaaaGreat

