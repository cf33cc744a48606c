import Derived.Test.YthmhgpadinecfaaGreatTEg
set_option linter.unusedVariables false
set_option linter.unusedSimpArgs false
namespace Go.Proofs.YthmhgpadinecfaaGreat
open Go.RowKit Go.Shelf
theorem Mk.set {w W' : World} {base g p x : Nat} {v : Value} {us : List Nat} {cur d : Array Value} (h : Mk w base v us) (hv : v.ownBlock = some g) (hc : w.heap[g]? = some (.cells cur 55)) (e : W'.heap[g]? = some (.cells d 55)) (hp : p < us.length) (hx : x < 18446744073709551616) (h1 : d[p]? = some (.float .f64 x)) (h2 : ∀ j, j ≠ p -> d[j]? = cur[j]?) : Mk W' base v (us.set p x) := by
 obtain ⟨g', cap, cur', rfl, a2, a3, a4, a5, a6, a7, a8, a9⟩ := h
 have eg : g' = g := by have := hv; simp only [Value.ownBlock, Option.some.injEq] at this; exact this
 subst eg
 rw [hc] at a3
 cases a3
 refine ⟨g', cap, d, by rw [List.length_set], a2, e, by rw [List.length_set]; exact a4, a5, fun u hu => ?_, by rw [List.length_set]; exact a7, fun j hj => ?_, ?_⟩
 ·rcases List.mem_or_eq_of_mem_set hu with h | h
  ·exact a6 u h
  ·rw [h]; exact hx
 ·rw [List.length_set] at hj
  by_cases ej : j = p
  ·rw [ej, h1, List.getElem?_set_self hp]; rfl
  ·rw [h2 j ej, a8 j hj, List.getElem?_set_ne (fun c => ej c.symm)]
 ·rw [List.length_set, h2 _ (by omega)]; exact a9
theorem XL.any {w : World} {base : Nat} {cs rs : List Nat} {ids : List Int} {gs : List (List Nat)} {vc vr vi vg : Value} {gl : List Value} (h : XL w base cs rs ids gs vc vr vi vg gl) : ∀ u ∈ vc :: vr :: gl, ∃ us, Mk w base u us := by
 intro u hu
 rcases List.mem_cons.1 hu with rfl | hu
 ·exact ⟨_, h.c⟩
 rcases List.mem_cons.1 hu with rfl | hu
 ·exact ⟨_, h.r⟩
 obtain ⟨j, hj⟩ := List.mem_iff_getElem?.1 hu
 exact ⟨_, h.col j u hj⟩
end Go.Proofs.YthmhgpadinecfaaGreat
