import Derived.Test.YtjeghdmclmelfaaGreatJXm
namespace Go.Proofs.YtjeghdmclmelfaaGreat
open Go.RowKit Go.Shelf
set_option linter.unusedVariables false
set_option linter.unusedSimpArgs false
def Flo (W W' : World) : Prop := ∀ a v, W.cell? a = some v → W'.cell? a = some v ∨ ∃ u u' : Nat, v = .float .f64 u ∧ W'.cell? a = some (.float .f64 u') ∧ u' < 18446744073709551616
theorem RdF.stored {W W' : World} {ao : Option Addr} {l c : Nat} {us : List Nat} (hs : Flo W W') (h : RdF W ao l c us) : ∃ us', RdF W' ao l c us' := by
 rcases h.cells with h0 | ⟨b, off, ha, hc⟩
 ·exact ⟨us, h.length, h.max, h.lt, .inl h0⟩
 ·have hx : ∀ j : Nat, ∃ p : Nat, j < l → W'.cell? ⟨b, off + j, none⟩ = some (.float .f64 p) ∧ p < 18446744073709551616 := fun j => by
   by_cases hj : j < l
   ·rcases hs _ _ (hc j hj) with h1 | ⟨u, u', _, h2, h3⟩
    ·refine ⟨_, fun _ => ⟨h1, ?_⟩⟩
     have hjl : j < us.length := by rw [h.length]; exact hj
     rw [List.getElem?_eq_getElem hjl, Option.getD_some]
     exact h.lt _ (List.getElem_mem hjl)
    ·exact ⟨u', fun _ => ⟨h2, h3⟩⟩
   ·exact ⟨0, fun h => absurd h hj⟩
  refine ⟨(List.range l).map fun j => Classical.choose (hx j), by simp, h.max, ?_, .inr ⟨b, off, ha, fun j hj => ?_⟩⟩
  ·intro u hu
   obtain ⟨j, hj, rfl⟩ := List.mem_map.1 hu
   exact (Classical.choose_spec (hx j) (List.mem_range.1 hj)).2
  ·have e : ((List.range l).map fun j => Classical.choose (hx j))[j]?.getD 0 = Classical.choose (hx j) := by
    rw [List.getElem?_map, List.getElem?_range hj]
    rfl
   rw [e]
   exact (Classical.choose_spec (hx j) hj).1
theorem RdIs.stored {W W' : World} {ao : Option Addr} {l c : Nat} {is : List Int} (hs : Flo W W') (h : RdIs W ao l c is) : RdIs W' ao l c is := by
 refine ⟨h.length, h.max, ?_⟩
 rcases h.cells with h0 | ⟨b, off, ha, hc⟩
 ·exact .inl h0
 ·refine .inr ⟨b, off, ha, fun j hj => ?_⟩
  rcases hs _ _ (hc j hj) with h1 | ⟨u, u', h2, _⟩
  ·exact h1
  ·cases h2
theorem RdGs.stored {W W' : World} {ao : Option Addr} {l c : Nat} {gv : Nat → Option Addr × Nat × Nat} {gs : List (List Nat)} (hs : Flo W W') (h : RdGs W ao l c gv gs) : ∃ gs', RdGs W' ao l c gv gs' := by
 have hx : ∀ j : Nat, ∃ p : List Nat, j < l → RdF W' (gv j).1 (gv j).2.1 (gv j).2.2 p := fun j => by
  by_cases hj : j < l
  ·obtain ⟨p, hp⟩ := (h.each j hj).stored hs
   exact ⟨p, fun _ => hp⟩
  ·exact ⟨[], fun h => absurd h hj⟩
 refine ⟨(List.range l).map fun j => Classical.choose (hx j), by simp, h.max, ?_, fun j hj => ?_⟩
 ·rcases h.cells with h0 | ⟨b, off, ha, hc⟩
  ·exact .inl h0
  ·refine .inr ⟨b, off, ha, fun j hj => ?_⟩
   rcases hs _ _ (hc j hj) with h1 | ⟨u, u', h2, _⟩
   ·exact h1
   ·cases h2
 ·have e : ((List.range l).map fun j => Classical.choose (hx j))[j]?.getD [] = Classical.choose (hx j) := by
   rw [List.getElem?_map, List.getElem?_range hj]
   rfl
  rw [e]
  exact Classical.choose_spec (hx j) hj
theorem ZR.stored {W W' : World} {x : ZD} (hs : Flo W W') (h : ZR W x) : ∃ cs rs gs, ZR W' { x with cs := cs, rs := rs, gs := gs } := by
 obtain ⟨cs, hc⟩ := h.c.stored hs
 obtain ⟨rs, hr⟩ := h.r.stored hs
 obtain ⟨gs, hg⟩ := h.g.stored hs
 exact ⟨cs, rs, gs, hc, h.i.stored hs, hg, hr⟩
theorem Flo.of_store {W W' : World} {g i : Nat} {cur : Array Value} {t : TypeId} {u u' : Nat} (h : W.heap[g]? = some (.cells cur t)) (hi : cur[i]? = some (.float .f64 u)) (hu : u' < 18446744073709551616) (h' : W'.heap[g]? = some (.cells (cur.toList.take i ++ [Value.float .f64 u'] ++ cur.toList.drop (i + 1)).toArray t)) (ho : ∀ k, k ≠ g → W'.heap[k]? = W.heap[k]?) : Flo W W' := by
 intro a v hv
 have hlt : i < cur.size := by
  rcases Nat.lt_or_ge i cur.size with h1 | h1
  ·exact h1
  ·rw [Array.getElem?_eq_none h1] at hi; cases hi
 by_cases hb : a.block = g
 ·have e : W.cell? a = if a.spot.isSome then none else cur[a.off]? := by unfold World.cell?; rw [hb, h]
  have e1 : cur.toList.take i ++ [Value.float .f64 u'] ++ cur.toList.drop (i + 1) = cur.toList.set i (Value.float .f64 u') := by
   rw [List.set_eq_take_append_cons_drop, if_pos (by rw [Array.length_toList]; exact hlt)]
   simp
  rw [e1] at h'
  have e' : W'.cell? a = if a.spot.isSome then none else (cur.toList.set i (Value.float .f64 u')).toArray[a.off]? := by unfold World.cell?; rw [hb, h']
  rw [e] at hv
  rw [e']
  cases hp : a.spot.isSome with
  | true => rw [hp] at hv; cases hv
  | false =>
   rw [hp] at hv
   replace hv : cur[a.off]? = some v := hv
   show (cur.toList.set i (Value.float .f64 u')).toArray[a.off]? = some v ∨ ∃ u u' : Nat, v = .float .f64 u ∧ _ ∧ u' < 18446744073709551616
   rw [List.getElem?_toArray]
   by_cases ho' : i = a.off
   ·right
    rw [← ho', hi] at hv
    refine ⟨u, u', (Option.some.inj hv).symm, ?_, hu⟩
    show (cur.toList.set i (Value.float .f64 u'))[a.off]? = _
    rw [← ho', List.getElem?_set_self (by rw [Array.length_toList]; exact hlt)]
   ·left
    rw [List.getElem?_set_ne ho', Array.getElem?_toList]
    exact hv
 ·left
  rw [← hv]
  unfold World.cell?
  rw [ho _ hb]
end Go.Proofs.YtjeghdmclmelfaaGreat
