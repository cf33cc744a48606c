import Derived.Test.YtogpkigpnflaoaaDoorUF
namespace Go.Proofs.YtogpkigpnflaoaaDoor
open Go.RowKit
set_option linter.unusedVariables false

theorem GU.snoc2 {w w' : World} {base k gm : Nat} {v v' : Value} {vs : List Value} (h : GU w base v k vs) (ho : w'.ownsRow base 30 1 v' (vs ++ [Value.slice (some ⟨gm, 0, none⟩) k k]).length (vs ++ [Value.slice (some ⟨gm, 0, none⟩) k k])) (hg : w'.heap[gm]? = some (.cells (flN k) 29)) (hk : ∀ (j : Nat) (cu : Array Value), w.heap[j]? = some (.cells cu 29) → w'.heap[j]? = w.heap[j]?) : GU w' base v' k (vs ++ [Value.slice (some ⟨gm, 0, none⟩) k k]) := by
  refine ⟨ho, fun j hj => ?_⟩
  rw [List.length_append] at hj
  by_cases hlt : j < vs.length
  · obtain ⟨b', q1, q2⟩ := h.col j hlt
    exact ⟨b', by rw [List.getElem?_append_left hlt]; exact q1, (hk _ _ q2).trans q2⟩
  · have : j = vs.length := by simp at hj; omega
    subst this
    exact ⟨gm, by simp, hg⟩
/-- The cells of the columns. -/
theorem GU.cells {w : World} {base k ad m c : Nat} {vs : List Value} (h : GU w base (.slice (some ⟨ad, 0, none⟩) m c) k vs) : ∀ j u, vs[j]? = some u → w.cell? ((⟨ad, 0, none⟩ : Addr).add j) = some u := World.ownsRow.cells h.own rfl
theorem GU.one {w : World} {base k : Nat} {v : Value} {vs : List Value} (h : GU w base v k vs) : ∀ u ∈ vs, u.oneCell' = true := by
  intro u hu
  obtain ⟨j, hj, e⟩ := List.getElem_of_mem hu
  obtain ⟨b, q1, _⟩ := h.col j hj
  rw [List.getElem?_eq_getElem hj, e] at q1
  simp only [Option.some.injEq] at q1
  subst q1; rfl
/-- CheckProp of the law's questions. -/
theorem cpE (gc k gn gcap ln lcap : Nat) (go lo : Option Addr) (K D L E : Int) (w : World) (h1 : 1 ≤ k) (h2 : k ≤ 256) (hl : 1 ≤ ln) (hC : w.heap[gc]? = some (.cells (flN k) 29)) (hG : RdLL w go gn gcap (List.replicate gn (List.replicate k 0))) (hL : RdLL w lo ln lcap (List.replicate ln (List.replicate 2 0)))
    (hE : (if 256 < gn then ((65 : Int), (0 : Int)) else if 64 < ln then (65, 0) else (budE K D L, 0)) = (E, 0)) (q : Int) (hq : q = (k : Int)) :
    Calls Tryd.prog 8 #[.agg (prL gc k (.slice go gn gcap) (.slice lo ln lcap) K D L), .int .i64 q, .int .i64 1] w fun e w' => e = .returned (.tuple #[.int .i64 E, .int .i64 0]) ∧ Below w.heap.size w w' := by
  subst hq
  have h := checkProp_any (some ⟨gc, 0, none⟩) go lo k k gn gcap ln lcap (List.replicate k 0) (List.replicate gn (List.replicate k 0)) (List.replicate ln (List.replicate 2 0)) (-1) K D L (k : Int) 1 w (rdF_zero (by omega) hC) hG hL
  rw [propE_zero k gn ln K D L h1 h2 hl, hE] at h
  exact h
theorem bud0 : budE 8 8 1024 = 0 := by decide
theorem bud1 : budE 9 8 1024 = 69 := by decide
theorem bud2 : budE 1 8 1025 = 69 := by decide
theorem bud3 : budE 1 9 1 = 69 := by decide
theorem Tryd.infoIn1 : (Tryd.prog.info? 3).map (·.size) = some 1 := by kernel_rfl
theorem col_snoc {w w' : World} {k gm : Nat} {vs : List Value} (h : ∀ j, j < vs.length → ∃ b, vs[j]? = some (.slice (some ⟨b, 0, none⟩) k k) ∧ w.heap[b]? = some (.cells (flN k) 29)) (hg : w'.heap[gm]? = some (.cells (flN k) 29)) (hk : ∀ (j : Nat) (cu : Array Value), w.heap[j]? = some (.cells cu 29) → w'.heap[j]? = w.heap[j]?) : ∀ j, j < (vs ++ [Value.slice (some ⟨gm, 0, none⟩) k k]).length → ∃ b, (vs ++ [Value.slice (some ⟨gm, 0, none⟩) k k])[j]? = some (.slice (some ⟨b, 0, none⟩) k k) ∧ w'.heap[b]? = some (.cells (flN k) 29) := by
  intro j hj
  rw [List.length_append] at hj
  by_cases hlt : j < vs.length
  · obtain ⟨b', q1, q2⟩ := h j hlt
    exact ⟨b', by rw [List.getElem?_append_left hlt]; exact q1, (hk _ _ q2).trans q2⟩
  · have : j = vs.length := by simp at hj; omega
    subst this
    exact ⟨gm, by simp, hg⟩
theorem ClU.list {w : World} {g : Nat} (h : ClU w g 64) : ∃ vs : List Value, vs.length = 64 ∧ (∀ j u, vs[j]? = some u → w.cell? ((⟨g, 0, none⟩ : Addr).add j) = some u) ∧ (∀ u ∈ vs, u.oneCell' = true) ∧ ∀ j, j < vs.length → ∃ b, vs[j]? = some (.slice (some ⟨b, 0, none⟩) 2 2) ∧ w.heap[b]? = some (.cells (flN 2) 29) := by
  obtain ⟨cur, h1, h2, h3⟩ := h
  have hc : ∀ j, j < cur.toList.length → ∃ b, cur.toList[j]? = some (.slice (some ⟨b, 0, none⟩) 2 2) ∧ w.heap[b]? = some (.cells (flN 2) 29) := by
    intro j hj
    obtain ⟨b, q1, q2⟩ := h3 j (by simpa [h2] using hj)
    exact ⟨b, by rw [Array.getElem?_toList]; exact q1, q2⟩
  refine ⟨cur.toList, by simpa using h2, fun j u hu => ?_, fun u hu => ?_, hc⟩
  · rw [Addr.add_lit, Nat.zero_add, cell_of_row _ g j _ _ _ h1, ← Array.getElem?_toList]
    exact hu
  · obtain ⟨j, hj, e⟩ := List.getElem_of_mem hu
    obtain ⟨b, q1, _⟩ := hc j hj
    rw [List.getElem?_eq_getElem hj, e] at q1
    simp only [Option.some.injEq] at q1
    subst q1; rfl
/-- The lists of the law's question. -/
structure PS (w : World) (base gc gl k ad cap : Nat) (vs : List Value) : Prop where
  c : w.heap[gc]? = some (.cells (flN k) 29)
  g : GU w base (.slice (some ⟨ad, 0, none⟩) 256 cap) k vs
  l : ClU w gl 64
theorem PS.later {w w' : World} {base gc gl k ad cap : Nat} {vs : List Value} (h : PS w base gc gl k ad cap vs) (hb : Below w.heap.size w w') : PS w' base gc gl k ad cap vs := ⟨kept hb h.c, h.g.later hb, h.l.later hb⟩
theorem PS.keep {w w' : World} {base gc gl k ad cap B : Nat} {vs : List Value} {c : Array Value} (h : PS w base gc gl k ad cap vs) (hB : w.heap[B]? = some (.cells c 42)) (ho : ∀ j, j < w.heap.size → j ≠ B → w'.heap[j]? = w.heap[j]?) : PS w' base gc gl k ad cap vs := by
  have ne : ∀ {j : Nat} {cu : Array Value} {t : TypeId}, w.heap[j]? = some (.cells cu t) → t = 30 ∨ t = 29 → w'.heap[j]? = w.heap[j]? := by
    intro j cu t hj ht
    refine ho j (blk_lt hj) fun e => ?_
    subst e
    rw [hj] at hB
    simp only [Option.some.injEq, Obj.cells.injEq] at hB
    rcases ht with rfl | rfl
    · exact absurd hB.2.1 (by decide)
    · exact absurd hB.2.1 (by decide)
  exact ⟨(ne h.c (.inr rfl)).trans h.c, h.g.keepB (fun j cu t hj ht => ne hj ht), h.l.keep hB (by decide) (by decide) ho⟩
theorem PS.call {w : World} {base gc gl k ad cap : Nat} {vs : List Value} (h : PS w base gc gl k ad cap vs) (hl : vs.length = 256) (h1 : 1 ≤ k) (h2 : k ≤ 256) (K D L E : Int) (hE : budE K D L = E) (q : Int) (hq : q = (k : Int)) :
    Calls Tryd.prog 8 #[.agg (prL gc k (.slice (some ⟨ad, 0, none⟩) 256 cap) (.slice (some ⟨gl, 0, none⟩) 64 64) K D L), .int .i64 q, .int .i64 1] w fun e w' => e = .returned (.tuple #[.int .i64 E, .int .i64 0]) ∧ Below w.heap.size w w' := by
  obtain ⟨ao, cap', e, hr⟩ := h.g.rd (by omega) (by omega)
  rw [hl] at e hr
  cases e
  exact cpE gc k 256 cap 64 64 _ _ K D L E w h1 h2 (by omega) h.c hr h.l.rd (by rw [if_neg (by omega), if_neg (by omega), hE]) q hq
theorem PS.callG {w : World} {base b2 gc gl k ad cap : Nat} {vs us : List Value} {v : Value} (h : PS w base gc gl k ad cap vs) (hg : GU w b2 v k us) (hl : us.length = 257) (h1 : 1 ≤ k) (h2 : k ≤ 256) (q : Int) (hq : q = (k : Int)) :
    Calls Tryd.prog 8 #[.agg (prL gc k v (.slice (some ⟨gl, 0, none⟩) 64 64) 8 8 1024), .int .i64 q, .int .i64 1] w fun e w' => e = .returned (.tuple #[.int .i64 65, .int .i64 0]) ∧ Below w.heap.size w w' := by
  obtain ⟨ao, cap', rfl, hr⟩ := hg.rd (by omega) (by omega)
  rw [hl] at hr ⊢
  exact cpE gc k 257 cap' 64 64 _ _ 8 8 1024 65 w h1 h2 (by omega) h.c hr h.l.rd (by rw [if_pos (by omega)]) q hq
theorem PS.callL {w : World} {base b2 gc gl k ad cap : Nat} {vs us : List Value} {v : Value} (h : PS w base gc gl k ad cap vs) (hv : vs.length = 256) (hg : GU w b2 v 2 us) (hl : us.length = 65) (h1 : 1 ≤ k) (h2 : k ≤ 256) (q : Int) (hq : q = (k : Int)) :
    Calls Tryd.prog 8 #[.agg (prL gc k (.slice (some ⟨ad, 0, none⟩) 256 cap) v 8 8 1024), .int .i64 q, .int .i64 1] w fun e w' => e = .returned (.tuple #[.int .i64 65, .int .i64 0]) ∧ Below w.heap.size w w' := by
  obtain ⟨ao, cap', e, hr⟩ := h.g.rd (by omega) (by omega)
  rw [hv] at e hr
  cases e
  obtain ⟨ao', cap'', rfl, hr'⟩ := hg.rd (by omega) (by omega)
  rw [hl] at hr' ⊢
  exact cpE gc k 256 cap 65 cap'' _ _ 8 8 1024 65 w h1 h2 (by omega) h.c hr hr' (by rw [if_neg (by omega), if_pos (by omega)]) q hq
end Go.Proofs.YtogpkigpnflaoaaDoor
