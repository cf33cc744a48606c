import Derived.Test.YtkpoikjikkailaaWO
import Derived.Deep.AppendLies
import Derived.Deep.RegionHeld3
namespace Go.Proofs.Ytkpoikjikkailaa
open Go.RowKit
set_option linter.unusedVariables false

/-- A product that is added: two numbers' bits, a power. -/
structure TmV where
  a : Nat
  b : Nat
  n : Int
/-- THE SLICE OF Terms '.slice ao len cap' READS AS F. -/
structure RdT (w : World) (ao : Option Addr) (len cap : Nat) (F : Nat → TmV) : Prop where
  le : len ≤ cap
  max : cap ≤ maxLen
  lt : ∀ j, j < len → (F j).a < 18446744073709551616 ∧ (F j).b < 18446744073709551616 ∧ -9223372036854775808 ≤ (F j).n ∧ (F j).n ≤ 9223372036854775807
  cells : len = 0 ∨ ∃ b off, ao = some ⟨b, off, none⟩ ∧ ∀ j, j < len → w.cell? ⟨b, off + j * 3, none⟩ = some (.int .u64 ((F j).a : Int)) ∧ w.cell? ⟨b, off + j * 3 + 1, none⟩ = some (.int .u64 ((F j).b : Int)) ∧ w.cell? ⟨b, off + j * 3 + 2, none⟩ = some (.int .i64 (F j).n)
theorem RdT.later {w w' : World} {ao : Option Addr} {len cap : Nat} {F : Nat → TmV} (h : RdT w ao len cap F) (hb : Below w.heap.size w w') : RdT w' ao len cap F := by
  refine ⟨h.le, h.max, h.lt, ?_⟩
  rcases h.cells with h0 | ⟨b, off, ha, hc⟩
  · exact .inl h0
  · refine .inr ⟨b, off, ha, fun j hj => ?_⟩
    obtain ⟨h1, h2, h3⟩ := hc j hj
    have hl := World.block_lt_of_cell? w _ h1
    exact ⟨by rw [hb.cell (p := ⟨b, off + j * 3, none⟩) hl]; exact h1, by rw [hb.cell (p := ⟨b, off + j * 3 + 1, none⟩) hl]; exact h2, by rw [hb.cell (p := ⟨b, off + j * 3 + 2, none⟩) hl]; exact h3⟩
def tmc (t : TmV) : List Value := [.int .u64 (t.a : Int), .int .u64 (t.b : Int), .int .i64 t.n]
def tmcs (ts : List TmV) : List Value := ts.flatMap tmc
theorem tmcs_len : ∀ ts : List TmV, (tmcs ts).length = ts.length * 3
  | [] => rfl
  | t :: ts => by show (tmc t ++ tmcs ts).length = _; rw [List.length_append, tmcs_len ts, List.length_cons]; show 3 + _ = _; omega
theorem tmcs_snoc (ts : List TmV) (t : TmV) : tmcs (ts ++ [t]) = tmcs ts ++ tmc t := by unfold tmcs; rw [List.flatMap_append]; simp
theorem tmcs_at : ∀ (ts : List TmV) (j : Nat) (h : j < ts.length), (tmcs ts)[j * 3]? = some (.int .u64 (ts[j].a : Int)) ∧ (tmcs ts)[j * 3 + 1]? = some (.int .u64 (ts[j].b : Int)) ∧ (tmcs ts)[j * 3 + 2]? = some (.int .i64 ts[j].n)
  | t :: ts, 0, _ => ⟨rfl, rfl, rfl⟩
  | t :: ts, j + 1, h => by
    have ih := tmcs_at ts j (by simpa using h)
    have e : ∀ i, (tmcs (t :: ts))[(j + 1) * 3 + i]? = (tmcs ts)[j * 3 + i]? := by
      intro i
      show (tmc t ++ tmcs ts)[(j + 1) * 3 + i]? = _
      rw [List.getElem?_append_right (by show 3 ≤ _; omega)]
      congr 1
      show (j + 1) * 3 + i - 3 = _
      omega
    have e0 := e 0
    rw [Nat.add_zero, Nat.add_zero] at e0
    rw [e0, e 1, e 2]
    exact ih
theorem Try.infoTerm : (Try.prog.info? 83).map (fun i => (i.zero, i.size, i.bytes)) = some (some (.agg #[.int .u64 0, .int .u64 0, .int .i64 0]), 3, 24) := by kernel_rfl
/-- A slice of Terms that the call itself made. -/
def OwnT (w : World) (base : Nat) (v : Value) (ts : List TmV) : Prop := w.ownsRow base 83 3 v ts.length (tmcs ts)
theorem OwnT.nil (w : World) (base : Nat) : OwnT w base (.slice none 0 0) [] := World.ownsRow_nil w base _ 3
theorem OwnT.lt {w : World} {base : Nat} {v : Value} {ts : List TmV} (h : OwnT w base v ts) : ∀ k, v.ownBlock = some k → base ≤ k ∧ k < w.heap.size := World.ownsRow.lt h
theorem OwnT.keep {w w' : World} {base : Nat} {v : Value} {ts : List TmV} (h : OwnT w base v ts) (hb : ∀ k, v.ownBlock = some k → w'.heap[k]? = w.heap[k]?) : OwnT w' base v ts := by
  refine ⟨h.1, ?_⟩
  rcases h.2 with h2 | ⟨g, cap, cur, hv, hg, hh, r⟩
  · exact .inl h2
  · exact .inr ⟨g, cap, cur, hv, hg, by rw [hb g (by rw [hv]; rfl)]; exact hh, r⟩
theorem OwnT.later {w w' : World} {base : Nat} {v : Value} {ts : List TmV} (h : OwnT w base v ts) (hb : Below w.heap.size w w') : OwnT w' base v ts := h.keep fun k hk => hb.block k (h.lt k hk).2
def tmD : TmV := ⟨0, 0, 0⟩
/-- What it reads as. -/
theorem OwnT.form {w : World} {base : Nat} {v : Value} {ts : List TmV} (h : OwnT w base v ts) (hlt : ∀ t ∈ ts, t.a < 18446744073709551616 ∧ t.b < 18446744073709551616 ∧ -64 ≤ t.n ∧ t.n ≤ 64) : ∃ ao cap, v = .slice ao ts.length cap ∧ RdT w ao ts.length cap (fun j => ts[j]?.getD tmD) := by
  have hm : ∀ j, j < ts.length → ts[j]?.getD tmD ∈ ts := fun j hj => by rw [List.getElem?_eq_getElem hj]; exact List.getElem_mem hj
  have hb : ∀ j, j < ts.length → (ts[j]?.getD tmD).a < 18446744073709551616 ∧ (ts[j]?.getD tmD).b < 18446744073709551616 ∧ -9223372036854775808 ≤ (ts[j]?.getD tmD).n ∧ (ts[j]?.getD tmD).n ≤ 9223372036854775807 := fun j hj => by
    have := hlt _ (hm j hj)
    exact ⟨this.1, this.2.1, by omega, by omega⟩
  rcases h.2 with ⟨rfl, h0⟩ | ⟨g, cap, cur, rfl, hg, hh, hc, hx, hs, ht⟩
  · have : ts = [] := List.eq_nil_of_length_eq_zero h0
    subst this
    exact ⟨none, 0, rfl, Nat.le_refl _, by decide, fun j hj => (by simp at hj), .inl rfl⟩
  · refine ⟨_, cap, rfl, hc, hx, hb, .inr ⟨g, 0, rfl, fun j hj => ?_⟩⟩
    have key : ∀ i, i < 3 → w.cell? ⟨g, j * 3 + i, none⟩ = (tmcs ts)[j * 3 + i]? := by
      intro i hi
      rw [cell_of_row _ g _ _ _ _ hh, ← ht, List.getElem?_take, if_pos (by omega), Array.getElem?_toList]
    obtain ⟨k0, k1, k2⟩ := tmcs_at ts j hj
    rw [Nat.zero_add]
    have e0 := key 0 (by omega)
    rw [Nat.add_zero] at e0
    rw [e0, key 1 (by omega), key 2 (by omega), k0, k1, k2, List.getElem?_eq_getElem hj]
    exact ⟨rfl, rfl, rfl⟩
/-- The terms that are taken. -/
def takeT (t : TmV) : List TmV := if Fin t.a ∧ Fin t.b then [⟨t.a, t.b, t.n.tmod 65⟩] else []
def tsOf (F : Nat → TmV) : Nat → List TmV
  | 0 => []
  | k + 1 => tsOf F k ++ takeT (F k)
theorem tsOf_len (F : Nat → TmV) : ∀ k, (tsOf F k).length ≤ k
  | 0 => Nat.le_refl _
  | k + 1 => by
    show (tsOf F k ++ takeT (F k)).length ≤ _
    rw [List.length_append]
    have h1 := tsOf_len F k
    have h2 : (takeT (F k)).length ≤ 1 := by unfold takeT; split <;> simp
    omega
theorem tsOf_ok (F : Nat → TmV) : ∀ k, (∀ j, j < k → (F j).a < 18446744073709551616 ∧ (F j).b < 18446744073709551616) → ∀ t ∈ tsOf F k, Fin t.a ∧ Fin t.b ∧ t.a < 18446744073709551616 ∧ t.b < 18446744073709551616 ∧ -64 ≤ t.n ∧ t.n ≤ 64
  | 0, _, t, ht => by cases ht
  | k + 1, h, t, ht => by
    rcases List.mem_append.1 ht with h1 | h1
    · exact tsOf_ok F k (fun j hj => h j (by omega)) t h1
    · unfold takeT at h1
      split at h1
      · rename_i hc
        simp at h1
        subst h1
        have := h k (by omega)
        have b1 := Int.tmod_lt_of_pos (F k).n (show (0 : Int) < 65 by omega)
        have b2 := Int.lt_tmod_of_pos (F k).n (show (0 : Int) < 65 by omega)
        exact ⟨hc.1, hc.2, this.1, this.2, by show -64 ≤ (F k).n.tmod 65; omega, by show (F k).n.tmod 65 ≤ 64; omega⟩
      · cases h1
end Go.Proofs.Ytkpoikjikkailaa
