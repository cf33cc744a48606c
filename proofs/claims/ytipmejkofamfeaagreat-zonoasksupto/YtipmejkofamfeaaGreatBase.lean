import Derived.WalkKit
import Derived.Lib.EndianBits
import Derived.Laws.Bits128
/-
  MY OWN: byte slices as lists: what a slice value reads as ('Rd'), how it lasts ('Below'), and the plain functions of chapter 1.
-/
namespace Go.Proofs.YtipmejkofamfeaaGreat
open Go.RowKit

/-- A list of bytes. -/
def Byt (xs : List Int) : Prop := ∀ x ∈ xs, 0 ≤ x ∧ x ≤ 255

/-- THE SLICE OF BYTES '.slice ao len cap' READS AS xs. -/
structure Rd (w : World) (ao : Option Addr) (len cap : Nat) (xs : List Int) : Prop where
  length : xs.length = len
  le : len ≤ cap
  max : cap ≤ 9223372036854775807
  byt : Byt xs
  nil : ao = none → cap = 0
  cells : len = 0 ∨ ∃ b off, ao = some ⟨b, off, none⟩ ∧ ∀ j, j < len → w.cell? ⟨b, off + j, none⟩ = some (.int .u8 (xs[j]?.getD 0))

theorem Byt.nil : Byt [] := fun _ h => by cases h
theorem Byt.cons {x : Int} {xs : List Int} (h0 : 0 ≤ x) (h1 : x ≤ 255) (h : Byt xs) : Byt (x :: xs) := by
  intro y hy
  rcases List.mem_cons.1 hy with rfl | hy
  · exact ⟨h0, h1⟩
  · exact h y hy
theorem Byt.append {xs ys : List Int} (h : Byt xs) (k : Byt ys) : Byt (xs ++ ys) := by
  intro y hy
  rcases List.mem_append.1 hy with hy | hy
  · exact h y hy
  · exact k y hy
theorem Byt.take {xs : List Int} (h : Byt xs) (n : Nat) : Byt (xs.take n) := fun y hy => h y (List.mem_of_mem_take hy)
theorem Byt.drop {xs : List Int} (h : Byt xs) (n : Nat) : Byt (xs.drop n) := fun y hy => h y (List.mem_of_mem_drop hy)
theorem Byt.at {xs : List Int} (h : Byt xs) (j : Nat) : 0 ≤ xs[j]?.getD 0 ∧ xs[j]?.getD 0 ≤ 255 := by
  by_cases hj : j < xs.length
  · rw [List.getElem?_eq_getElem hj]; exact h _ (List.getElem_mem hj)
  · rw [List.getElem?_eq_none (by omega)]; simp

/-- What reads so reads so as long as old memory stands. -/
theorem Rd.later {w w' : World} {ao : Option Addr} {len cap : Nat} {xs : List Int} (h : Rd w ao len cap xs) (hb : Below w.heap.size w w') : Rd w' ao len cap xs := by
  refine ⟨h.length, h.le, h.max, h.byt, h.nil, ?_⟩
  rcases h.cells with h0 | ⟨b, off, ha, hc⟩
  · exact .inl h0
  · refine .inr ⟨b, off, ha, fun j hj => ?_⟩
    have hl := World.block_lt_of_cell? w _ (hc j hj)
    rw [hb.cell (p := ⟨b, off + j, none⟩) hl]
    exact hc j hj

theorem below_trans {a b c : World} (h : Below a.heap.size a b) (k : Below b.heap.size b c) : Below a.heap.size a c :=
  h.trans (k.mono h.size)

theorem getD_eq_of {xs ys : List Int} (hl : xs.length = ys.length) (h : ∀ j, j < xs.length → xs[j]?.getD 0 = ys[j]?.getD 0) : xs = ys := by
  apply List.ext_getElem hl
  intro i h1 h2
  have := h i h1
  rw [List.getElem?_eq_getElem h1, List.getElem?_eq_getElem h2] at this
  simpa using this

/-- A slice that the call owns reads as its bytes. -/
theorem Rd.of_owns {w : World} {base : Nat} {v : Value} {n : Nat} {xs : List Int} {e : TypeId} (h : w.ownsRow base e 1 v n (xs.map (Value.int .u8))) (hb : Byt xs) :
    ∃ ao cap, v = .slice ao n cap ∧ Rd w ao n cap xs := by
  have hl : xs.length = n := by simpa using h.1
  rcases h.2 with ⟨rfl, rfl⟩ | ⟨g, cap, cur, rfl, hg, hh, hnc, hcm, hcs, ht⟩
  · exact ⟨none, 0, rfl, hl, Nat.le_refl _, by omega, hb, fun _ => rfl, .inl rfl⟩
  · refine ⟨_, cap, rfl, hl, hnc, hcm, hb, (fun h => by cases h), ?_⟩
    by_cases h0 : n = 0
    · exact .inl h0
    · refine .inr ⟨g, 0, rfl, fun j hj => ?_⟩
      have := h.cells (g := g) rfl j (.int .u8 (xs[j]?.getD 0)) (by rw [List.getElem?_map, List.getElem?_eq_getElem (by omega)]; rfl)
      rw [Addr.add_lit] at this
      simpa using this
theorem sameDec (xs ys : List Int) : decide (xs = ys) = true ↔ xs = ys := by simp

/-! ### numbers in groups of seven bits -/
def grpF : Nat → Nat → List Int
  | 0, n => [(n : Int)]
  | f + 1, n => if n < 128 then [(n : Int)] else ((128 + n % 128 : Nat) : Int) :: grpF f (n / 128)
def grp (n : Nat) : List Int := grpF n n
theorem grpF_eq (f : Nat) : ∀ g n, n ≤ f → n ≤ g → grpF f n = grpF g n := by
  induction f with
  | zero =>
    intro g n h1 h2
    have : n = 0 := by omega
    subst this
    cases g with
    | zero => rfl
    | succ g => simp [grpF]
  | succ f ih =>
    intro g n h1 h2
    cases g with
    | zero =>
      have : n = 0 := by omega
      subst this
      simp [grpF]
    | succ g =>
      by_cases h : n < 128
      · simp only [grpF]
        rw [if_pos h, if_pos h]
      · simp only [grpF]
        rw [if_neg h, if_neg h, ih g (n / 128) (by omega) (by omega)]

theorem grp_small (n : Nat) (h : n < 128) : grp n = [(n : Int)] := by
  unfold grp
  cases n with
  | zero => rfl
  | succ m =>
    simp only [grpF]
    rw [if_pos h]
theorem grp_big (n : Nat) (h : ¬ n < 128) : grp n = ((128 + n % 128 : Nat) : Int) :: grp (n / 128) := by
  unfold grp
  cases n with
  | zero => omega
  | succ m =>
    have e : grpF (m + 1) (m + 1) = ((128 + (m + 1) % 128 : Nat) : Int) :: grpF m ((m + 1) / 128) := by
      rw [grpF, if_neg h]
    rw [e, grpF_eq m ((m + 1) / 128) ((m + 1) / 128) (by omega) (Nat.le_refl _)]
theorem grp_byt (n : Nat) : Byt (grp n) := by
  induction n using Nat.strongRecOn with
  | _ n ih =>
    by_cases h : n < 128
    · rw [grp_small n h]; exact Byt.cons (by omega) (by omega) Byt.nil
    · rw [grp_big n h]; exact Byt.cons (by omega) (by omega) (ih _ (by omega))
theorem grp_len (k : Nat) : ∀ n, n < 128 ^ k → 1 ≤ k → (grp n).length ≤ k := by
  induction k with
  | zero => intro n _ h; omega
  | succ k ih =>
    intro n hn _
    by_cases h : n < 128
    · rw [grp_small n h]; simp
    · rw [grp_big n h]
      simp only [List.length_cons]
      have hk : 1 ≤ k := by
        rcases k with _ | k
        · simp at hn; omega
        · omega
      have := ih (n / 128) (by rw [Nat.pow_succ] at hn; exact Nat.div_lt_of_lt_mul (by omega)) hk
      omega
end Go.Proofs.YtipmejkofamfeaaGreat
