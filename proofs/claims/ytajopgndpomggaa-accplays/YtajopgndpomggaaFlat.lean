import Derived.Deep.Slices
import Derived.ChangeSame
namespace Go.Proofs.Ytajopgndpomggaa
open Go.ChangeShapes Go.WideShapes
section
variable {H : Type} {enc : TypeId × Value → H} {P : Program} {w : World} {base : Nat} {spare : Nat → Bool} {held : Bool}
theorem trod_float {t : TypeId} {k : FloatKind} {fuel : Nat} {cs : List Value} {x : DataW H × List MemPlace} (ht : P.underlying t = some (.float k)) (h : DataW.trod enc P w base spare held fuel t cs = some x) : ∃ n, cs = [.float k n] ∧ x = (.lit (.float k n), []) ∧ (Lit.float k n).wf = true := by
  cases fuel with
  | zero => simp [DataW.trod] at h
  | succ n =>
    unfold DataW.trod at h
    rw [ht] at h
    split at h <;> simp_all
/-- A slice of structs whose fields are of one cell each: what each cell of an element reads as. -/
theorem open_slice_flat {t e : TypeId} {fs : Array Field} {fuel : Nat} {cs : List Value} {x : DataW H × List MemPlace} (ht : P.underlying t = some (.slice e)) (he : P.underlying e = some (.struct fs))
    (ce : P.cellsOf e = fs.size) (ho : ∀ (k : Nat) (f : Field), fs[k]? = some f → f.offset = k ∧ P.cellsOf f.type = 1) (h : DataW.trod enc P w base spare held fuel t cs = some x) :
    cs = [.slice none 0 0] ∨ ∃ (a : Addr) (len cap m n : Nat), cs = [.slice (some a) len cap] ∧ len ≤ cap ∧ cap ≤ maxLen ∧ m = (if spare a.block then cap else len) ∧
      ∀ i, i < m → ∀ (k : Nat) (f : Field), fs[k]? = some f → ∃ v y, w.cell? (a.add (i * fs.size + k)) = some v ∧ DataW.trod enc P w base spare held n f.type [v] = some y := by
  rcases Deep.open_slice ht h with ⟨h0, -⟩ | ⟨a, len, cap, m, n, D, Pl, rfl, hb, hl, hm, hmm, rfl, hx⟩
  · exact .inl h0
  · refine .inr ⟨a, len, cap, m, n - 1, rfl, hl, hm, hmm, fun i hi k f hf => ?_⟩
    obtain ⟨cs', h1, h2⟩ := hx i hi
    rw [ce] at h1
    obtain ⟨_, hlen, hcell⟩ := World.cells?_some h1
    obtain ⟨xs, q, hq, hxy, _, hxl, hfs⟩ := DataW.trod_struct he h2
    obtain rfl : q = n - 1 := by omega
    obtain ⟨o1, o2⟩ := ho k f hf
    have hk : k < fs.size := by
      rcases Nat.lt_or_ge k fs.size with h | h
      · exact h
      · rw [Array.getElem?_eq_none h] at hf; cases hf
    have hd : (cs'.drop k).take 1 = [cs'[k]] := by
      rw [List.drop_eq_getElem_cons (by omega)]; rfl
    have g := hfs k f hf
    rw [o1, o2, hd, List.getElem?_eq_getElem (by omega)] at g
    have c := hcell k hk
    rw [Deep.add_add, List.getElem?_eq_getElem (by omega)] at c
    exact ⟨_, _, c, g⟩
end
end Go.Proofs.Ytajopgndpomggaa
