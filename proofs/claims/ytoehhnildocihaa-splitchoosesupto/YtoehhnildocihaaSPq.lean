import Derived.Deep.Slices
import Derived.ChangeSame
import Derived.OpenShut
import Derived.Test.YtoehhnildocihaaSPr
namespace Go.Proofs.Ytoehhnildocihaa
open Go.RowKit Go.ChangeShapes Go.WideShapes Go.ChangeAt Go.Joins Go.Deep
set_option linter.unusedVariables false
set_option linter.unusedSimpArgs false
section
variable {H : Type} {enc : TypeId × Value → H} {P : Program} {w : World} {base : Nat} {spare : Nat → Bool} {held : Bool}
theorem trod_float {t : TypeId} {k : FloatKind} {fuel : Nat} {cs : List Value} {x : DataW H × List MemPlace} (ht : P.underlying t = some (.float k)) (h : DataW.trod enc P w base spare held fuel t cs = some x) : ∃ n, cs = [.float k n] ∧ x = (.lit (.float k n), []) ∧ (Lit.float k n).wf = true := by
  cases fuel with
  | zero => simp [DataW.trod] at h
  | succ n =>
    unfold DataW.trod at h
    rw [ht] at h
    split at h <;> simp_all
/-- A slice of structs whose fields are of one cell each: what each cell of an element reads as. -/
theorem open_slice_flat {t e : TypeId} {fs : Array Field} {fuel : Nat} {cs : List Value} {x : DataW H × List MemPlace} (ht : P.underlying t = some (.slice e)) (he : P.underlying e = some (.struct fs))
    (ce : P.cellsOf e = fs.size) (ho : ∀ (k : Nat) (f : Field), fs[k]? = some f → f.offset = k ∧ P.cellsOf f.type = 1) (h : DataW.trod enc P w base spare held fuel t cs = some x) :
    cs = [.slice none 0 0] ∨ ∃ (a : Addr) (len cap m n : Nat), cs = [.slice (some a) len cap] ∧ len ≤ cap ∧ cap ≤ maxLen ∧ m = (if spare a.block then cap else len) ∧
      ∀ i, i < m → ∀ (k : Nat) (f : Field), fs[k]? = some f → ∃ v y, w.cell? (a.add (i * fs.size + k)) = some v ∧ DataW.trod enc P w base spare held n f.type [v] = some y := by
  rcases Deep.open_slice ht h with ⟨h0, -⟩ | ⟨a, len, cap, m, n, D, Pl, rfl, hb, hl, hm, hmm, rfl, hx⟩
  · exact .inl h0
  · refine .inr ⟨a, len, cap, m, n - 1, rfl, hl, hm, hmm, fun i hi k f hf => ?_⟩
    obtain ⟨cs', h1, h2⟩ := hx i hi
    rw [ce] at h1
    obtain ⟨_, hlen, hcell⟩ := World.cells?_some h1
    obtain ⟨xs, q, hq, hxy, _, hxl, hfs⟩ := DataW.trod_struct he h2
    obtain rfl : q = n - 1 := by omega
    obtain ⟨o1, o2⟩ := ho k f hf
    have hk : k < fs.size := by
      rcases Nat.lt_or_ge k fs.size with h | h
      · exact h
      · rw [Array.getElem?_eq_none h] at hf; cases hf
    have hd : (cs'.drop k).take 1 = [cs'[k]] := by
      rw [List.drop_eq_getElem_cons (by omega)]; rfl
    have g := hfs k f hf
    rw [o1, o2, hd, List.getElem?_eq_getElem (by omega)] at g
    have c := hcell k hk
    rw [Deep.add_add, List.getElem?_eq_getElem (by omega)] at c
    exact ⟨_, _, c, g⟩
end
def intOfV : Value → Int
  | .int _ n => n
  | _ => 0
def boolOfV : Value → Bool
  | .bool b => b
  | _ => false
def cellOfT (W : World) (a : Addr) : Value := (W.cell? a).getD undef
def tuAt (W : World) (b off : Nat) (j : Nat) : Int × Bool := (intOfV (cellOfT W ⟨b, off + j * 2, none⟩), boolOfV (cellOfT W ⟨b, off + j * 2 + 1, none⟩))
/-- A slice of turns that came in. -/
theorem rdTu_of_trod {P : Program} {H : Type} {enc : TypeId × Value → H} {W : World} {T E : TypeId} {f0 f1 : Field} {a : Option Addr} {len cap : Nat} {d : DataW H} {p : List MemPlace}
    (hT : P.underlying T = some (.slice E)) (hE : P.underlying E = some (.struct #[f0, f1])) (ce : P.cellsOf E = 2) (o0 : f0.offset = 0 ∧ P.cellsOf f0.type = 1) (o1 : f1.offset = 1 ∧ P.cellsOf f1.type = 1)
    (q0 : P.underlying f0.type = some (.int .i64)) (q1 : P.underlying f1.type = some .bool) (h : DataW.Trod enc P W 0 (fun _ => true) true T (.slice a len cap) d p) : ∃ F, RdTu W a len cap F := by
  obtain ⟨fuel, hf⟩ := h
  rcases open_slice_flat hT hE ce (by
      intro k f hk
      match k, hk with
      | 0, hk => cases hk; exact o0
      | 1, hk => cases hk; exact o1) hf with hcs | ⟨x, l, c, m, n, hcs, hl, hm, hmm, hcell⟩
  · simp [Value.cells] at hcs
    obtain ⟨rfl, rfl, rfl⟩ := hcs
    exact ⟨fun _ => (0, false), Nat.zero_le _, .inl rfl⟩
  · simp [Value.cells] at hcs
    obtain ⟨rfl, rfl, rfl⟩ := hcs
    simp only [if_true] at hmm
    subst hmm
    by_cases h0 : len = 0
    · subst h0
      exact ⟨fun _ => (0, false), Nat.zero_le _, .inl rfl⟩
    obtain ⟨b, off, spot⟩ := x
    have hspot : spot = none := by
      obtain ⟨v, y, hc, _⟩ := hcell 0 (by omega) 0 f0 rfl
      simpa [Addr.add] using World.cell?_spot hc
    subst hspot
    have key : ∀ j, j < len → W.cell? ⟨b, off + j * 2, none⟩ = some (.int .i64 (tuAt W b off j).1) ∧ W.cell? ⟨b, off + j * 2 + 1, none⟩ = some (.bool (tuAt W b off j).2) := by
      intro j hj
      obtain ⟨v0, y0, c0, t0⟩ := hcell j (by omega) 0 f0 rfl
      obtain ⟨v1, y1, c1, t1⟩ := hcell j (by omega) 1 f1 rfl
      obtain ⟨a0, e0, _, w0⟩ := DataW.trod_int q0 t0
      obtain ⟨a1, e1, _⟩ := DataW.trod_bool q1 t1
      simp only [List.cons.injEq, and_true] at e0 e1
      subst e0 e1
      have hs : (#[f0, f1] : Array Field).size = 2 := rfl
      rw [hs, Addr.add_lit] at c0 c1
      rw [Nat.add_zero] at c0
      rw [← Nat.add_assoc] at c1
      unfold tuAt cellOfT
      rw [c0, c1]
      exact ⟨rfl, rfl⟩
    exact ⟨tuAt W b off, Nat.le_trans hl hm, .inr ⟨b, off, rfl, key⟩⟩
theorem array2 {cs : Array Value} (h : cs.size = 2) : ∃ c0 c1, cs = #[c0, c1] := by
  obtain ⟨l⟩ := cs
  match l, h with
  | [a, b], _ => exact ⟨a, b, rfl⟩
theorem agg2 {P : Program} {H : Type} {enc : TypeId × Value → H} {W : World} {base b0 : Nat} {r : Reach} {spare : Nat → Bool} {held : Bool} {t : TypeId} {f0 f1 : Field} {v : Value} {d : DataW H} {p : List MemPlace}
    (hs : P.underlying t = some (.struct #[f0, f1])) (hone : oneCellFields P #[f0, f1] = true) (hC : P.cellsOf t = 2) (hv : Value.okWide P W r b0 t v) (h : DataW.Trod enc P W base spare held t v d p) :
    ∃ (v0 v1 : Value) (y0 y1 : DataW H × List MemPlace) (n : Nat), v = .agg #[v0, v1] ∧ DataW.trod enc P W base spare held n f0.type [v0] = some y0 ∧ DataW.trod enc P W base spare held n f1.type [v1] = some y1 := by
  obtain ⟨cs, rfl, hsz⟩ := okWide_struct hs hv
  obtain ⟨c0, c1, rfl⟩ := array2 (hsz.trans hC)
  obtain ⟨fuel, hf⟩ := h
  obtain ⟨xs, n, _, hx, hl, hlen, hff⟩ := DataW.trod_struct hs hf
  obtain ⟨o0, k0⟩ := hone_of hone 0 f0 rfl
  obtain ⟨o1, k1⟩ := hone_of hone 1 f1 rfl
  match xs, hlen with
  | [y0, y1], _ =>
    exact ⟨c0, c1, y0, y1, n, rfl, by simpa [Value.cells, o0, k0] using hff 0 f0 rfl, by simpa [Value.cells, o1, k1] using hff 1 f1 rfl⟩
set_option maxRecDepth 100000 in
/-- A region that came in. -/
theorem region_open {H : Type} {enc : TypeId × Value → H} {W : World} {b0 : Nat} {r : Reach} {v : Value} {d : DataW H} {p : List MemPlace} (hv : Value.okWide Try.prog W r b0 30 v) (h : DataW.Trod enc Try.prog W 0 (fun _ => true) true 30 v d p) :
    ∃ la n c ba m e ls bs, v = .agg #[.slice la n c, .slice ba m e] ∧ RdIs W la n c ls ∧ RdIs W ba m e bs := by
  obtain ⟨v0, v1, y0, y1, k, rfl, t0, t1⟩ := agg2 Try.underlying30 (by kernel_rfl) (by kernel_rfl) hv h
  obtain ⟨la, n, c, ls, e0, r0, -, -, -⟩ := intsB_open Try.underlying23 Try.underlying3 (by kernel_rfl) t0
  obtain ⟨ba, m, e, bs, e1, r1, -, -, -⟩ := intsB_open Try.underlying23 Try.underlying3 (by kernel_rfl) t1
  simp only [List.cons.injEq, and_true] at e0 e1
  subst e0 e1
  exact ⟨la, n, c, ba, m, e, ls, bs, rfl, r0, r1⟩
theorem ints_open {H : Type} {enc : TypeId × Value → H} {W : World} {a : Option Addr} {len cap : Nat} {d : DataW H} {p : List MemPlace} (h : DataW.Trod enc Try.prog W 0 (fun _ => true) true 23 (.slice a len cap) d p) : ∃ is, RdIs W a len cap is ∧ ∀ i ∈ is, -9223372036854775808 ≤ i ∧ i ≤ 9223372036854775807 := by
  obtain ⟨m, hm⟩ := h
  obtain ⟨ao, l, c, is, e, rd, -, -, rb⟩ := intsB_open Try.underlying23 Try.underlying3 (by kernel_rfl) hm
  simp [Value.cells] at e
  obtain ⟨rfl, rfl, rfl⟩ := e
  exact ⟨is, rd, rb⟩
end Go.Proofs.Ytoehhnildocihaa
