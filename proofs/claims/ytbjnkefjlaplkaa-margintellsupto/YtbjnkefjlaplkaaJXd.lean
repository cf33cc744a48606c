import Derived.Test.YtbjnkefjlaplkaaGXa
import Derived.Test.YtbjnkefjlaplkaaGJf
import Derived.Test.YtbjnkefjlaplkaaJZu
namespace Go.Proofs.Ytbjnkefjlaplkaa
open Go.RowKit Go.Shelf
set_option linter.unusedVariables false
set_option linter.unusedSimpArgs false

theorem ex_loadRN {P : Program} {ρ : Operand → Value} (o : Oper) (ty : TypeId) (p : Operand) (ho : o.op = .load ty p) (B : Nat) (hp : ρ p = .pointer (some ⟨B, 0, none⟩)) (w : World) (c : Array Value) (h : w.heap[B]? = some (.cells c ty)) (d : TypeDesc) (hu : P.underlying ty = some d) (hd : d.isRow = true) (n : Nat) (hi : (P.info? ty).map (·.size) = some n) (hn : c.size = n) : (execOp ρ o).run P w = .ok (.value (.agg c)) w := by
  have hr : w.rangeAt B 0 c.toList := by
    have := World.rangeAt_of_block h 0 c.size
    simpa using this
  have hl := run_loadVar_mid (P := P) w B 0 ty c.toList d hr hu hd (by rw [hi]; simp [hn])
  have hl2 : (loadVar ty ⟨B, 0, none⟩).run P w = .ok (.agg c) w := by simpa using hl
  unfold execOp
  simp only [ho, hp, Instr.loadAt, Instr.sureAddr, Sem.run_bind, Sem.run_pure, Result.andThen_ok, hl2]
theorem num_cl {w : World} {B : Nat} {n : Bool} {o : Option Addr} {l c : Nat} {e : Int} {t : TypeId} (h : w.heap[B]? = some (.cells #[.bool n, .slice o l c, .int .i64 e] t)) : Cl noU w B := by
  refine ⟨_, _, h, fun i v hv => ?_⟩
  match i, hv with
  | 0, hv => cases hv; rfl
  | 1, hv => cases hv; rfl
  | 2, hv => cases hv; rfl
theorem Try.infoN3 : (Try.prog.info? 60).map (·.size) = some 3 := by kernel_rfl
theorem oneN (n : Bool) (o : Option Addr) (l c : Nat) (e : Int) : (#[.bool n, .slice o l c, .int .i64 e] : Array Value).all (·.oneCell') = true := by
  simp only [Array.all_eq_true_iff_forall_mem]
  intro v hv
  simp only [List.mem_toArray, List.mem_cons, List.not_mem_nil, or_false] at hv
  rcases hv with rfl | rfl | rfl <;> rfl
/-- A variable that holds a real. -/
structure BxN (w : World) (B s : Nat) (T z : Int) (n : Bool) (o : Option Addr) (l c : Nat) (e : Int) : Prop where
  row : w.heap[B]? = some (.cells #[.bool n, .slice o l c, .int .i64 e] 60)
  num : NumC w (.agg #[.bool n, .slice o l c, .int .i64 e]) s T z
theorem NumC.form {w : World} {v : Value} {s : Nat} {T z : Int} (h : NumC w v s T z) : ∃ n o l c e, v = .agg #[.bool n, .slice o l c, .int .i64 e] := by
  obtain ⟨neg, m, e, ⟨ao, len, cap, xs, h1, _⟩, _⟩ := h
  exact ⟨neg, ao, len, cap, e, h1⟩
theorem NumC.zeroJ (w : World) (s : Nat) (T : Int) (hT : 0 ≤ T) : NumC w (.agg #[.bool false, .slice none 0 0, .int .i64 0]) s T 0 :=
  ⟨false, 0, 0, ⟨none, 0, 0, [], rfl, rd4_none _, .inl rfl, rfl⟩, by omega, by rw [bl_zero]; omega, zv_zero _ _ _, fun _ => rfl⟩
theorem sumG_le {B : List Nat → Nat} {M : Nat} : ∀ (gs : List (List Nat)), (∀ g ∈ gs, B g ≤ M) → sumG B gs ≤ gs.length * M
  | [], _ => by simp [sumG]
  | g :: gs, h => by
    have h1 := sumG_le gs fun x hx => h x (List.mem_cons_of_mem _ hx)
    have h2 := h g List.mem_cons_self
    have h3 : sumG B (g :: gs) = B g + sumG B gs := rfl
    rw [h3, List.length_cons, Nat.succ_mul]
    omega
theorem sumG_take {B : List Nat → Nat} {gs : List (List Nat)} {k : Nat} (h : k < gs.length) : sumG B (gs.take (k + 1)) = sumG B (gs.take k) + B (gs[k]?.getD []) := by
  rw [take_snocG h, sumG_append, sumG_one]
/-- A number of a column. -/
theorem RlS.elem {w : World} {base E : Nat} {cs rs : List Nat} {ids : List Int} {gs : List (List Nat)} {vc vr vi : Value} {a3 : Option Addr} {l3 c3 : Nat} {gl : List Value} (h : RlS w base E cs rs ids gs vc vr vi (.slice a3 l3 c3) gl) {k i n : Nat} (hk : k < gs.length) (hn : (gs[k]?.getD []).length = n) (hi : i < n) :
    ∃ g b cap nb o l c e, a3 = some ⟨g, 0, none⟩ ∧ w.cell? ⟨g, k, none⟩ = some (.slice (some ⟨b, 0, none⟩) n cap) ∧ w.rangeAt b (i * 3) [.bool nb, .slice o l c, .int .i64 e] ∧ NumC w (.agg #[.bool nb, .slice o l c, .int .i64 e]) E 1024 (fval ((gs[k]?.getD [])[i]?.getD 0)) := by
  obtain ⟨ao, cap, h1, h2, h3⟩ := owns_slice h.g
  have hl := h.len
  rcases h3 with h0 | ⟨g, rfl, hc⟩
  · omega
  have hkl : k < gl.length := by omega
  have hcell := hc k hkl
  rw [List.getElem?_eq_getElem hkl] at hcell
  obtain ⟨b, cap', nb, o, l, c, e, hv, hr, hz⟩ := (h.col k _ (List.getElem?_eq_getElem hkl)).range (k := i) (by rw [hn]; exact hi)
  rw [hv, hn] at hcell
  injection h1 with q1
  exact ⟨g, b, cap', nb, o, l, c, e, q1, hcell, hr, hz⟩
theorem RlS.lenG {w : World} {base E : Nat} {cs rs : List Nat} {ids : List Int} {gs : List (List Nat)} {vc vr vi : Value} {a3 : Option Addr} {l3 c3 : Nat} {gl : List Value} (h : RlS w base E cs rs ids gs vc vr vi (.slice a3 l3 c3) gl) : l3 = gs.length := by
  obtain ⟨ao, cap, h1, h2, h3⟩ := owns_slice h.g
  injection h1 with q1 q2
  rw [q2, h.len]
theorem RowN.lenV {w : World} {base E : Nat} {a : Option Addr} {l c : Nat} {us : List Nat} (h : RowN w base (.slice a l c) E us) : l = us.length := by
  obtain ⟨ao, cap, h1⟩ := h.form
  injection h1
/-- How far the coordinate i goes from the centre. -/
def farV (rs : List Nat) (gs : List (List Nat)) (i : Nat) : Int := fval (rs[i]?.getD 0) + (sumG (fun g => rmag (frung (g[i]?.getD 0))) gs : Nat)
end Go.Proofs.Ytbjnkefjlaplkaa

