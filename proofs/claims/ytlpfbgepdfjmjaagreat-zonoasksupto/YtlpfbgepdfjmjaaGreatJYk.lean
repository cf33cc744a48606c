import Derived.Test.YtlpfbgepdfjmjaaGreatJYc
import Derived.Laws.BytesString
namespace Go.Proofs.YtlpfbgepdfjmjaaGreat
open Go.RowKit Go.Shelf
set_option linter.unusedVariables false
set_option linter.unusedSimpArgs false

/-- What is held in a drawn region may grow on the way. -/
theorem wpAnyH_to {P : Program} {md : Region.Mode} {ops : Array Oper} {Q : Exit → Act → World → Prop} {S : World → Prop} (S' : World → Prop) (hs : ∀ w, S' w → S w) : ∀ {fuel : Nat} {listed : Array Bool} {a : Act} {w : World}, wpAnyH P md ops Q S' fuel listed a w → wpAnyH P md ops Q S fuel listed a w
  | 0, _, _, _, h => h
  | fuel + 1, _, _, _, h => ⟨h.1, fun i hi => wpOp_mono (fun a' w' h' => ⟨hs _ h'.1, wpAnyH_to S' hs h'.2⟩) (h.2 i hi)⟩
/-- Bytes as a string. -/
def strJ (xs : List Int) : ByteArray := ⟨(xs.map fun n => UInt8.ofNat n.toNat).toArray⟩
theorem foldl_pushJ (xs : List Int) : ∀ s : ByteArray, xs.foldl (fun r n => r.push (UInt8.ofNat n.toNat)) s = ⟨s.data ++ (xs.map fun n => UInt8.ofNat n.toNat).toArray⟩ := by
  induction xs with
  | nil => intro s; simp
  | cons x xs ih =>
    intro s
    rw [List.foldl_cons, ih]
    simp [ByteArray.push]
def inJ (xs : List Nat) : List Int := xs.map fun (x : Nat) => (x : Int)
theorem bJ_in (xs : List Nat) : (inJ xs).map (Value.int .u8) = bJ xs := by unfold inJ bJ; rw [List.map_map]; rfl
theorem convJ {W : World} {base n : Nat} {v : Value} {xs : List Nat} (h : W.ownsRow base 5 1 v n (bJ xs)) : (convert 49 9 v).run Tryz.prog W = .ok (.string (strJ (inJ xs))) W := by
  have hl : xs.length = n := by have := h.1; rw [bJ_len] at this; omega
  obtain ⟨ao, cap, rfl, hm, h1⟩ := owns_slice h
  rw [run_convert_bytes_string W 49 9 5 ao n cap Tryz.underlying49 Tryz.underlying5 Tryz.underlying9]
  cases ao with
  | none =>
    have h0 : n = 0 := by rcases h1 with h0 | ⟨g, hg, _⟩; · exact h0
                          · cases hg
    subst h0
    have : xs = [] := List.eq_nil_of_length_eq_zero hl
    subst this
    rfl
  | some a =>
    rw [run_bytesToString W a n cap (inJ xs) ?_, foldl_pushJ]
    · have e : (ByteArray.empty).data = #[] := rfl
      rw [e, Array.empty_append]
      rfl
    · have := run_loadCells_list (P := Tryz.prog) W a (bJ xs) (fun j v hv => by
        have hj : j < xs.length := by rw [← bJ_len]; exact (List.getElem?_eq_some_iff.1 hv).1
        rcases h1 with h0 | ⟨g, hg, hc⟩
        · omega
        · cases hg
          rw [Addr.add_lit, Nat.zero_add, hc j (by omega), hv])
      rw [bJ_len, hl] at this
      rw [this, bJ_in]
theorem ex_convJ {P : Program} {ρ : Operand → Value} (o : Oper) (src dst : TypeId) (p : Operand) (ho : o.op = .convert src dst p) (v v' : Value) (hp : ρ p = v) (w : World) (h : (convert src dst v).run P w = .ok v' w) : (execOp ρ o).run P w = .ok (.value v') w := by
  unfold execOp
  simp only [ho, hp, Sem.run_bind, Sem.run_pure, Result.andThen_ok, h]
end Go.Proofs.YtlpfbgepdfjmjaaGreat
