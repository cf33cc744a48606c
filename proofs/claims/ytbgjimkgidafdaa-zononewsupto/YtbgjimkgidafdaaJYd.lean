import Derived.Test.YtbgjimkgidafdaaJYb
import Derived.Test.YtbgjimkgidafdaaJYc
import Derived.Test.YtbgjimkgidafdaaGJj
import Derived.Laws.BytesString
namespace Go.Proofs.Ytbgjimkgidafdaa
open Go.RowKit Go.Shelf
set_option linter.unusedVariables false
set_option linter.unusedSimpArgs false

/-- What is held in a drawn region may grow on the way. -/
theorem wpAnyH_to {P : Program} {md : Region.Mode} {ops : Array Oper} {Q : Exit → Act → World → Prop} {S : World → Prop} (S' : World → Prop) (hs : ∀ w, S' w → S w) : ∀ {fuel : Nat} {listed : Array Bool} {a : Act} {w : World}, wpAnyH P md ops Q S' fuel listed a w → wpAnyH P md ops Q S fuel listed a w
  | 0, _, _, _, h => h
  | fuel + 1, _, _, _, h => ⟨h.1, fun i hi => wpOp_mono (fun a' w' h' => ⟨hs _ h'.1, wpAnyH_to S' hs h'.2⟩) (h.2 i hi)⟩
theorem OfL.keepF {w w' : World} {base : Nat} {cs rs : List Nat} {ids : List Int} {gs : List (List Nat)} {vc vr vi vg : Value} {gl : List Value} (h : OfL w base cs rs ids gs vc vr vi vg gl) (hk : ∀ (k : Nat) (cur : Array Value) (t : TypeId), t ≠ 22 → w.heap[k]? = some (.cells cur t) → w'.heap[k]? = w.heap[k]?) : OfL w' base cs rs ids gs vc vr vi vg gl :=
  ⟨owns_keepT h.c fun k cur => hk k cur _ (by decide), owns_keepT h.r fun k cur => hk k cur _ (by decide), owns_keepT h.i fun k cur => hk k cur _ (by decide), owns_keepT h.g fun k cur => hk k cur _ (by decide), h.len, fun j u hj => owns_keepT (h.col j u hj) fun k cur => hk k cur _ (by decide)⟩
theorem OfL.nil (w : World) (base : Nat) : OfL w base [] [] [] [] (.slice none 0 0) (.slice none 0 0) (.slice none 0 0) (.slice none 0 0) [] := ⟨World.ownsRow_nil _ _ _ _, World.ownsRow_nil _ _ _ _, World.ownsRow_nil _ _ _ _, World.ownsRow_nil _ _ _ _, rfl, fun j u hj => by simp at hj⟩
/-- Lists with marks behind them, read. -/
theorem ColW.rd {w : World} {base n : Nat} {gs : List (List Nat)} {vs : List Value} {v : Value} (hc : ColW w base gs vs) (ho : w.ownsRow base 22 1 v n vs) (hn : gs.length = n) :
    ∃ (go : Option Addr) (gc : Nat) (gv : Nat → Option Addr × Nat × Nat), v = .slice go n gc ∧ RdGs w go n gc gv gs ∧ ∀ j, j < n → ∃ b c, gv j = (some ⟨b, 0, none⟩, (gs[j]?.getD []).length, c) ∧ WdB w base b c (gs[j]?.getD []) := by
  have hvl : vs.length = n := by have := ho.1; omega
  obtain ⟨go, gc, rfl, hm, h1⟩ := owns_slice ho
  have hx : ∀ j : Nat, ∃ p : Nat × Nat, j < n → vs[j]? = some (.slice (some ⟨p.1, 0, none⟩) (gs[j]?.getD []).length p.2) ∧ WdB w base p.1 p.2 (gs[j]?.getD []) := fun j => by
    by_cases hj : j < n
    · have hjv : j < vs.length := by rw [hvl]; exact hj
      obtain ⟨b, c, e1, e2⟩ := hc.col j _ (List.getElem?_eq_getElem hjv)
      exact ⟨(b, c), fun _ => ⟨by rw [List.getElem?_eq_getElem hjv, e1], e2⟩⟩
    · exact ⟨(0, 0), fun h => absurd h hj⟩
  refine ⟨go, gc, fun j => (some ⟨(Classical.choose (hx j)).1, 0, none⟩, (gs[j]?.getD []).length, (Classical.choose (hx j)).2), rfl, ⟨hn, hm, ?_, fun j hj => (Classical.choose_spec (hx j) hj).2.rd⟩, fun j hj => ⟨_, _, rfl, (Classical.choose_spec (hx j) hj).2⟩⟩
  rcases h1 with h0 | ⟨g, rfl, h2⟩
  · exact .inl h0
  · exact .inr ⟨g, 0, rfl, fun j hj => by rw [Nat.zero_add, h2 j hj]; exact (Classical.choose_spec (hx j) hj).1⟩
theorem OfL.gu {w : World} {base : Nat} {gs : List (List Nat)} {vg : Value} {gl : List Value} (h : OfL w base [] [] [] gs (.slice none 0 0) (.slice none 0 0) (.slice none 0 0) vg gl) : ∃ (go : Option Addr) (gc : Nat) (gv : Nat → Option Addr × Nat × Nat), vg = .slice go gs.length gc ∧ RdGu w go gs.length gc gv gs := by
  obtain ⟨u, hu, z, -, -, -, -, -, h6, -, h8, -, -⟩ := h.zu 0 false
  unfold zRow at hu
  injection hu with hu
  have h7 := congrArg (fun (a : Array Value) => a[3]?) hu
  have h7 : vg = .slice u.go u.gn u.gc := by injection h7
  have z3 := z.g
  rw [h6, h8] at z3
  rw [h8] at h7
  exact ⟨u.go, u.gc, u.gv, h7, z3⟩
/-- Bytes as a string. -/
def strJ (xs : List Int) : ByteArray := ⟨(xs.map fun n => UInt8.ofNat n.toNat).toArray⟩
theorem foldl_pushJ (xs : List Int) : ∀ s : ByteArray, xs.foldl (fun r n => r.push (UInt8.ofNat n.toNat)) s = ⟨s.data ++ (xs.map fun n => UInt8.ofNat n.toNat).toArray⟩ := by
  induction xs with
  | nil => intro s; simp
  | cons x xs ih =>
    intro s
    rw [List.foldl_cons, ih]
    simp [ByteArray.push]
def inJ (xs : List Nat) : List Int := xs.map fun (x : Nat) => (x : Int)
theorem bJ_in (xs : List Nat) : (inJ xs).map (Value.int .u8) = bJ xs := by unfold inJ bJ; rw [List.map_map]; rfl
theorem convJ {W : World} {base n : Nat} {v : Value} {xs : List Nat} (h : W.ownsRow base 5 1 v n (bJ xs)) : (convert 45 9 v).run Try.prog W = .ok (.string (strJ (inJ xs))) W := by
  have hl : xs.length = n := by have := h.1; rw [bJ_len] at this; omega
  obtain ⟨ao, cap, rfl, hm, h1⟩ := owns_slice h
  rw [run_convert_bytes_string W 45 9 5 ao n cap Try.underlying45 Try.underlying5 Try.underlying9]
  cases ao with
  | none =>
    have h0 : n = 0 := by rcases h1 with h0 | ⟨g, hg, _⟩; · exact h0
                          · cases hg
    subst h0
    have : xs = [] := List.eq_nil_of_length_eq_zero hl
    subst this
    rfl
  | some a =>
    rw [run_bytesToString W a n cap (inJ xs) ?_, foldl_pushJ]
    · have e : (ByteArray.empty).data = #[] := rfl
      rw [e, Array.empty_append]
      rfl
    · have := run_loadCells_list (P := Try.prog) W a (bJ xs) (fun j v hv => by
        have hj : j < xs.length := by rw [← bJ_len]; exact (List.getElem?_eq_some_iff.1 hv).1
        rcases h1 with h0 | ⟨g, hg, hc⟩
        · omega
        · cases hg
          rw [Addr.add_lit, Nat.zero_add, hc j (by omega), hv])
      rw [bJ_len, hl] at this
      rw [this, bJ_in]
theorem ex_convJ {P : Program} {ρ : Operand → Value} (o : Oper) (src dst : TypeId) (p : Operand) (ho : o.op = .convert src dst p) (v v' : Value) (hp : ρ p = v) (w : World) (h : (convert src dst v).run P w = .ok v' w) : (execOp ρ o).run P w = .ok (.value v') w := by
  unfold execOp
  simp only [ho, hp, Sem.run_bind, Sem.run_pure, Result.andThen_ok, h]
end Go.Proofs.Ytbgjimkgidafdaa
