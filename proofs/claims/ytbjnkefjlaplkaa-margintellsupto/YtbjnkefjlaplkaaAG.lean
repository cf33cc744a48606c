import Derived.Test.YtbjnkefjlaplkaaChecked
import Derived.Test.YtbjnkefjlaplkaaBase
import Derived.Laws.OwnMore
import Derived.ArgAppend
import Derived.OwnWalk
import Derived.Orders
import Derived.RegionTactic
import Derived.Deep.MidRow
import Derived.Deep.WholeRow
import Derived.Laws.CopyOwn
import Derived.WalkKit
import Derived.Below
namespace Go.Proofs.Ytbjnkefjlaplkaa
open Go.RowKit
set_option linter.unusedVariables false

theorem owns_keep {w w' : World} {E : TypeId} {base size : Nat} {v : Value} {n : Nat} {xs : List Value} (h : w.ownsRow base E size v n xs) (hb : ∀ k, v.ownBlock = some k → w'.heap[k]? = w.heap[k]?) : w'.ownsRow base E size v n xs := by
  refine ⟨h.1, ?_⟩
  rcases h.2 with h2 | ⟨g, cap, cur, hv, hg, hh, r⟩
  · exact .inl h2
  · exact .inr ⟨g, cap, cur, hv, hg, by rw [hb g (by rw [hv]; rfl)]; exact hh, r⟩
/-- A block's number tells its type. -/
theorem owns_type {w : World} {E : TypeId} {base size : Nat} {v : Value} {n : Nat} {xs : List Value} (h : w.ownsRow base E size v n xs) {k : Nat} (hk : v.ownBlock = some k) : ∃ cur, w.heap[k]? = some (.cells cur E) := by
  rcases h.2 with ⟨rfl, _⟩ | ⟨g, cap, cur, rfl, hg, hh, r⟩
  · simp [Value.ownBlock] at hk
  · simp only [Value.ownBlock, Option.some.injEq] at hk
    subst hk
    exact ⟨cur, hh⟩
/-- Of old memory nothing changed but, perhaps, the block r; v' lies there, or is new. -/
structure Grw (w w' : World) (r r' : Option Nat) : Prop where
  by' : w.grownBy w' r
  new : r' = r ∨ ∀ k, r' = some k → w.heap.size ≤ k
theorem info3' {P : Program} {t : TypeId} {z : Value} {s b : Nat} (h : (P.info? t).map (fun i => (i.zero, i.size, i.bytes)) = some (some z, s, b)) : ∃ i, P.info? t = some i ∧ i.zero = some z ∧ i.size = s ∧ i.bytes = b := by
  cases hi : P.info? t with
  | none => simp [hi] at h
  | some i =>
    simp [hi] at h
    exact ⟨i, rfl, h.1, h.2.1, h.2.2⟩
theorem Grw.refl (w : World) (r : Option Nat) : Grw w w r r := ⟨⟨rfl, rfl, rfl, Nat.le_refl _, fun _ _ _ => rfl⟩, .inl rfl⟩
theorem Grw.trans {w w1 w2 : World} {r r1 r2 : Option Nat} (h : Grw w w1 r r1) (k : Grw w1 w2 r1 r2) : Grw w w2 r r2 := by
  have hs := h.by'.size
  refine ⟨⟨k.by'.os.trans h.by'.os, k.by'.tape.trans h.by'.tape, k.by'.output.trans h.by'.output, Nat.le_trans hs k.by'.size, fun j hj hne => ?_⟩, ?_⟩
  · rw [k.by'.block j (by omega) ?_, h.by'.block j hj hne]
    intro c
    rcases h.new with h1 | h1
    · exact hne (by rw [c, h1])
    · have := h1 j c.symm
      omega
  · rcases k.new with k1 | k1
    · rw [k1]; exact h.new
    · exact .inr fun j hj => Nat.le_trans hs (k1 j hj)
theorem Grw.below {w w' : World} {r r' : Option Nat} {base : Nat} (h : Grw w w' r r') (hb : ∀ k, r = some k → base ≤ k) (hw : base ≤ w.heap.size) : Below base w w' :=
  ⟨h.by'.os, h.by'.tape, h.by'.output, h.by'.size, fun k hk => h.by'.block k (by omega) (fun c => by have := hb k c.symm; omega)⟩
/-- append(s, x...) onto a row in a block of its own: where the answer lies. -/
theorem append_gr {SE E : TypeId} {z : Value} {bytes : Nat} (hu : Try.prog.underlying SE = some (.slice E)) (hinfo : (Try.prog.info? E).map (fun i => (i.zero, i.size, i.bytes)) = some (some z, 1, bytes)) (hzc : z.cells.size = 1) (hby : bytes ≤ 24)
    {ops : Array Oper} {rest : List Oper} {o : Oper} {a : Act} {Q : Exit → Act → World → Prop} (W : World) (hgd : o.guard = none) (s x : Operand) (ho : o.op = .call { callee := .builtin .append, args := #[s, x], argTypes := #[SE, SE] })
    (base : Nat) (v : Value) (xs : List Value) (hs : a.eval s = v) (hown : W.ownsRow base E 1 v xs.length xs)
    (ad : Addr) (m c : Nat) (news : List Value) (hx : a.eval x = .slice (some ad) m c) (hl : news.length = m) (hm : 0 < m) (hnews : ∀ j u, news[j]? = some u → W.cell? (ad.add j) = some u) (h1 : ∀ u ∈ news, u.oneCell' = true)
    (hlen : xs.length + m ≤ 1000000) (hbase : base ≤ W.heap.size)
    (h : ∀ v' w', w'.ownsRow base E 1 v' (xs ++ news).length (xs ++ news) → Grw W w' v.ownBlock v'.ownBlock → wpList Try.prog ops Q rest (a.put o.dst v') w') : wpList Try.prog ops Q (o :: rest) a W := by
  obtain ⟨i0, hi, hz0, hz1, hz2⟩ := info3' hinfo
  have hb2 : (xs.length + m) * bytes ≤ 140737488355328 := Nat.le_trans (Nat.mul_le_mul hlen hby) (by decide)
  have grow : ∀ (w' : World) (v' : Value), w'.ownsRow W.heap.size E 1 v' (xs.length + m) (xs ++ news) → W.grownBy w' none → wpList Try.prog ops Q rest (a.put o.dst v') w' := by
    intro w' v' g1 g2
    refine h v' w' ?_ ⟨⟨g2.os, g2.tape, g2.output, g2.size, fun k hk _ => g2.block k hk (by simp)⟩, .inr fun k hk => (World.ownsRow.lt g1 k hk).1⟩
    rw [List.length_append, hl]
    refine ⟨g1.1, ?_⟩
    rcases g1.2 with g3 | ⟨g, cap, cur, hv, hg, r⟩
    · exact .inl g3
    · exact .inr ⟨g, cap, cur, hv, Nat.le_trans hbase hg, r⟩
  rcases hown.2 with ⟨rfl, h0⟩ | ⟨g, cap, cur, hv, hg, hh, k1, k2, k3, k4⟩
  · have hx0 : xs = [] := List.eq_nil_of_length_eq_zero h0
    subst hx0
    refine wpList_append_grows W hgd s x SE ho E i0 z 1 bytes hu hi hz0 hz1 hz2 hzc (by decide) none 0 0 [] hs (fun _ => ⟨rfl, rfl⟩) rfl (fun b hb => by cases hb) ad m c news hx (by omega) hnews h1 (by omega) (by simp only [maxLen]; simp at hlen; omega) (by simpa using hb2) ?_
    intro v' w' r1 r2
    exact grow w' v' (by simpa using r1) r2
  · by_cases hr : xs.length + m ≤ cap
    · subst hv
      refine wpList_append_fits W hgd s x SE ho base E i0 1 hu hi hz1 g xs.length cap xs hs hown ad m c news hx (by omega) hnews h1 hr ?_
      intro w' r1 r2
      exact h _ w' (by rw [List.length_append, hl]; exact r1) ⟨r2, .inl rfl⟩
    · refine wpList_append_grows W hgd s x SE ho E i0 z 1 bytes hu hi hz0 hz1 hz2 hzc (by decide) (some ⟨g, 0, none⟩) xs.length cap xs (by rw [hs, hv]) (fun c => by cases c) (by omega) ?_ ad m c news hx (by omega) hnews h1 (by omega) (by simp only [maxLen]; omega) hb2 ?_
      · intro b hb j u hj
        cases hb
        exact World.ownsRow.cells hown (by rw [hv]; rfl) j u hj
      · intro v' w' r1 r2
        exact grow w' v' r1 r2
end Go.Proofs.Ytbjnkefjlaplkaa

