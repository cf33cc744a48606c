import Derived.Test.YtcpbccckjlnkaaaJZf
import Derived.Test.YtcpbccckjlnkaaaGJd
import Derived.Test.YtcpbccckjlnkaaaJS
import Derived.Laws.AppendOwnNone
namespace Go.Proofs.Ytcpbccckjlnkaaa
open Go.RowKit Go.Shelf
set_option linter.unusedVariables false
set_option linter.unusedSimpArgs false

section
variable (co : Option Addr) (cc : Nat) (io : Option Addr) (dc : Nat) (go : Option Addr) (gc : Nat) (ro : Option Addr) (rc : Nat) (gv : Nat → Option Addr × Nat × Nat)
end
end Go.Proofs.Ytcpbccckjlnkaaa


namespace Go.Proofs.Ytcpbccckjlnkaaa
open Go.RowKit Go.Shelf
set_option linter.unusedVariables false
set_option linter.unusedSimpArgs false

section
variable (co : Option Addr) (cc : Nat) (io : Option Addr) (dc : Nat) (go : Option Addr) (gc : Nat) (ro : Option Addr) (rc : Nat) (gv : Nat → Option Addr × Nat × Nat)
end
end Go.Proofs.Ytcpbccckjlnkaaa


namespace Go.Proofs.Ytcpbccckjlnkaaa
open Go.RowKit Go.Shelf
set_option linter.unusedVariables false
set_option linter.unusedSimpArgs false

end Go.Proofs.Ytcpbccckjlnkaaa


namespace Go.Proofs.Ytcpbccckjlnkaaa
open Go.RowKit Go.Shelf
set_option linter.unusedVariables false
set_option linter.unusedSimpArgs false

/-- append(s, x...) onto a row in a block of its own, elements of any size: where the answer lies. -/
theorem append_gsJ {SE E : TypeId} {z : Value} {size bytes : Nat} (hu : Try.prog.underlying SE = some (.slice E)) (hinfo : (Try.prog.info? E).map (fun i => (i.zero, i.size, i.bytes)) = some (some z, size, bytes)) (hzc : z.cells.size = size) (hsz : 0 < size) (hby : bytes ≤ 64)
    {ops : Array Oper} {rest : List Oper} {o : Oper} {a : Act} {Q : Exit → Act → World → Prop} (W : World) (hgd : o.guard = none) (s x : Operand) (ho : o.op = .call { callee := .builtin .append, args := #[s, x], argTypes := #[SE, SE] })
    (base : Nat) (v : Value) (n : Nat) (xs : List Value) (hs : a.eval s = v) (hown : W.ownsRow base E size v n xs)
    (ad : Addr) (m c : Nat) (news : List Value) (hx : a.eval x = .slice (some ad) m c) (hl : news.length = m * size) (hnews : ∀ j u, news[j]? = some u → W.cell? (ad.add j) = some u) (h1 : ∀ u ∈ news, u.oneCell' = true)
    (hlen : n + m ≤ 4000000) (hbase : base ≤ W.heap.size)
    (h : ∀ v' w', w'.ownsRow base E size v' (n + m) (xs ++ news) → Grw W w' v.ownBlock v'.ownBlock → wpList Try.prog ops Q rest (a.put o.dst v') w') : wpList Try.prog ops Q (o :: rest) a W := by
  obtain ⟨i0, hi, hz0, hz1, hz2⟩ := info3' hinfo
  have hb2 : (n + m) * bytes ≤ 140737488355328 := Nat.le_trans (Nat.mul_le_mul hlen hby) (by decide)
  have grow : ∀ (w' : World) (v' : Value), w'.ownsRow W.heap.size E size v' (n + m) (xs ++ news) → W.grownBy w' none → wpList Try.prog ops Q rest (a.put o.dst v') w' := by
    intro w' v' g1 g2
    exact h v' w' (owns_monoJ g1 hbase) ⟨⟨g2.os, g2.tape, g2.output, g2.size, fun k hk _ => g2.block k hk (by simp)⟩, .inr fun k hk => (World.ownsRow.lt g1 k hk).1⟩
  rcases hown.2 with ⟨rfl, h0⟩ | ⟨g, cap, cur, hv, hg, hh, k1, k2, k3, k4⟩
  · subst h0
    have hx0 : xs = [] := List.eq_nil_of_length_eq_zero (by simpa using hown.1)
    subst hx0
    by_cases hm : m = 0
    · subst hm
      have hn0 : news = [] := List.eq_nil_of_length_eq_zero (by simpa using hl)
      subst hn0
      refine wpList_append_own W hgd s x SE ho base E i0 z size bytes hu hi hz0 hz1 hz2 hzc hsz (.slice none 0 0) 0 [] hs hown ad 0 c [] hx (by simp) hnews h1 (by simp [maxLen]) (by simp) hbase ?_
      intro v' w' r1 r2 r3
      obtain rfl := r3.2 ⟨rfl, rfl⟩
      exact h _ w' r1 ⟨r2, .inl rfl⟩
    · refine wpList_append_grows W hgd s x SE ho E i0 z size bytes hu hi hz0 hz1 hz2 hzc hsz none 0 0 [] hs (fun _ => ⟨rfl, rfl⟩) (by simp) (fun b hb => by cases hb) ad m c news hx hl hnews h1 (by omega) (by simp only [maxLen]; omega) hb2 ?_
      intro v' w' r1 r2
      exact grow w' v' r1 r2
  · by_cases hr : n + m ≤ cap
    · subst hv
      refine wpList_append_fits W hgd s x SE ho base E i0 size hu hi hz1 g n cap xs hs hown ad m c news hx hl hnews h1 hr ?_
      intro w' r1 r2
      exact h _ w' r1 ⟨r2, .inl rfl⟩
    · refine wpList_append_grows W hgd s x SE ho E i0 z size bytes hu hi hz0 hz1 hz2 hzc hsz (some ⟨g, 0, none⟩) n cap xs (by rw [hs, hv]) (fun c => by cases c) hown.1 ?_ ad m c news hx hl hnews h1 (by omega) (by simp only [maxLen]; omega) hb2 ?_
      · intro b hb j u hj
        cases hb
        exact World.ownsRow.cells hown (by rw [hv]; rfl) j u hj
      · intro v' w' r1 r2
        exact grow w' v' r1 r2
end Go.Proofs.Ytcpbccckjlnkaaa


namespace Go.Proofs.Ytcpbccckjlnkaaa
open Go.RowKit Go.Shelf
set_option linter.unusedVariables false
set_option linter.unusedSimpArgs false

end Go.Proofs.Ytcpbccckjlnkaaa

