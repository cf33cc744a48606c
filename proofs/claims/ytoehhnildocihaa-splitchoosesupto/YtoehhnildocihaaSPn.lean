import Derived.Test.YtoehhnildocihaaSPl
import Derived.BigQuiet
import Derived.Test.YtoehhnildocihaaChecked
import Derived.Laws.OwnMore
import Derived.ArgAppend
import Derived.OwnWalk
import Derived.Orders
import Derived.RegionTactic
import Derived.Deep.MidRow
import Derived.Deep.WholeRow
import Derived.Laws.CopyOwn
import Derived.WalkKit
import Derived.Below
import Derived.Laws.AppendOwnNone
import Derived.Test.YtoehhnildocihaaRows
import Derived.Deep.Slices
import Derived.OpenShut
import Derived.Lib.SmallJoins
import Derived.ChangeSame
namespace Go.Proofs.Ytoehhnildocihaa
open Go.RowKit
set_option linter.unusedVariables false
end Go.Proofs.Ytoehhnildocihaa

namespace Go.Proofs.Ytoehhnildocihaa
open Go.RowKit
set_option linter.unusedVariables false
def v4 (x : Nat) : Value := .int .u32 (x : Int)
end Go.Proofs.Ytoehhnildocihaa

namespace Go.Proofs.Ytoehhnildocihaa
open Go.RowKit
set_option linter.unusedVariables false
theorem owns_keep {w w' : World} {E : TypeId} {base size : Nat} {v : Value} {n : Nat} {xs : List Value} (h : w.ownsRow base E size v n xs) (hb : ∀ k, v.ownBlock = some k → w'.heap[k]? = w.heap[k]?) : w'.ownsRow base E size v n xs := by
  refine ⟨h.1, ?_⟩
  rcases h.2 with h2 | ⟨g, cap, cur, hv, hg, hh, r⟩
  · exact .inl h2
  · exact .inr ⟨g, cap, cur, hv, hg, by rw [hb g (by rw [hv]; rfl)]; exact hh, r⟩
/-- Of old memory nothing changed but, perhaps, the block r; v' lies there, or is new. -/
structure Grw (w w' : World) (r r' : Option Nat) : Prop where
  by' : w.grownBy w' r
  new : r' = r ∨ ∀ k, r' = some k → w.heap.size ≤ k
theorem info3' {P : Program} {t : TypeId} {z : Value} {s b : Nat} (h : (P.info? t).map (fun i => (i.zero, i.size, i.bytes)) = some (some z, s, b)) : ∃ i, P.info? t = some i ∧ i.zero = some z ∧ i.size = s ∧ i.bytes = b := by
  cases hi : P.info? t with
  | none => simp [hi] at h
  | some i =>
    simp [hi] at h
    exact ⟨i, rfl, h.1, h.2.1, h.2.2⟩
theorem Grw.trans {w w1 w2 : World} {r r1 r2 : Option Nat} (h : Grw w w1 r r1) (k : Grw w1 w2 r1 r2) : Grw w w2 r r2 := by
  have hs := h.by'.size
  refine ⟨⟨k.by'.os.trans h.by'.os, k.by'.tape.trans h.by'.tape, k.by'.output.trans h.by'.output, Nat.le_trans hs k.by'.size, fun j hj hne => ?_⟩, ?_⟩
  · rw [k.by'.block j (by omega) ?_, h.by'.block j hj hne]
    intro c
    rcases h.new with h1 | h1
    · exact hne (by rw [c, h1])
    · have := h1 j c.symm
      omega
  · rcases k.new with k1 | k1
    · rw [k1]; exact h.new
    · exact .inr fun j hj => Nat.le_trans hs (k1 j hj)
theorem Grw.below {w w' : World} {r r' : Option Nat} {base : Nat} (h : Grw w w' r r') (hb : ∀ k, r = some k → base ≤ k) (hw : base ≤ w.heap.size) : Below base w w' :=
  ⟨h.by'.os, h.by'.tape, h.by'.output, h.by'.size, fun k hk => h.by'.block k (by omega) (fun c => by have := hb k c.symm; omega)⟩
end Go.Proofs.Ytoehhnildocihaa

namespace Go.Proofs.Ytoehhnildocihaa
open Go.RowKit
set_option linter.unusedVariables false
set_option linter.unusedSimpArgs false
/-- append(s, x...) onto a row in a block of its own: where the answer lies. -/
theorem append_grM {SE E : TypeId} {z : Value} {bytes : Nat} (hu : Try.prog.underlying SE = some (.slice E)) (hinfo : (Try.prog.info? E).map (fun i => (i.zero, i.size, i.bytes)) = some (some z, 1, bytes)) (hzc : z.cells.size = 1) (hby : bytes ≤ 24)
    {ops : Array Oper} {rest : List Oper} {o : Oper} {a : Act} {Q : Exit → Act → World → Prop} (W : World) (hgd : o.guard = none) (s x : Operand) (ho : o.op = .call { callee := .builtin .append, args := #[s, x], argTypes := #[SE, SE] })
    (base : Nat) (v : Value) (xs : List Value) (hs : a.eval s = v) (hown : W.ownsRow base E 1 v xs.length xs)
    (ad : Addr) (m c : Nat) (news : List Value) (hx : a.eval x = .slice (some ad) m c) (hl : news.length = m) (hm : 0 < m) (hnews : ∀ j u, news[j]? = some u → W.cell? (ad.add j) = some u) (h1 : ∀ u ∈ news, u.oneCell' = true)
    (hlen : xs.length + m ≤ 4000000) (hbase : base ≤ W.heap.size)
    (h : ∀ v' w', w'.ownsRow base E 1 v' (xs ++ news).length (xs ++ news) → Grw W w' v.ownBlock v'.ownBlock → wpList Try.prog ops Q rest (a.put o.dst v') w') : wpList Try.prog ops Q (o :: rest) a W := by
  obtain ⟨i0, hi, hz0, hz1, hz2⟩ := info3' hinfo
  have hb2 : (xs.length + m) * bytes ≤ 140737488355328 := Nat.le_trans (Nat.mul_le_mul hlen hby) (by decide)
  have grow : ∀ (w' : World) (v' : Value), w'.ownsRow W.heap.size E 1 v' (xs.length + m) (xs ++ news) → W.grownBy w' none → wpList Try.prog ops Q rest (a.put o.dst v') w' := by
    intro w' v' g1 g2
    refine h v' w' ?_ ⟨⟨g2.os, g2.tape, g2.output, g2.size, fun k hk _ => g2.block k hk (by simp)⟩, .inr fun k hk => (World.ownsRow.lt g1 k hk).1⟩
    rw [List.length_append, hl]
    refine ⟨g1.1, ?_⟩
    rcases g1.2 with g3 | ⟨g, cap, cur, hv, hg, r⟩
    · exact .inl g3
    · exact .inr ⟨g, cap, cur, hv, Nat.le_trans hbase hg, r⟩
  rcases hown.2 with ⟨rfl, h0⟩ | ⟨g, cap, cur, hv, hg, hh, k1, k2, k3, k4⟩
  · have hx0 : xs = [] := List.eq_nil_of_length_eq_zero h0
    subst hx0
    refine wpList_append_grows W hgd s x SE ho E i0 z 1 bytes hu hi hz0 hz1 hz2 hzc (by decide) none 0 0 [] hs (fun _ => ⟨rfl, rfl⟩) rfl (fun b hb => by cases hb) ad m c news hx (by omega) hnews h1 (by omega) (by simp only [maxLen]; simp at hlen; omega) (by simpa using hb2) ?_
    intro v' w' r1 r2
    exact grow w' v' (by simpa using r1) r2
  · by_cases hr : xs.length + m ≤ cap
    · subst hv
      refine wpList_append_fits W hgd s x SE ho base E i0 1 hu hi hz1 g xs.length cap xs hs hown ad m c news hx (by omega) hnews h1 hr ?_
      intro w' r1 r2
      exact h _ w' (by rw [List.length_append, hl]; exact r1) ⟨r2, .inl rfl⟩
    · refine wpList_append_grows W hgd s x SE ho E i0 z 1 bytes hu hi hz0 hz1 hz2 hzc (by decide) (some ⟨g, 0, none⟩) xs.length cap xs (by rw [hs, hv]) (fun c => by cases c) (by omega) ?_ ad m c news hx (by omega) hnews h1 (by omega) (by simp only [maxLen]; omega) hb2 ?_
      · intro b hb j u hj
        cases hb
        exact World.ownsRow.cells hown (by rw [hv]; rfl) j u hj
      · intro v' w' r1 r2
        exact grow w' v' r1 r2
theorem append_gr1M {SE E : TypeId} {z : Value} {bytes : Nat} (hu : Try.prog.underlying SE = some (.slice E)) (hinfo : (Try.prog.info? E).map (fun i => (i.zero, i.size, i.bytes)) = some (some z, 1, bytes)) (hzc : z.cells.size = 1) (hby : bytes ≤ 24)
    {ops : Array Oper} {rest : List Oper} {o : Oper} {a : Act} {Q : Exit → Act → World → Prop} (W : World) (hgd : o.guard = none) (s x : Operand) (ho : o.op = .call { callee := .builtin .append, args := #[s, x], argTypes := #[SE, SE] })
    (base : Nat) (v : Value) (xs : List Value) (hs : a.eval s = v) (hown : W.ownsRow base E 1 v xs.length xs)
    (y : Value) (hx : a.eval x = .slice (some ⟨W.heap.size, 0, none⟩) 1 1) (h1 : y.oneCell' = true)
    (hlen : xs.length + 1 ≤ 4000000) (hbase : base ≤ W.heap.size)
    (h : ∀ v' w', w'.ownsRow base E 1 v' (xs ++ [y]).length (xs ++ [y]) → Grw W w' v.ownBlock v'.ownBlock → wpList Try.prog ops Q rest (a.put o.dst v') w') : wpList Try.prog ops Q (o :: rest) a (W.alloc (.cells #[y] E)) := by
  have hsz : (W.alloc (.cells #[y] E)).heap.size = W.heap.size + 1 := Array.size_push ..
  refine append_grM hu hinfo hzc hby (W.alloc (.cells #[y] E)) hgd s x ho base v xs hs (World.ownsRow.alloc hown _) ⟨W.heap.size, 0, none⟩ 1 1 [y] hx rfl (by decide) ?_ (by intro u hu; simp at hu; subst hu; exact h1) hlen (by omega) ?_
  · intro j u hj
    match j, hj with
    | 0, hj =>
      simp only [List.getElem?_cons_zero, Option.some.injEq] at hj
      subst hj
      rw [Addr.add_lit, cell_of_row _ W.heap.size _ _ _ _ (heap_alloc_new W _)]
      rfl
  · intro v' w' o2 g2
    refine h v' w' o2 ⟨⟨g2.by'.os, g2.by'.tape, g2.by'.output, by have := g2.by'.size; omega, fun j hj hne => ?_⟩, ?_⟩
    · rw [g2.by'.block j (by omega) hne, Below.heap_alloc W _ j hj]
    · rcases g2.new with e | e
      · exact .inl e
      · exact .inr fun k hk => by have := e k hk; omega
theorem Try.infoIJ : (Try.prog.info? 3).map (fun i => (i.zero, i.size, i.bytes)) = some (some (.int .i64 0), 1, 8) := by kernel_rfl
end Go.Proofs.Ytoehhnildocihaa

namespace Go.Proofs.Ytoehhnildocihaa
open Go.RowKit
set_option linter.unusedVariables false
set_option linter.unusedSimpArgs false
theorem owns_monoJ {w : World} {E : TypeId} {base b size n : Nat} {v : Value} {xs : List Value} (h : w.ownsRow base E size v n xs) (hb : b ≤ base) : w.ownsRow b E size v n xs := by
  refine ⟨h.1, ?_⟩
  rcases h.2 with h2 | ⟨g, cap, cur, hv, hg, r⟩
  · exact .inl h2
  · exact .inr ⟨g, cap, cur, hv, Nat.le_trans hb hg, r⟩
end Go.Proofs.Ytoehhnildocihaa

namespace Go.Proofs.Ytoehhnildocihaa
open Go.RowKit
set_option linter.unusedVariables false
set_option linter.unusedSimpArgs false
/-- append(s, x...) onto a row in a block of its own, elements of any size: where the answer lies. -/
theorem append_gsJ {SE E : TypeId} {z : Value} {size bytes : Nat} (hu : Try.prog.underlying SE = some (.slice E)) (hinfo : (Try.prog.info? E).map (fun i => (i.zero, i.size, i.bytes)) = some (some z, size, bytes)) (hzc : z.cells.size = size) (hsz : 0 < size) (hby : bytes ≤ 64)
    {ops : Array Oper} {rest : List Oper} {o : Oper} {a : Act} {Q : Exit → Act → World → Prop} (W : World) (hgd : o.guard = none) (s x : Operand) (ho : o.op = .call { callee := .builtin .append, args := #[s, x], argTypes := #[SE, SE] })
    (base : Nat) (v : Value) (n : Nat) (xs : List Value) (hs : a.eval s = v) (hown : W.ownsRow base E size v n xs)
    (ad : Addr) (m c : Nat) (news : List Value) (hx : a.eval x = .slice (some ad) m c) (hl : news.length = m * size) (hnews : ∀ j u, news[j]? = some u → W.cell? (ad.add j) = some u) (h1 : ∀ u ∈ news, u.oneCell' = true)
    (hlen : n + m ≤ 4000000) (hbase : base ≤ W.heap.size)
    (h : ∀ v' w', w'.ownsRow base E size v' (n + m) (xs ++ news) → Grw W w' v.ownBlock v'.ownBlock → wpList Try.prog ops Q rest (a.put o.dst v') w') : wpList Try.prog ops Q (o :: rest) a W := by
  obtain ⟨i0, hi, hz0, hz1, hz2⟩ := info3' hinfo
  have hb2 : (n + m) * bytes ≤ 140737488355328 := Nat.le_trans (Nat.mul_le_mul hlen hby) (by decide)
  have grow : ∀ (w' : World) (v' : Value), w'.ownsRow W.heap.size E size v' (n + m) (xs ++ news) → W.grownBy w' none → wpList Try.prog ops Q rest (a.put o.dst v') w' := by
    intro w' v' g1 g2
    exact h v' w' (owns_monoJ g1 hbase) ⟨⟨g2.os, g2.tape, g2.output, g2.size, fun k hk _ => g2.block k hk (by simp)⟩, .inr fun k hk => (World.ownsRow.lt g1 k hk).1⟩
  rcases hown.2 with ⟨rfl, h0⟩ | ⟨g, cap, cur, hv, hg, hh, k1, k2, k3, k4⟩
  · subst h0
    have hx0 : xs = [] := List.eq_nil_of_length_eq_zero (by simpa using hown.1)
    subst hx0
    by_cases hm : m = 0
    · subst hm
      have hn0 : news = [] := List.eq_nil_of_length_eq_zero (by simpa using hl)
      subst hn0
      refine wpList_append_own W hgd s x SE ho base E i0 z size bytes hu hi hz0 hz1 hz2 hzc hsz (.slice none 0 0) 0 [] hs hown ad 0 c [] hx (by simp) hnews h1 (by simp [maxLen]) (by simp) hbase ?_
      intro v' w' r1 r2 r3
      obtain rfl := r3.2 ⟨rfl, rfl⟩
      exact h _ w' r1 ⟨r2, .inl rfl⟩
    · refine wpList_append_grows W hgd s x SE ho E i0 z size bytes hu hi hz0 hz1 hz2 hzc hsz none 0 0 [] hs (fun _ => ⟨rfl, rfl⟩) (by simp) (fun b hb => by cases hb) ad m c news hx hl hnews h1 (by omega) (by simp only [maxLen]; omega) hb2 ?_
      intro v' w' r1 r2
      exact grow w' v' r1 r2
  · by_cases hr : n + m ≤ cap
    · subst hv
      refine wpList_append_fits W hgd s x SE ho base E i0 size hu hi hz1 g n cap xs hs hown ad m c news hx hl hnews h1 hr ?_
      intro w' r1 r2
      exact h _ w' r1 ⟨r2, .inl rfl⟩
    · refine wpList_append_grows W hgd s x SE ho E i0 z size bytes hu hi hz0 hz1 hz2 hzc hsz (some ⟨g, 0, none⟩) n cap xs (by rw [hs, hv]) (fun c => by cases c) hown.1 ?_ ad m c news hx hl hnews h1 (by omega) (by simp only [maxLen]; omega) hb2 ?_
      · intro b hb j u hj
        cases hb
        exact World.ownsRow.cells hown (by rw [hv]; rfl) j u hj
      · intro v' w' r1 r2
        exact grow w' v' r1 r2
end Go.Proofs.Ytoehhnildocihaa

namespace Go.Proofs.Ytoehhnildocihaa
open Go.RowKit
set_option linter.unusedVariables false
set_option linter.unusedSimpArgs false
/-- No cell of the block is such a one. -/
def Cl (p : Value → Bool) (w : World) (g : Nat) : Prop := ∃ cur t, w.heap[g]? = some (.cells cur t) ∧ ∀ (i : Nat) (v : Value), cur[i]? = some v → p v = true
theorem zeroCells_cl {p : Value → Bool} {z : Array Value} {n : Nat} (hz : ∀ v ∈ z, p v = true) (h0 : 0 < z.size) : ∀ (i : Nat) (v : Value), (Builtin.zeroCells z n)[i]? = some v → p v = true := by
  intro i v hv
  unfold Builtin.zeroCells at hv
  rw [Array.getElem?_map] at hv
  obtain ⟨j, hj, rfl⟩ := Option.map_eq_some_iff.1 hv
  have hlt : j % z.size < z.size := Nat.mod_lt _ h0
  rw [getElem!_pos z _ hlt]
  exact hz _ (Array.getElem_mem hlt)
theorem list_cl {p : Value → Bool} {xs : List Value} (h : ∀ u ∈ xs, p u = true) : ∀ (i : Nat) (v : Value), xs.toArray[i]? = some v → p v = true := by
  intro i v hv
  rw [List.getElem?_toArray] at hv
  exact h v (List.mem_of_getElem? hv)
/-- append onto a row in a block of its own none of whose cells is such a one. -/
theorem append_clJ (p : Value → Bool) {SE E : TypeId} {z : Value} {size bytes : Nat} (hu : Try.prog.underlying SE = some (.slice E)) (hinfo : (Try.prog.info? E).map (fun i => (i.zero, i.size, i.bytes)) = some (some z, size, bytes)) (hzc : z.cells.size = size) (hsz : 0 < size) (hby : bytes ≤ 64) (hzp : ∀ v ∈ z.cells, p v = true)
    {ops : Array Oper} {rest : List Oper} {o : Oper} {a : Act} {Q : Exit → Act → World → Prop} (W : World) (hgd : o.guard = none) (s x : Operand) (ho : o.op = .call { callee := .builtin .append, args := #[s, x], argTypes := #[SE, SE] })
    (base : Nat) (v : Value) (n : Nat) (xs : List Value) (hs : a.eval s = v) (hown : W.ownsRow base E size v n xs) (hcl : ∀ g, v.ownBlock = some g → Cl p W g)
    (ad : Addr) (m c : Nat) (news : List Value) (hx : a.eval x = .slice (some ad) m c) (hm : 0 < m) (hl : news.length = m * size) (hnews : ∀ j u, news[j]? = some u → W.cell? (ad.add j) = some u) (h1 : ∀ u ∈ news, u.oneCell' = true) (hnp : ∀ u ∈ news, p u = true)
    (hlen : n + m ≤ 4000000) (hbase : base ≤ W.heap.size)
    (h : ∀ v' w', w'.ownsRow base E size v' (n + m) (xs ++ news) → Grw W w' v.ownBlock v'.ownBlock → (∀ g, v'.ownBlock = some g → Cl p w' g) → wpList Try.prog ops Q rest (a.put o.dst v') w') : wpList Try.prog ops Q (o :: rest) a W := by
  obtain ⟨i0, hi, hz0, hz1, hz2⟩ := info3' hinfo
  have hb2 : (n + m) * bytes ≤ 140737488355328 := Nat.le_trans (Nat.mul_le_mul hlen hby) (by decide)
  have hmx : n + m ≤ maxLen := by simp only [maxLen]; omega
  obtain ⟨v', w', hrun, r1, r2, _⟩ := run_append_own (P := Try.prog) W base SE o.type E i0 z size bytes hu hi hz0 hz1 hz2 hzc hsz v n xs hown ad m c news hl hnews h1 hmx hb2 hbase
  have key : (∀ g, v'.ownBlock = some g → Cl p w' g) ∧ (v'.ownBlock = v.ownBlock ∨ ∀ k, v'.ownBlock = some k → W.heap.size ≤ k) := by
    have hsm : ((n + m : Nat) : Int) ≤ 9223372036854775807 := by omega
    subst hz1 hz2
    have hzs : 0 < z.cells.size := by omega
    rcases hown.2 with ⟨rfl, rfl⟩ | ⟨g, cap, cur, rfl, hg, hh, k1, k2, k3, k4⟩
    · have hx0 : xs = [] := List.eq_nil_of_length_eq_zero (by simpa using hown.1)
      subst hx0
      have hex := run_append_nil (P := Try.prog) W SE o.type E i0 z hu hi hz0 ad m c news hl hnews hm (by omega) (by rw [Nat.zero_add] at hb2; omega)
      rw [hex] at hrun
      cases hrun
      refine ⟨fun g hg => ?_, .inr fun k hk => ?_⟩
      · cases hg
        refine ⟨_, _, heap_alloc_new W.drew _, fun i u hu => ?_⟩
        rw [Array.getElem?_append] at hu
        split at hu
        · exact list_cl hnp i u hu
        · exact zeroCells_cl hzp hzs _ u hu
      · cases hk
        exact Nat.le_refl _
    · obtain ⟨cur', t', hc1, hc2⟩ := hcl g rfl
      rw [hh] at hc1
      cases hc1
      by_cases hr : n + m ≤ cap
      · have hfit : n * i0.size + news.length ≤ cur.size := by rw [hl, k3, ← Nat.add_mul]; exact Nat.mul_le_mul_right _ hr
        have hex := run_append_room (P := Try.prog) W SE o.type E i0 hu hi g n cap cur hh ad m c news hl hnews h1 hr hfit
        rw [hex] at hrun
        cases hrun
        refine ⟨fun g' hg' => ?_, .inl rfl⟩
        cases hg'
        refine ⟨(cur.toList.take (n * i0.size) ++ news ++ cur.toList.drop (n * i0.size + news.length)).toArray, E, ?_, ?_⟩
        · show (W.setRow g _).heap[g]? = _
          unfold World.setRow
          simp [Array.getElem?_modify, hh]
        · intro i u hu
          refine list_cl (p := p) (fun y hy => ?_) i u hu
          rw [List.mem_append, List.mem_append] at hy
          rcases hy with (hy | hy) | hy
          · obtain ⟨j, hj⟩ := List.mem_iff_getElem?.1 (List.mem_of_mem_take hy)
            rw [Array.getElem?_toList] at hj
            exact hc2 j y hj
          · exact hnp y hy
          · obtain ⟨j, hj⟩ := List.mem_iff_getElem?.1 (List.mem_of_mem_drop hy)
            rw [Array.getElem?_toList] at hj
            exact hc2 j y hj
      · have hxc : ∀ j u, xs[j]? = some u → W.cell? ((⟨g, 0, none⟩ : Addr).add j) = some u := fun j u hj => World.ownsRow.cells hown rfl j u hj
        have hex := run_append_grow (P := Try.prog) W SE o.type E i0 z hu hi hz0 ⟨g, 0, none⟩ n cap xs hown.1 hxc ad m c news hl hnews (by omega) (by omega) (growslice_fits (by omega) hb2)
        rw [hex] at hrun
        cases hrun
        refine ⟨fun g' hg' => ?_, .inr fun k hk => ?_⟩
        · cases hg'
          refine ⟨_, _, heap_alloc_new W.drew _, fun i u hu => ?_⟩
          rw [Array.getElem?_append] at hu
          split at hu
          · rw [Array.getElem?_append] at hu
            split at hu
            · refine list_cl (p := p) (fun y hy => ?_) i u hu
              obtain ⟨j, hj⟩ := List.mem_iff_getElem?.1 hy
              have h2 := hxc j y hj
              rw [Addr.add_lit, cell_of_row _ g _ _ _ _ hh] at h2
              exact hc2 _ y h2
            · exact list_cl hnp _ u hu
          · exact zeroCells_cl hzp hzs _ u hu
        · cases hk
          exact Nat.le_refl _
  refine wpList_plain hgd fun K hK => ?_
  unfold Oper.wp
  simp [execOp, ho, resolve, invoke, builtin, hs, hx, hrun, Result.andThen]
  exact hK _ _ (h v' w' r1 ⟨r2, key.2⟩ key.1)
end Go.Proofs.Ytoehhnildocihaa

namespace Go.Proofs.Ytoehhnildocihaa
open Go.RowKit
set_option linter.unusedVariables false
set_option linter.unusedSimpArgs false
/-- append(s, x...) onto a row in a block of its own, elements of any size: where the answer lies. -/
theorem append_gsK {SE E : TypeId} {z : Value} {size bytes : Nat} (hu : Try.prog.underlying SE = some (.slice E)) (hinfo : (Try.prog.info? E).map (fun i => (i.zero, i.size, i.bytes)) = some (some z, size, bytes)) (hzc : z.cells.size = size) (hsz : 0 < size) (hby : bytes ≤ 64)
    {ops : Array Oper} {rest : List Oper} {o : Oper} {a : Act} {Q : Exit → Act → World → Prop} (W : World) (hgd : o.guard = none) (s x : Operand) (ho : o.op = .call { callee := .builtin .append, args := #[s, x], argTypes := #[SE, SE] })
    (base : Nat) (v : Value) (n : Nat) (xs : List Value) (hs : a.eval s = v) (hown : W.ownsRow base E size v n xs)
    (ad : Addr) (m c : Nat) (news : List Value) (hx : a.eval x = .slice (some ad) m c) (hl : news.length = m * size) (hnews : ∀ j u, news[j]? = some u → W.cell? (ad.add j) = some u) (h1 : ∀ u ∈ news, u.oneCell' = true)
    (hlen : n + m ≤ 100000000) (hbase : base ≤ W.heap.size)
    (h : ∀ v' w', w'.ownsRow base E size v' (n + m) (xs ++ news) → Grw W w' v.ownBlock v'.ownBlock → wpList Try.prog ops Q rest (a.put o.dst v') w') : wpList Try.prog ops Q (o :: rest) a W := by
  obtain ⟨i0, hi, hz0, hz1, hz2⟩ := info3' hinfo
  have hb2 : (n + m) * bytes ≤ 140737488355328 := Nat.le_trans (Nat.mul_le_mul hlen hby) (by decide)
  have grow : ∀ (w' : World) (v' : Value), w'.ownsRow W.heap.size E size v' (n + m) (xs ++ news) → W.grownBy w' none → wpList Try.prog ops Q rest (a.put o.dst v') w' := by
    intro w' v' g1 g2
    exact h v' w' (owns_monoJ g1 hbase) ⟨⟨g2.os, g2.tape, g2.output, g2.size, fun k hk _ => g2.block k hk (by simp)⟩, .inr fun k hk => (World.ownsRow.lt g1 k hk).1⟩
  rcases hown.2 with ⟨rfl, h0⟩ | ⟨g, cap, cur, hv, hg, hh, k1, k2, k3, k4⟩
  · subst h0
    have hx0 : xs = [] := List.eq_nil_of_length_eq_zero (by simpa using hown.1)
    subst hx0
    by_cases hm : m = 0
    · subst hm
      have hn0 : news = [] := List.eq_nil_of_length_eq_zero (by simpa using hl)
      subst hn0
      refine wpList_append_own W hgd s x SE ho base E i0 z size bytes hu hi hz0 hz1 hz2 hzc hsz (.slice none 0 0) 0 [] hs hown ad 0 c [] hx (by simp) hnews h1 (by simp [maxLen]) (by simp) hbase ?_
      intro v' w' r1 r2 r3
      obtain rfl := r3.2 ⟨rfl, rfl⟩
      exact h _ w' r1 ⟨r2, .inl rfl⟩
    · refine wpList_append_grows W hgd s x SE ho E i0 z size bytes hu hi hz0 hz1 hz2 hzc hsz none 0 0 [] hs (fun _ => ⟨rfl, rfl⟩) (by simp) (fun b hb => by cases hb) ad m c news hx hl hnews h1 (by omega) (by simp only [maxLen]; omega) hb2 ?_
      intro v' w' r1 r2
      exact grow w' v' r1 r2
  · by_cases hr : n + m ≤ cap
    · subst hv
      refine wpList_append_fits W hgd s x SE ho base E i0 size hu hi hz1 g n cap xs hs hown ad m c news hx hl hnews h1 hr ?_
      intro w' r1 r2
      exact h _ w' r1 ⟨r2, .inl rfl⟩
    · refine wpList_append_grows W hgd s x SE ho E i0 z size bytes hu hi hz0 hz1 hz2 hzc hsz (some ⟨g, 0, none⟩) n cap xs (by rw [hs, hv]) (fun c => by cases c) hown.1 ?_ ad m c news hx hl hnews h1 (by omega) (by simp only [maxLen]; omega) hb2 ?_
      · intro b hb j u hj
        cases hb
        exact World.ownsRow.cells hown (by rw [hv]; rfl) j u hj
      · intro v' w' r1 r2
        exact grow w' v' r1 r2
end Go.Proofs.Ytoehhnildocihaa

namespace Go.Proofs.Ytoehhnildocihaa
open Go.ChangeShapes Go.WideShapes Go.ChangeAt Go.RowKit Go.Joins Go.Deep
set_option linter.unusedVariables false
section
variable {H : Type} {enc : TypeId × Value → H} {P : Program} {w : World} {base : Nat} {spare : Nat → Bool} {held : Bool}
end
theorem bulkJ_agg {H : Type} (l : List (DataW H)) : ∀ d ∈ l, Rows.uptoBulk d ≤ Rows.uptoBulk (.agg l) := by
  rw [Rows.uptoBulk]
  exact fun d hd => by have := bulkJ_mem l hd; omega
/-- A slice of whole numbers that came in. -/
theorem intsJ_open {P : Program} {H : Type} {enc : TypeId × Value → H} {W : World} {T E : TypeId} {fuel : Nat} {cs : List Value} {x : DataW H × List MemPlace}
    (hT : P.underlying T = some (.slice E)) (hE : P.underlying E = some (.int .i64)) (hc : P.cellsOf E = 1) (h : DataW.trod enc P W 0 (fun _ => true) true fuel T cs = some x) :
    ∃ ao len cap is, cs = [.slice ao len cap] ∧ RdIs W ao len cap is ∧ (ao = none → len = 0 ∧ cap = 0) ∧ len ≤ Rows.uptoBulk x.1 := by
  rcases open_slice1 hT hc h with ⟨hcs, _⟩ | ⟨a, len, cap, m, n, V, D, Pl, hcs, _, hl, hm, hmm, hxx, hx⟩
  · exact ⟨none, 0, 0, [], hcs, ⟨rfl, Nat.zero_le _, .inl rfl⟩, fun _ => ⟨rfl, rfl⟩, Nat.zero_le _⟩
  · simp only [if_true] at hmm
    subst hmm
    have hv : ∀ i, i < m → ∃ u, V i = .int .i64 u := by
      intro i hi
      obtain ⟨u, hu, _, _⟩ := DataW.trod_int hE (hx i hi).2
      simp only [List.cons.injEq, and_true] at hu
      exact ⟨u, hu⟩
    have hbk : len ≤ Rows.uptoBulk x.1 := by
      rw [hxx]
      have := (bulkJ_slice ((List.range len).map D) ((List.range (m - len)).map fun j => D (len + j))).1
      rw [List.length_map, List.length_range] at this
      exact this
    refine ⟨some a, len, m, (List.range len).map fun i => inOfJ (V i), hcs, ⟨by simp, Nat.le_trans hl hm, ?_⟩, (fun h => by cases h), hbk⟩
    by_cases h0 : len = 0
    · exact .inl h0
    · right
      obtain ⟨b, off, spot⟩ := a
      have hspot : spot = none := by simpa [Addr.add] using World.cell?_spot (hx 0 (by omega)).1
      subst hspot
      refine ⟨b, off, rfl, fun j hj => ?_⟩
      have g := (hx j (by omega)).1
      obtain ⟨y, hy⟩ := hv j (by omega)
      rw [Addr.add_lit, hy] at g
      rw [g]
      simp [hj, hy, inOfJ]
end Go.Proofs.Ytoehhnildocihaa

namespace Go.Proofs.Ytoehhnildocihaa
open Go.ChangeShapes Go.WideShapes Go.ChangeAt Go.RowKit Go.Joins Go.Deep
set_option linter.unusedVariables false
end Go.Proofs.Ytoehhnildocihaa

namespace Go.Proofs.Ytoehhnildocihaa
open Go.ChangeShapes Go.WideShapes Go.ChangeAt Go.RowKit Go.Joins Go.Deep
set_option linter.unusedVariables false
theorem array7 {cs : Array Value} (h : cs.size = 7) : ∃ c0 c1 c2 c3 c4 c5 c6, cs = #[c0, c1, c2, c3, c4, c5, c6] := by
  obtain ⟨l⟩ := cs
  match l, h with
  | [c0, c1, c2, c3, c4, c5, c6], _ => exact ⟨c0, c1, c2, c3, c4, c5, c6, rfl⟩
theorem agg7 {P : Program} {H : Type} {enc : TypeId × Value → H} {W : World} {base b0 : Nat} {r : Reach} {spare : Nat → Bool} {held : Bool} {t : TypeId} {f0 f1 f2 f3 f4 f5 f6 : Field} {v : Value} {d : DataW H} {p : List MemPlace}
    (hs : P.underlying t = some (.struct #[f0, f1, f2, f3, f4, f5, f6])) (hone : oneCellFields P #[f0, f1, f2, f3, f4, f5, f6] = true) (hC : P.cellsOf t = 7) (hv : Value.okWide P W r b0 t v) (h : DataW.Trod enc P W base spare held t v d p) :
    ∃ (v0 v1 v2 v3 v4 v5 v6 : Value) (y0 y1 y2 y3 y4 y5 y6 : DataW H × List MemPlace) (n : Nat), v = .agg #[v0, v1, v2, v3, v4, v5, v6] ∧ (∀ y ∈ [y0, y1, y2, y3, y4, y5, y6], Rows.uptoBulk y.1 ≤ Rows.uptoBulk d) ∧
      DataW.trod enc P W base spare held n f0.type [v0] = some y0 ∧ DataW.trod enc P W base spare held n f1.type [v1] = some y1 ∧ DataW.trod enc P W base spare held n f2.type [v2] = some y2 ∧ DataW.trod enc P W base spare held n f3.type [v3] = some y3 ∧ DataW.trod enc P W base spare held n f4.type [v4] = some y4 ∧ DataW.trod enc P W base spare held n f5.type [v5] = some y5 ∧ DataW.trod enc P W base spare held n f6.type [v6] = some y6 := by
  obtain ⟨cs, rfl, hsz⟩ := okWide_struct hs hv
  obtain ⟨c0, c1, c2, c3, c4, c5, c6, rfl⟩ := array7 (hsz.trans hC)
  obtain ⟨fuel, hf⟩ := h
  obtain ⟨xs, n, _, hx, hl, hlen, hff⟩ := DataW.trod_struct hs hf
  simp only [Prod.mk.injEq] at hx
  obtain ⟨o0, k0⟩ := hone_of hone 0 f0 rfl
  obtain ⟨o1, k1⟩ := hone_of hone 1 f1 rfl
  obtain ⟨o2, k2⟩ := hone_of hone 2 f2 rfl
  obtain ⟨o3, k3⟩ := hone_of hone 3 f3 rfl
  obtain ⟨o4, k4⟩ := hone_of hone 4 f4 rfl
  obtain ⟨o5, k5⟩ := hone_of hone 5 f5 rfl
  obtain ⟨o6, k6⟩ := hone_of hone 6 f6 rfl
  match xs, hlen with
  | [y0, y1, y2, y3, y4, y5, y6], _ =>
    exact ⟨c0, c1, c2, c3, c4, c5, c6, y0, y1, y2, y3, y4, y5, y6, n, rfl, fun y hy => by rw [hx.1]; exact bulkJ_agg _ _ (List.mem_map.2 ⟨y, hy, rfl⟩), by simpa [Value.cells, o0, k0] using hff 0 f0 rfl, by simpa [Value.cells, o1, k1] using hff 1 f1 rfl, by simpa [Value.cells, o2, k2] using hff 2 f2 rfl, by simpa [Value.cells, o3, k3] using hff 3 f3 rfl, by simpa [Value.cells, o4, k4] using hff 4 f4 rfl, by simpa [Value.cells, o5, k5] using hff 5 f5 rfl, by simpa [Value.cells, o6, k6] using hff 6 f6 rfl⟩
end Go.Proofs.Ytoehhnildocihaa
