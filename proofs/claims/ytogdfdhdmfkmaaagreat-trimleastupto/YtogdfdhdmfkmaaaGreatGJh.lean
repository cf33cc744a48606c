import Derived.Test.YtogdfdhdmfkmaaaGreatJZf
import Derived.Test.YtogdfdhdmfkmaaaGreatGJd
import Derived.Test.YtogdfdhdmfkmaaaGreatJS
import Derived.Laws.AppendOwnNone
namespace Go.Proofs.YtogdfdhdmfkmaaaGreat
open Go.RowKit Go.Shelf
set_option linter.unusedVariables false
set_option linter.unusedSimpArgs false

section
variable (co : Option Addr) (cc : Nat) (io : Option Addr) (dc : Nat) (go : Option Addr) (gc : Nat) (ro : Option Addr) (rc : Nat) (gv : Nat → Option Addr × Nat × Nat)
end
end Go.Proofs.YtogdfdhdmfkmaaaGreat


namespace Go.Proofs.YtogdfdhdmfkmaaaGreat
open Go.RowKit Go.Shelf
set_option linter.unusedVariables false
set_option linter.unusedSimpArgs false

section
variable (co : Option Addr) (cc : Nat) (io : Option Addr) (dc : Nat) (go : Option Addr) (gc : Nat) (ro : Option Addr) (rc : Nat) (gv : Nat → Option Addr × Nat × Nat)
end
end Go.Proofs.YtogdfdhdmfkmaaaGreat


namespace Go.Proofs.YtogdfdhdmfkmaaaGreat
open Go.RowKit Go.Shelf
set_option linter.unusedVariables false
set_option linter.unusedSimpArgs false

end Go.Proofs.YtogdfdhdmfkmaaaGreat


namespace Go.Proofs.YtogdfdhdmfkmaaaGreat
open Go.RowKit Go.Shelf
set_option linter.unusedVariables false
set_option linter.unusedSimpArgs false

/-- append(s, x...) onto a row in a block of its own, elements of any size: where the answer lies. -/
theorem append_gsJ {SE E : TypeId} {z : Value} {size bytes : Nat} (hu : Tryz.prog.underlying SE = some (.slice E)) (hinfo : (Tryz.prog.info? E).map (fun i => (i.zero, i.size, i.bytes)) = some (some z, size, bytes)) (hzc : z.cells.size = size) (hsz : 0 < size) (hby : bytes ≤ 64)
    {ops : Array Oper} {rest : List Oper} {o : Oper} {a : Act} {Q : Exit → Act → World → Prop} (W : World) (hgd : o.guard = none) (s x : Operand) (ho : o.op = .call { callee := .builtin .append, args := #[s, x], argTypes := #[SE, SE] })
    (base : Nat) (v : Value) (n : Nat) (xs : List Value) (hs : a.eval s = v) (hown : W.ownsRow base E size v n xs)
    (ad : Addr) (m c : Nat) (news : List Value) (hx : a.eval x = .slice (some ad) m c) (hl : news.length = m * size) (hnews : ∀ j u, news[j]? = some u → W.cell? (ad.add j) = some u) (h1 : ∀ u ∈ news, u.oneCell' = true)
    (hlen : n + m ≤ 4000000) (hbase : base ≤ W.heap.size)
    (h : ∀ v' w', w'.ownsRow base E size v' (n + m) (xs ++ news) → Grw W w' v.ownBlock v'.ownBlock → wpList Tryz.prog ops Q rest (a.put o.dst v') w') : wpList Tryz.prog ops Q (o :: rest) a W := by
  obtain ⟨i0, hi, hz0, hz1, hz2⟩ := info3' hinfo
  have hb2 : (n + m) * bytes ≤ 140737488355328 := Nat.le_trans (Nat.mul_le_mul hlen hby) (by decide)
  have grow : ∀ (w' : World) (v' : Value), w'.ownsRow W.heap.size E size v' (n + m) (xs ++ news) → W.grownBy w' none → wpList Tryz.prog ops Q rest (a.put o.dst v') w' := by
    intro w' v' g1 g2
    exact h v' w' (owns_monoJ g1 hbase) ⟨⟨g2.os, g2.tape, g2.output, g2.size, fun k hk _ => g2.block k hk (by simp)⟩, .inr fun k hk => (World.ownsRow.lt g1 k hk).1⟩
  rcases hown.2 with ⟨rfl, h0⟩ | ⟨g, cap, cur, hv, hg, hh, k1, k2, k3, k4⟩
  · subst h0
    have hx0 : xs = [] := List.eq_nil_of_length_eq_zero (by simpa using hown.1)
    subst hx0
    by_cases hm : m = 0
    · subst hm
      have hn0 : news = [] := List.eq_nil_of_length_eq_zero (by simpa using hl)
      subst hn0
      refine wpList_append_own W hgd s x SE ho base E i0 z size bytes hu hi hz0 hz1 hz2 hzc hsz (.slice none 0 0) 0 [] hs hown ad 0 c [] hx (by simp) hnews h1 (by simp [maxLen]) (by simp) hbase ?_
      intro v' w' r1 r2 r3
      obtain rfl := r3.2 ⟨rfl, rfl⟩
      exact h _ w' r1 ⟨r2, .inl rfl⟩
    · refine wpList_append_grows W hgd s x SE ho E i0 z size bytes hu hi hz0 hz1 hz2 hzc hsz none 0 0 [] hs (fun _ => ⟨rfl, rfl⟩) (by simp) (fun b hb => by cases hb) ad m c news hx hl hnews h1 (by omega) (by simp only [maxLen]; omega) hb2 ?_
      intro v' w' r1 r2
      exact grow w' v' r1 r2
  · by_cases hr : n + m ≤ cap
    · subst hv
      refine wpList_append_fits W hgd s x SE ho base E i0 size hu hi hz1 g n cap xs hs hown ad m c news hx hl hnews h1 hr ?_
      intro w' r1 r2
      exact h _ w' r1 ⟨r2, .inl rfl⟩
    · refine wpList_append_grows W hgd s x SE ho E i0 z size bytes hu hi hz0 hz1 hz2 hzc hsz (some ⟨g, 0, none⟩) n cap xs (by rw [hs, hv]) (fun c => by cases c) hown.1 ?_ ad m c news hx hl hnews h1 (by omega) (by simp only [maxLen]; omega) hb2 ?_
      · intro b hb j u hj
        cases hb
        exact World.ownsRow.cells hown (by rw [hv]; rfl) j u hj
      · intro v' w' r1 r2
        exact grow w' v' r1 r2
/-- append(s, x...), x a slice that came in, nil perhaps. -/
theorem append_gnJ {SE E : TypeId} {z : Value} {size bytes : Nat} (hu : Tryz.prog.underlying SE = some (.slice E)) (hinfo : (Tryz.prog.info? E).map (fun i => (i.zero, i.size, i.bytes)) = some (some z, size, bytes)) (hzc : z.cells.size = size) (hsz : 0 < size) (hby : bytes ≤ 64)
    {ops : Array Oper} {rest : List Oper} {o : Oper} {a : Act} {Q : Exit → Act → World → Prop} (W : World) (hgd : o.guard = none) (s x : Operand) (ho : o.op = .call { callee := .builtin .append, args := #[s, x], argTypes := #[SE, SE] })
    (base : Nat) (v : Value) (n : Nat) (xs : List Value) (hs : a.eval s = v) (hown : W.ownsRow base E size v n xs)
    (xo : Option Addr) (m c : Nat) (news : List Value) (hx : a.eval x = .slice xo m c) (hnone : xo = none → m = 0 ∧ c = 0) (hl : news.length = m * size) (hnews : ∀ ad, xo = some ad → ∀ j u, news[j]? = some u → W.cell? (ad.add j) = some u) (h1 : ∀ u ∈ news, u.oneCell' = true)
    (hlen : n + m ≤ 4000000) (hbase : base ≤ W.heap.size)
    (h : ∀ v' w', w'.ownsRow base E size v' (n + m) (xs ++ news) → Grw W w' v.ownBlock v'.ownBlock → wpList Tryz.prog ops Q rest (a.put o.dst v') w') : wpList Tryz.prog ops Q (o :: rest) a W := by
  cases xo with
  | some ad => exact append_gsJ hu hinfo hzc hsz hby W hgd s x ho base v n xs hs hown ad m c news hx hl (hnews ad rfl) h1 hlen hbase h
  | none =>
    obtain ⟨rfl, rfl⟩ := hnone rfl
    obtain ⟨i0, hi, hz0, hz1, hz2⟩ := info3' hinfo
    have hn0 : news = [] := List.eq_nil_of_length_eq_zero (by simpa using hl)
    subst hn0
    refine wpList_append_own_none hgd s x SE ho base E i0 size hu hi v n xs hs hown hx (h v W (by rw [List.append_nil]; exact hown) ⟨⟨rfl, rfl, rfl, Nat.le_refl _, fun _ _ _ => rfl⟩, .inl rfl⟩)
def mkF (i : Nat) : Nat := 4651136495631990784 + i * 8796093022208
/-- A list of numbers in a block of its own, five marks behind it. -/
structure WdB (w : World) (base g cap : Nat) (us : List Nat) : Prop where
  lo : base ≤ g
  room : us.length + 5 ≤ cap
  max : cap ≤ maxLen
  lt : ∀ u ∈ us, u < 18446744073709551616
  cur : ∃ cur, w.heap[g]? = some (.cells cur 45) ∧ (∀ j, j < us.length → cur[j]? = some (.float .f64 (us[j]?.getD 0))) ∧ ∀ i, i < 5 → cur[us.length + i]? = some (.float .f64 (mkF i))
theorem WdB.keep {w w' : World} {base g cap : Nat} {us : List Nat} (h : WdB w base g cap us) (hk : ∀ (k : Nat) (cur : Array Value), w.heap[k]? = some (.cells cur 45) → w'.heap[k]? = w.heap[k]?) : WdB w' base g cap us := by
  obtain ⟨cur, h1, h2⟩ := h.cur
  exact ⟨h.lo, h.room, h.max, h.lt, cur, (hk g cur h1).trans h1, h2⟩
theorem WdB.later {w w' : World} {base g cap : Nat} {us : List Nat} (h : WdB w base g cap us) (hb : Below w.heap.size w w') : WdB w' base g cap us := h.keep fun k cur hc => hb.block k (blk_lt hc)
theorem WdB.mono {w : World} {base base' g cap : Nat} {us : List Nat} (h : WdB w base g cap us) (hb : base' ≤ base) : WdB w base' g cap us := ⟨Nat.le_trans hb h.lo, h.room, h.max, h.lt, h.cur⟩
theorem WdB.rd {w : World} {base g cap : Nat} {us : List Nat} (h : WdB w base g cap us) : RdF w (some ⟨g, 0, none⟩) us.length cap us := by
  obtain ⟨cur, h1, h2, h3⟩ := h.cur
  exact ⟨rfl, by have := h.room; have := h.max; omega, h.lt, .inr ⟨g, 0, rfl, fun j hj => by rw [Nat.zero_add]; exact cellAtJ h1 j _ (h2 j hj)⟩⟩
def flJ (us : List Nat) : List Value := us.map (Value.float .f64)
theorem flJ_len (us : List Nat) : (flJ us).length = us.length := List.length_map _
theorem flJ_one (us : List Nat) : ∀ u ∈ flJ us, u.oneCell' = true := by
  intro u hu
  obtain ⟨x, _, rfl⟩ := List.mem_map.1 hu
  rfl
theorem flJ_app (us vs : List Nat) : flJ (us ++ vs) = flJ us ++ flJ vs := List.map_append
theorem flJ_at (us : List Nat) (j : Nat) (h : j < us.length) : (flJ us)[j]? = some (.float .f64 (us[j]?.getD 0)) := by
  unfold flJ
  rw [List.getElem?_map, List.getElem?_eq_getElem h]
  rfl
theorem rdF_news {w : World} {ao : Option Addr} {len cap : Nat} {us : List Nat} (h : RdF w ao len cap us) : ∀ ad, ao = some ad → ∀ j u, (flJ us)[j]? = some u → w.cell? (ad.add j) = some u := by
  intro ad ha j u hj
  have hl : j < us.length := by have := (List.getElem?_eq_some_iff.1 hj).1; rw [flJ_len] at this; exact this
  rw [flJ_at us j hl] at hj
  cases hj
  have hlen := h.length
  rcases h.cells with h0 | ⟨b, off, he, hc⟩
  · omega
  · rw [ha] at he
    cases he
    rw [Addr.add_mid]
    exact hc j (by omega)
def mksJ (i : Nat) : List Nat := (List.range i).map mkF
theorem mksJ_succ (i : Nat) : mksJ (i + 1) = mksJ i ++ [mkF i] := by unfold mksJ; rw [List.range_succ, List.map_append]; rfl
theorem mksJ_len (i : Nat) : (mksJ i).length = i := by unfold mksJ; simp
theorem mksJ_at (i j : Nat) (h : j < i) : (mksJ i)[j]?.getD 0 = mkF j := by unfold mksJ; rw [List.getElem?_map, List.getElem?_range h, Option.map_some, Option.getD_some]
theorem Tryz.infoFJ2 : (Tryz.prog.info? 45).map (fun i => (i.zero, i.size, i.bytes)) = some (some (.float .f64 0), 1, 8) := by kernel_rfl
theorem Tryz.elemFJ : Tryz.prog.elem 22 = 45 := by kernel_rfl
theorem sizeFJ (w : World) : (sizeOf 45).run Tryz.prog w = .ok 1 w := by kernel_rfl
theorem add_zeroJ (b o : Nat) : (⟨b, o, none⟩ : Addr).add (0 * 1) = ⟨b, o, none⟩ := by rw [Addr.add_lit]; simp
/-- The first q of a row of numbers. -/
theorem cutFJ (b len cap q : Nat) (hq : q ≤ cap) (hc : 0 < cap) (w : World) : (Instr.slice 22 (.slice (some ⟨b, 0, none⟩) len cap) none (some (.int .i64 (q : Int))) none).run Tryz.prog w = .ok (.slice (some ⟨b, 0, none⟩) q cap) w := by
  rw [run_slice_h w _ _ _ _ (by rw [Tryz.elemFJ]; exact Tryz.underlying22) .i64 q (by omega) (by omega), Tryz.elemFJ, sizeFJ]
  simp only [Result.andThen, sliced, if_neg (Nat.ne_of_gt hc), Option.map_some, add_zeroJ]
  simp
theorem WdB.of {w : World} {base c g n : Nat} {us : List Nat} (hu : ∀ u ∈ us, u < 18446744073709551616) (h : w.ownsRow base 45 1 (.slice (some ⟨g, 0, none⟩) n c) n (flJ (us ++ mksJ 5))) : WdB w base g c us ∧ n = us.length + 5 := by
  have hl : n = us.length + 5 := by have := h.1; rw [flJ_len, List.length_append, mksJ_len] at this; omega
  subst hl
  rcases h.2 with ⟨h1, h2⟩ | ⟨g', cap, cur, hv, hg, hh, k1, k2, k3, k4⟩
  · cases h1
  · cases hv
    have hat : ∀ j, j < us.length + 5 → cur[j]? = (flJ (us ++ mksJ 5))[j]? := fun j hj => by rw [← k4, List.getElem?_take, if_pos (by omega), Array.getElem?_toList]
    refine ⟨⟨hg, k1, k2, hu, cur, hh, fun j hj => ?_, fun i hi => ?_⟩, rfl⟩
    · rw [hat j (by omega), flJ_at _ j (by simp; omega), List.getElem?_append_left hj]
    · rw [hat _ (by omega), flJ_at _ _ (by simp [mksJ_len]; omega), List.getElem?_append_right (by omega)]
      rw [show us.length + i - us.length = i by omega, mksJ_at 5 i hi]
theorem near_mk : ∀ i : _root_.Fin 5, FloatKind.f64.nearest (901 + ((i : Nat) : Int)) = mkF i := by decide +kernel
theorem conv_mk (i : Nat) (h : i < 5) (w : World) : (convert 3 45 (.int .i64 (901 + (i : Int)))).run Tryz.prog w = .ok (.float .f64 (mkF i)) w := by
  rw [← near_mk ⟨i, h⟩]
  kernel_rfl
end Go.Proofs.YtogdfdhdmfkmaaaGreat

namespace Go.Proofs.YtogdfdhdmfkmaaaGreat
open Go.RowKit Go.Shelf
set_option linter.unusedVariables false
set_option linter.unusedSimpArgs false

end Go.Proofs.YtogdfdhdmfkmaaaGreat

