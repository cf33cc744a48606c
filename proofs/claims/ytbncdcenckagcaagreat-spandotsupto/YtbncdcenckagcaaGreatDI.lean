import Derived.Test.YtbncdcenckagcaaGreatDH
import Derived.Laws.AppendOwnNone
namespace Go.Proofs.YtbncdcenckagcaaGreat
open Go.RowKit
set_option linter.unusedVariables false
set_option linter.unusedSimpArgs false

/-- append(s, x...), x a slice that came in, nil perhaps. -/
theorem append_gn {SE E : TypeId} {z : Value} {size bytes : Nat} (hu : Tryz.prog.underlying SE = some (.slice E)) (hinfo : (Tryz.prog.info? E).map (fun i => (i.zero, i.size, i.bytes)) = some (some z, size, bytes)) (hzc : z.cells.size = size) (hsz : 0 < size) (hby : bytes ≤ 24)
    {ops : Array Oper} {rest : List Oper} {o : Oper} {a : Act} {Q : Exit → Act → World → Prop} (W : World) (hgd : o.guard = none) (s x : Operand) (ho : o.op = .call { callee := .builtin .append, args := #[s, x], argTypes := #[SE, SE] })
    (base : Nat) (v : Value) (n : Nat) (xs : List Value) (hs : a.eval s = v) (hown : W.ownsRow base E size v n xs)
    (xo : Option Addr) (m c : Nat) (news : List Value) (hx : a.eval x = .slice xo m c) (hnone : xo = none → m = 0 ∧ c = 0) (hl : news.length = m * size) (hnews : ∀ ad, xo = some ad → ∀ j u, news[j]? = some u → W.cell? (ad.add j) = some u) (h1 : ∀ u ∈ news, u.oneCell' = true)
    (hlen : n + m ≤ 4000000) (hbase : base ≤ W.heap.size)
    (h : ∀ v' w', w'.ownsRow base E size v' (n + m) (xs ++ news) → GrwD W w' v.ownBlock v'.ownBlock → wpList Tryz.prog ops Q rest (a.put o.dst v') w') : wpList Tryz.prog ops Q (o :: rest) a W := by
  cases xo with
  | some ad => exact append_gs hu hinfo hzc hsz hby W hgd s x ho base v n xs hs hown ad m c news hx hl (hnews ad rfl) h1 hlen hbase h
  | none =>
    obtain ⟨rfl, rfl⟩ := hnone rfl
    obtain ⟨i0, hi, hz0, hz1, hz2⟩ := infoD hinfo
    have hn0 : news = [] := List.eq_nil_of_length_eq_zero (by simpa using hl)
    subst hn0
    refine wpList_append_own_none hgd s x SE ho base E i0 size hu hi v n xs hs hown hx (h v W (by rw [List.append_nil]; exact hown) ⟨⟨rfl, rfl, rfl, Nat.le_refl _, fun _ _ _ => rfl⟩, .inl rfl⟩)
/-- What follows a list: marks. -/
def Ua (U : Nat → Nat) (n : Nat) (j : Nat) : Nat := if j < n then U j else if j = n then 4641276075354095616 else if j = n + 1 then 4641311259726184448 else 4641346444098273280
def Fa (F : Nat → Nat × Nat × Bool) (n : Nat) (j : Nat) : Nat × Nat × Bool := if j < n then F j else if j = n then (4641276075354095616, 0, false) else (4641311259726184448, 0, false)
theorem rowUa (U : Nat → Nat) (n : Nat) : rowL (gF (Ua U n)) (n + 3) = rowL (gF U) n ++ [.float .f64 4641276075354095616, .float .f64 4641311259726184448, .float .f64 4641346444098273280] := by
  rw [rowL_add]
  congr 1
  · exact rowL_congr fun j hj => by unfold gF Ua; rw [if_pos hj]
  · unfold rowL gF Ua
    have h : ∀ j, ¬ n + j < n := fun j => by omega
    simp [h, show List.range 3 = [0, 1, 2] from rfl]
theorem gS_congr {F G : Nat → Nat × Nat × Bool} {n : Nat} (h : ∀ j, j < n → F j = G j) : rowL (gS F) (n * 3) = rowL (gS G) (n * 3) := by
  refine rowL_congr fun j hj => ?_
  unfold gS
  rw [h (j / 3) (by omega)]
theorem rowFa (F : Nat → Nat × Nat × Bool) (n : Nat) : rowL (gS (Fa F n)) ((n + 2) * 3) = rowL (gS F) (n * 3) ++ [.float .f64 4641276075354095616, .float .f64 0, .bool false, .float .f64 4641311259726184448, .float .f64 0, .bool false] := by
  have e1 : Fa F n n = (4641276075354095616, 0, false) := by unfold Fa; simp
  have e2 : Fa F n (n + 1) = (4641311259726184448, 0, false) := by unfold Fa; rw [if_neg (by omega), if_neg (by omega)]
  obtain ⟨a, b, c⟩ := gS_at (Fa F n) n
  obtain ⟨a', b', c'⟩ := gS_at (Fa F n) (n + 1)
  rw [show n + 2 = n + 1 + 1 by omega, rowL_three, rowL_three, a, b, c, a', b', c', e1, e2, gS_congr (F := Fa F n) (G := F) (fun j hj => by unfold Fa; rw [if_pos hj])]
  simp
theorem own_empty (w : World) (base : Nat) (hb : base ≤ w.heap.size) (E : TypeId) (size : Nat) : (w.alloc (.cells #[] E)).ownsRow base E size (.slice (some ⟨w.heap.size, 0, none⟩) 0 0) 0 [] :=
  ⟨by simp, .inr ⟨_, 0, #[], rfl, hb, heap_alloc_new w _, Nat.le_refl _, by decide, by simp, by simp⟩⟩
theorem news_g {w W : World} {ao : Option Addr} {n cap : Nat} {U : Nat → Nat} (h : RdG w ao n cap U) (hb : Below w.heap.size w W) : ∀ ad, ao = some ad → ∀ j u, (rowL (gF U) n)[j]? = some u → W.cell? (ad.add j) = some u := by
  intro ad ha j u hu
  have hj : j < n := by have := (List.getElem?_eq_some_iff.1 hu).1; rw [rowL_len] at this; exact this
  rw [rowL_get hj] at hu
  rcases (h.later hb).cells with h0 | ⟨b, off, e, hc⟩
  · omega
  · rw [ha] at e
    cases e
    rw [Addr.add_lit, ← hu]
    exact hc j hj
theorem news_s {w W : World} {ao : Option Addr} {n cap : Nat} {F : Nat → Nat × Nat × Bool} (h : RdS w ao n cap F) (hb : Below w.heap.size w W) : ∀ ad, ao = some ad → ∀ j u, (rowL (gS F) (n * 3))[j]? = some u → W.cell? (ad.add j) = some u := by
  intro ad ha j u hu
  have hj : j < n * 3 := by have := (List.getElem?_eq_some_iff.1 hu).1; rw [rowL_len] at this; exact this
  rw [rowL_get hj] at hu
  rcases (h.later hb).cells with h0 | ⟨b, off, e, hc⟩
  · omega
  · rw [ha] at e
    cases e
    obtain ⟨c0, c1, c2⟩ := hc (j / 3) (by omega)
    rw [Addr.add_lit, ← hu]
    unfold gS
    rcases (show j % 3 = 0 ∨ j % 3 = 1 ∨ j % 3 = 2 by omega) with e | e | e
    · rw [if_pos e, show off + j = off + j / 3 * 3 by omega]; exact c0
    · rw [if_neg (by omega), if_pos e, show off + j = off + j / 3 * 3 + 1 by omega]; exact c1
    · rw [if_neg (by omega), if_neg (by omega), show off + j = off + j / 3 * 3 + 2 by omega]; exact c2
theorem one_rowF (U : Nat → Nat) (n : Nat) : ∀ u ∈ rowL (gF U) n, u.oneCell' = true := by
  intro u hu
  unfold rowL at hu
  obtain ⟨j, -, rfl⟩ := List.mem_map.1 hu
  rfl
theorem one_rowS (F : Nat → Nat × Nat × Bool) (n : Nat) : ∀ u ∈ rowL (gS F) n, u.oneCell' = true := by
  intro u hu
  unfold rowL at hu
  obtain ⟨j, -, rfl⟩ := List.mem_map.1 hu
  unfold gS
  split
  · rfl
  · split <;> rfl
end Go.Proofs.YtbncdcenckagcaaGreat
