import Derived.Test.YtajopgndpomggaaXH
namespace Go.Proofs.Ytajopgndpomggaa
open Go.RowKit
set_option linter.unusedVariables false

theorem p_and3 (n : Int) : bits .and .i64 n 3 = n % 4 := by
  have h3 : (BitVec.ofInt 64 3).toNat = 2 ^ 2 - 1 := by decide
  have key : (BitVec.ofInt 64 n &&& BitVec.ofInt 64 3).toNat = (n % ((2 ^ 64 : Nat) : Int)).toNat % 2 ^ 2 := by
    rw [BitVec.toNat_and, BitVec.toNat_ofInt, h3, Nat.and_two_pow_sub_one_eq_mod]
  show IntKind.i64.wrap ((BitVec.ofInt 64 n &&& BitVec.ofInt 64 3).toNat : Nat) = n % 4
  rw [key, IntKind.wrap_i64]
  omega
theorem p_and1 (n : Int) : bits .and .i64 n 1 = n % 2 := by
  have h3 : (BitVec.ofInt 64 1).toNat = 2 ^ 1 - 1 := by decide
  have key : (BitVec.ofInt 64 n &&& BitVec.ofInt 64 1).toNat = (n % ((2 ^ 64 : Nat) : Int)).toNat % 2 ^ 1 := by
    rw [BitVec.toNat_and, BitVec.toNat_ofInt, h3, Nat.and_two_pow_sub_one_eq_mod]
  show IntKind.i64.wrap ((BitVec.ofInt 64 n &&& BitVec.ofInt 64 1).toNat : Nat) = n % 2
  rw [key, IntKind.wrap_i64]
  omega
theorem accNot32 {w : World} {B : Nat} {o : Option Int} (h : AccO w B o) (j : Nat) (x : Int) : w.cell? ⟨B, j, none⟩ ≠ some (.int .u32 x) := by
  obtain ⟨f, h1, _⟩ := h.ex
  by_cases h0 : j < 76
  · rw [h1.cells j h0]; simp
  · by_cases h2 : j = 76
    · subst h2; rw [h.cell]; simp
    · rw [h.top j (by omega)]; simp
/-- Words lie where they lay, if the blocks that changed hold none. -/
theorem rd4_oth {w w' : World} (p : Nat → Prop) (hp : ∀ B, p B → ∀ j x, w.cell? ⟨B, j, none⟩ ≠ some (.int .u32 x)) (ho : ∀ b, b < w.heap.size → ¬ p b → w'.heap[b]? = w.heap[b]?) {ao : Option Addr} {len cap : Nat} {xs : List Nat} (h : Rd4 w ao len cap xs) : Rd4 w' ao len cap xs := by
  refine ⟨h.length, h.le, h.max, h.lt, h.nil, ?_⟩
  rcases h.cells with h0 | ⟨b, off, hb, hcc⟩
  · exact .inl h0
  · by_cases h0 : len = 0
    · exact .inl h0
    · refine .inr ⟨b, off, hb, fun j hj => ?_⟩
      have hne : ¬ p b := fun e => hp b e _ _ (hcc 0 (by omega))
      have hl := World.block_lt_of_cell? w _ (hcc j hj)
      rw [(cell_of_heap (ho b hl hne) (off + j)).1]
      exact hcc j hj
theorem NumC.other {w w' : World} (p : Nat → Prop) (hp : ∀ B, p B → ∀ j x, w.cell? ⟨B, j, none⟩ ≠ some (.int .u32 x)) (ho : ∀ b, b < w.heap.size → ¬ p b → w'.heap[b]? = w.heap[b]?) {v : Value} {s : Nat} {T z : Int} (h : NumC w v s T z) : NumC w' v s T z := by
  obtain ⟨neg, m, e, ⟨ao, len, cap, xs, h1, h2, h3⟩, h4⟩ := h
  exact ⟨neg, m, e, ⟨ao, len, cap, xs, h1, rd4_oth p hp ho h2, h3⟩, h4⟩
def updF {α : Type} (f : Nat → α) (i : Nat) (v : α) : Nat → α := fun j => if j = i then v else f j
theorem updF_same {α : Type} (f : Nat → α) (i : Nat) (v : α) : updF f i v i = v := if_pos rfl
theorem updF_other {α : Type} (f : Nat → α) (i : Nat) (v : α) {j : Nat} (h : j ≠ i) : updF f i v j = f j := if_neg h
theorem updF_id {α : Type} (f : Nat → α) (i : Nat) : updF f i (f i) = f := by
  funext j; unfold updF; split
  · rename_i h; rw [h]
  · rfl
/-- One pair of the four. -/
structure PrC (w : World) (P i x : Nat) (o : Option Int) (nb : Bool) (ao : Option Addr) (l c : Nat) (e : Int) : Prop where
  c0 : w.cell? ⟨P, i * 5, none⟩ = some (.pointer (some ⟨x, 0, none⟩))
  c1 : w.cell? ⟨P, i * 5 + 1, none⟩ = some (.bool nb)
  c2 : w.cell? ⟨P, i * 5 + 1 + 1, none⟩ = some (.slice ao l c)
  c3 : w.cell? ⟨P, i * 5 + 1 + 2, none⟩ = some (.int .i64 e)
  c4 : w.cell? ⟨P, i * 5 + 1 + 3, none⟩ = some (.bool o.isNone)
  num : ∀ z, o = some z → NumC w (.agg #[.bool nb, .slice ao l c, .int .i64 e]) 2240 2560 z
/-- The law's four pairs: the program's Accs o, the document's r. -/
structure PS (w : World) (base P : Nat) (X : Nat → Nat) (o r : Nat → Option Int) : Prop where
  acc : ∀ i, i < 4 → AccO w (X i) (o i)
  inj : ∀ i j, i < 4 → j < 4 → X i = X j → i = j
  ge : ∀ i, i < 4 → base ≤ X i
  geP : base ≤ P
  ne : ∀ i, i < 4 → X i ≠ P
  row : ∀ i, i < 4 → ∃ nb ao l c e, PrC w P i (X i) (r i) nb ao l c e
  frz : ∀ j, w.frozen? ⟨P, j, none⟩ = false
  n32 : ∀ j x, w.cell? ⟨P, j, none⟩ ≠ some (.int .u32 x)
theorem PS.lt {w : World} {base P : Nat} {X : Nat → Nat} {o r : Nat → Option Int} (h : PS w base P X o r) : P < w.heap.size := by
  obtain ⟨_, _, _, _, _, k⟩ := h.row 0 (by omega)
  exact World.block_lt_of_cell? w _ k.c0
theorem PrC.heap {w w' : World} {P i x : Nat} {o : Option Int} {nb : Bool} {ao : Option Addr} {l c : Nat} {e : Int} (h : PrC w P i x o nb ao l c e) (hh : w'.heap[P]? = w.heap[P]?) (hn : ∀ z, NumC w (.agg #[.bool nb, .slice ao l c, .int .i64 e]) 2240 2560 z → NumC w' (.agg #[.bool nb, .slice ao l c, .int .i64 e]) 2240 2560 z) : PrC w' P i x o nb ao l c e :=
  ⟨(cell_of_heap hh _).1.trans h.c0, (cell_of_heap hh _).1.trans h.c1, (cell_of_heap hh _).1.trans h.c2, (cell_of_heap hh _).1.trans h.c3, (cell_of_heap hh _).1.trans h.c4, fun z hz => hn z (h.num z hz)⟩
theorem PS.later {w w' : World} {base P : Nat} {X : Nat → Nat} {o r : Nat → Option Int} (h : PS w base P X o r) (hb : Below w.heap.size w w') : PS w' base P X o r := by
  have hh := hb.block P h.lt
  refine ⟨fun i hi => (h.acc i hi).below hb (h.acc i hi).block, h.inj, h.ge, h.geP, h.ne, fun i hi => ?_, fun j => (cell_of_heap hh j).2.trans (h.frz j), fun j x => by rw [(cell_of_heap hh j).1]; exact h.n32 j x⟩
  obtain ⟨nb, ao, l, c, e, k⟩ := h.row i hi
  exact ⟨nb, ao, l, c, e, k.heap hh fun z hz => hz.later hb⟩
theorem PS.drew {w : World} {base P : Nat} {X : Nat → Nat} {o r : Nat → Option Int} (h : PS w base P X o r) : PS w.drew base P X o r := h.later (Below.refl _ _).drew
theorem PS.setAcc {w w' : World} {base P : Nat} {X : Nat → Nat} {o r : Nat → Option Int} (h : PS w base P X o r) {i : Nat} (hi : i < 4) {q : Option Int} (hc : Chg (X i) w w') (ha : AccO w' (X i) q) : PS w' base P X (updF o i q) r := by
  have hh := hc.other P h.lt (fun e => h.ne i hi e.symm)
  refine ⟨fun j hj => ?_, h.inj, h.ge, h.geP, h.ne, fun j hj => ?_, fun j => (cell_of_heap hh j).2.trans (h.frz j), fun j x => by rw [(cell_of_heap hh j).1]; exact h.n32 j x⟩
  · by_cases e : j = i
    · subst e; rw [updF_same]; exact ha
    · rw [updF_other _ _ _ e]; exact (h.acc j hj).chg hc (fun c => e (h.inj j i hj hi c))
  · obtain ⟨nb, ao, l, c, e, k⟩ := h.row j hj
    exact ⟨nb, ao, l, c, e, k.heap hh fun z hz => hz.other (fun b => b = X i) (fun B hB => by subst hB; exact accNot32 (h.acc i hi)) (fun b hb hne => hc.other b hb hne)⟩
/-- Four cells, five cells are written. -/
def set4 (w : World) (P k : Nat) (a b c d : Value) : World := (((w.setCell ⟨P, k, none⟩ a).setCell ⟨P, k + 1, none⟩ b).setCell ⟨P, k + 2, none⟩ c).setCell ⟨P, k + 3, none⟩ d
def set5 (w : World) (P k : Nat) (x a b c d : Value) : World := set4 (w.setCell ⟨P, k, none⟩ x) P (k + 1) a b c d
theorem set4_other (w : World) (P k : Nat) (a b c d : Value) {j : Nat} (h : j ≠ P) : (set4 w P k a b c d).heap[j]? = w.heap[j]? := by
  unfold set4
  rw [heap_setCell_other _ _ _ _ h, heap_setCell_other _ _ _ _ h, heap_setCell_other _ _ _ _ h, heap_setCell_other _ _ _ _ h]
theorem addr_ne {P j k : Nat} (h : j ≠ k) : (⟨P, j, none⟩ : Addr) ≠ ⟨P, k, none⟩ := fun c => h (by have := congrArg Addr.off c; simpa using this)
theorem set4_far (w : World) (P k : Nat) (a b c d : Value) {j : Nat} (h : j < k ∨ k + 3 < j) : (set4 w P k a b c d).cell? ⟨P, j, none⟩ = w.cell? ⟨P, j, none⟩ := by
  unfold set4
  rw [World.cell?_setCell_other _ _ _ _ (addr_ne (by omega)), World.cell?_setCell_other _ _ _ _ (addr_ne (by omega)), World.cell?_setCell_other _ _ _ _ (addr_ne (by omega)), World.cell?_setCell_other _ _ _ _ (addr_ne (by omega))]
theorem set4_frz (w : World) (P k : Nat) (a b c d : Value) (j : Nat) : (set4 w P k a b c d).frozen? ⟨P, j, none⟩ = w.frozen? ⟨P, j, none⟩ := by
  unfold set4
  rw [World.frozen?_setCell, World.frozen?_setCell, World.frozen?_setCell, World.frozen?_setCell]
theorem set4_near {w : World} {P k : Nat} (a b c d : Value) {a' b' c' d' : Value} (h0 : w.cell? ⟨P, k, none⟩ = some a') (h1 : w.cell? ⟨P, k + 1, none⟩ = some b') (h2 : w.cell? ⟨P, k + 2, none⟩ = some c') (h3 : w.cell? ⟨P, k + 3, none⟩ = some d') :
    (set4 w P k a b c d).cell? ⟨P, k, none⟩ = some a ∧ (set4 w P k a b c d).cell? ⟨P, k + 1, none⟩ = some b ∧ (set4 w P k a b c d).cell? ⟨P, k + 2, none⟩ = some c ∧ (set4 w P k a b c d).cell? ⟨P, k + 3, none⟩ = some d := by
  unfold set4
  have e0 := World.cell?_setCell_same w ⟨P, k, none⟩ a h0
  have e1 := World.cell?_setCell_same (w.setCell ⟨P, k, none⟩ a) ⟨P, k + 1, none⟩ b (by rw [World.cell?_setCell_other _ _ _ _ (addr_ne (by omega))]; exact h1)
  have e2 := World.cell?_setCell_same ((w.setCell ⟨P, k, none⟩ a).setCell ⟨P, k + 1, none⟩ b) ⟨P, k + 2, none⟩ c (by rw [World.cell?_setCell_other _ _ _ _ (addr_ne (by omega)), World.cell?_setCell_other _ _ _ _ (addr_ne (by omega))]; exact h2)
  have e3 := World.cell?_setCell_same (((w.setCell ⟨P, k, none⟩ a).setCell ⟨P, k + 1, none⟩ b).setCell ⟨P, k + 2, none⟩ c) ⟨P, k + 3, none⟩ d (by rw [World.cell?_setCell_other _ _ _ _ (addr_ne (by omega)), World.cell?_setCell_other _ _ _ _ (addr_ne (by omega)), World.cell?_setCell_other _ _ _ _ (addr_ne (by omega))]; exact h3)
  refine ⟨?_, ?_, ?_, e3⟩
  · rw [World.cell?_setCell_other _ _ _ _ (addr_ne (by omega)), World.cell?_setCell_other _ _ _ _ (addr_ne (by omega)), World.cell?_setCell_other _ _ _ _ (addr_ne (by omega))]; exact e0
  · rw [World.cell?_setCell_other _ _ _ _ (addr_ne (by omega)), World.cell?_setCell_other _ _ _ _ (addr_ne (by omega))]; exact e1
  · rw [World.cell?_setCell_other _ _ _ _ (addr_ne (by omega))]; exact e2
theorem set4_n32 {w : World} {P k : Nat} (a b c d : Value) {a' b' c' d' : Value} (h0 : w.cell? ⟨P, k, none⟩ = some a') (h1 : w.cell? ⟨P, k + 1, none⟩ = some b') (h2 : w.cell? ⟨P, k + 2, none⟩ = some c') (h3 : w.cell? ⟨P, k + 3, none⟩ = some d')
    (hn : ∀ j x, w.cell? ⟨P, j, none⟩ ≠ some (.int .u32 x)) (ha : ∀ x, a ≠ .int .u32 x) (hb : ∀ x, b ≠ .int .u32 x) (hc : ∀ x, c ≠ .int .u32 x) (hd : ∀ x, d ≠ .int .u32 x) (j : Nat) (x : Int) : (set4 w P k a b c d).cell? ⟨P, j, none⟩ ≠ some (.int .u32 x) := by
  obtain ⟨n0, n1, n2, n3⟩ := set4_near a b c d h0 h1 h2 h3
  by_cases hf : j < k ∨ k + 3 < j
  · rw [set4_far _ _ _ _ _ _ _ hf]; exact hn j x
  · obtain e | e | e | e : j = k ∨ j = k + 1 ∨ j = k + 2 ∨ j = k + 3 := by omega
    · subst e; rw [n0]; exact fun c => ha x (Option.some.inj c)
    · subst e; rw [n1]; exact fun c => hb x (Option.some.inj c)
    · subst e; rw [n2]; exact fun c => hc x (Option.some.inj c)
    · subst e; rw [n3]; exact fun c => hd x (Option.some.inj c)
theorem set4_below {w0 w : World} {base P : Nat} (k : Nat) (a b c d : Value) (h : Below base w0 w) (hP : base ≤ P) : Below base w0 (set4 w P k a b c d) :=
  (((h.setCell (p := ⟨P, k, none⟩) hP a).setCell (p := ⟨P, k + 1, none⟩) hP b).setCell (p := ⟨P, k + 2, none⟩) hP c).setCell (p := ⟨P, k + 3, none⟩) hP d
theorem set5_below {w0 w : World} {base P : Nat} (k : Nat) (x a b c d : Value) (h : Below base w0 w) (hP : base ≤ P) : Below base w0 (set5 w P k x a b c d) :=
  set4_below _ _ _ _ _ (h.setCell (p := ⟨P, k, none⟩) hP x) hP
theorem PS.setRow {w : World} {base P : Nat} {X : Nat → Nat} {o r : Nat → Option Int} (h : PS w base P X o r) {i : Nat} (hi : i < 4) {nb : Bool} {ao : Option Addr} {l c : Nat} {e : Int} {q : Option Int} (hq : ∀ z, q = some z → NumC w (.agg #[.bool nb, .slice ao l c, .int .i64 e]) 2240 2560 z) :
    PS (set4 w P (i * 5 + 1) (.bool nb) (.slice ao l c) (.int .i64 e) (.bool q.isNone)) base P X o (updF r i q) := by
  have hk : ∀ v z, NumC w v 2240 2560 z → NumC (set4 w P (i * 5 + 1) (.bool nb) (.slice ao l c) (.int .i64 e) (.bool q.isNone)) v 2240 2560 z := fun v z hz => hz.other (fun b => b = P) (fun B hB => by subst hB; exact h.n32) (fun b _ hne => set4_other _ _ _ _ _ _ _ hne)
  obtain ⟨nb0, ao0, l0, c0, e0, k⟩ := h.row i hi
  obtain ⟨n0, n1, n2, n3⟩ := set4_near (.bool nb) (.slice ao l c) (.int .i64 e) (.bool q.isNone) k.c1 k.c2 k.c3 k.c4
  refine ⟨fun j hj => (h.acc j hj).heap (set4_other _ _ _ _ _ _ _ (h.ne j hj)), h.inj, h.ge, h.geP, h.ne, fun j hj => ?_, fun j => (set4_frz _ _ _ _ _ _ _ j).trans (h.frz j), set4_n32 _ _ _ _ k.c1 k.c2 k.c3 k.c4 h.n32 (fun _ => by simp) (fun _ => by simp) (fun _ => by simp) (fun _ => by simp)⟩
  by_cases ej : j = i
  · subst ej
    rw [updF_same]
    exact ⟨nb, ao, l, c, e, ⟨(set4_far _ _ _ _ _ _ _ (by omega)).trans k.c0, n0, n1, n2, n3, fun z hz => hk _ _ (hq z hz)⟩⟩
  · rw [updF_other _ _ _ ej]
    obtain ⟨nb1, ao1, l1, c1, e1, k1⟩ := h.row j hj
    exact ⟨nb1, ao1, l1, c1, e1, ⟨(set4_far _ _ _ _ _ _ _ (by omega)).trans k1.c0, (set4_far _ _ _ _ _ _ _ (by omega)).trans k1.c1, (set4_far _ _ _ _ _ _ _ (by omega)).trans k1.c2, (set4_far _ _ _ _ _ _ _ (by omega)).trans k1.c3, (set4_far _ _ _ _ _ _ _ (by omega)).trans k1.c4, fun z hz => hk _ _ (k1.num z hz)⟩⟩
/-- A pointer is written. -/
theorem PS.setPtr {w : World} {base P : Nat} {X : Nat → Nat} {o r : Nat → Option Int} (h : PS w base P X o r) {i : Nat} (hi : i < 4) {x : Nat} {q : Option Int} (ha : AccO w x q) (hx : base ≤ x) (hxP : x ≠ P) (hne : ∀ j, j < 4 → X j ≠ x) :
    PS (w.setCell ⟨P, i * 5, none⟩ (.pointer (some ⟨x, 0, none⟩))) base P (updF X i x) (updF o i q) r := by
  have ho : ∀ b, b ≠ P → (w.setCell ⟨P, i * 5, none⟩ (.pointer (some ⟨x, 0, none⟩))).heap[b]? = w.heap[b]? := fun b hb => heap_setCell_other _ _ _ _ hb
  have hk : ∀ v z, NumC w v 2240 2560 z → NumC (w.setCell ⟨P, i * 5, none⟩ (.pointer (some ⟨x, 0, none⟩))) v 2240 2560 z := fun v z hz => hz.other (fun b => b = P) (fun B hB => by subst hB; exact h.n32) (fun b _ hne => ho b hne)
  obtain ⟨nb0, ao0, l0, c0, e0, k⟩ := h.row i hi
  have s0 := World.cell?_setCell_same w ⟨P, i * 5, none⟩ (.pointer (some ⟨x, 0, none⟩)) k.c0
  have sf : ∀ j, j ≠ i * 5 → (w.setCell ⟨P, i * 5, none⟩ (.pointer (some ⟨x, 0, none⟩))).cell? ⟨P, j, none⟩ = w.cell? ⟨P, j, none⟩ := fun j hj => World.cell?_setCell_other _ _ _ _ (addr_ne (by omega))
  refine ⟨fun j hj => ?_, fun j j' hj hj' he => ?_, fun j hj => ?_, h.geP, fun j hj => ?_, fun j hj => ?_, fun j => (World.frozen?_setCell _ _ _ _).trans (h.frz j), fun j y => ?_⟩
  · by_cases ej : j = i
    · subst ej; rw [updF_same, updF_same]; exact ha.heap (ho x hxP)
    · rw [updF_other _ _ _ ej, updF_other _ _ _ ej]; exact (h.acc j hj).heap (ho _ (h.ne j hj))
  · by_cases ej : j = i <;> by_cases ej' : j' = i
    · omega
    · subst ej; rw [updF_same, updF_other _ _ _ ej'] at he; exact absurd he.symm (hne j' hj')
    · subst ej'; rw [updF_same, updF_other _ _ _ ej] at he; exact absurd he (hne j hj)
    · rw [updF_other _ _ _ ej, updF_other _ _ _ ej'] at he; exact h.inj j j' hj hj' he
  · by_cases ej : j = i
    · subst ej; rw [updF_same]; exact hx
    · rw [updF_other _ _ _ ej]; exact h.ge j hj
  · by_cases ej : j = i
    · subst ej; rw [updF_same]; exact hxP
    · rw [updF_other _ _ _ ej]; exact h.ne j hj
  · by_cases ej : j = i
    · subst ej
      rw [updF_same]
      exact ⟨nb0, ao0, l0, c0, e0, ⟨s0, (sf _ (by omega)).trans k.c1, (sf _ (by omega)).trans k.c2, (sf _ (by omega)).trans k.c3, (sf _ (by omega)).trans k.c4, fun z hz => hk _ _ (k.num z hz)⟩⟩
    · rw [updF_other _ _ _ ej]
      obtain ⟨nb1, ao1, l1, c1, e1, k1⟩ := h.row j hj
      exact ⟨nb1, ao1, l1, c1, e1, ⟨(sf _ (by omega)).trans k1.c0, (sf _ (by omega)).trans k1.c1, (sf _ (by omega)).trans k1.c2, (sf _ (by omega)).trans k1.c3, (sf _ (by omega)).trans k1.c4, fun z hz => hk _ _ (k1.num z hz)⟩⟩
  · by_cases ej : j = i * 5
    · subst ej; rw [s0]; simp
    · rw [sf j ej]; exact h.n32 j y
theorem PS.setAll {w : World} {base P : Nat} {X : Nat → Nat} {o r : Nat → Option Int} (h : PS w base P X o r) {i : Nat} (hi : i < 4) {x : Nat} {q : Option Int} (ha : AccO w x q) (hx : base ≤ x) (hxP : x ≠ P) (hne : ∀ j, j < 4 → X j ≠ x) {nb : Bool} {ao : Option Addr} {l c : Nat} {e : Int} {p : Option Int} (hq : ∀ z, p = some z → NumC w (.agg #[.bool nb, .slice ao l c, .int .i64 e]) 2240 2560 z) :
    PS (set5 w P (i * 5) (.pointer (some ⟨x, 0, none⟩)) (.bool nb) (.slice ao l c) (.int .i64 e) (.bool p.isNone)) base P (updF X i x) (updF o i q) (updF r i p) := by
  refine (h.setPtr hi ha hx hxP hne).setRow hi fun z hz => ?_
  exact (hq z hz).other (fun b => b = P) (fun B hB => by subst hB; exact h.n32) (fun b _ hne => heap_setCell_other _ _ _ _ hne)
end Go.Proofs.Ytajopgndpomggaa
