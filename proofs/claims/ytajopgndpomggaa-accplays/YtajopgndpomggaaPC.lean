import Derived.Test.YtajopgndpomggaaPA
namespace Go.Proofs.Ytajopgndpomggaa
open Go.RowKit
set_option linter.unusedVariables false

/-- One step of the law's script. -/
structure StV where
  kd : Int
  i : Int
  j : Int
  a : Nat
  b : Nat
  n : Int
/-- THE SLICE OF Steps '.slice ao len cap' READS AS F. -/
structure RdSt (w : World) (ao : Option Addr) (len cap : Nat) (F : Nat → StV) : Prop where
  le : len ≤ cap
  max : cap ≤ maxLen
  lt : ∀ k, k < len → (F k).a < 18446744073709551616 ∧ (F k).b < 18446744073709551616
  cells : len = 0 ∨ ∃ b off, ao = some ⟨b, off, none⟩ ∧ ∀ k, k < len → w.cell? ⟨b, off + k * 6, none⟩ = some (.int .i64 (F k).kd) ∧ w.cell? ⟨b, off + k * 6 + 1, none⟩ = some (.int .i64 (F k).i) ∧ w.cell? ⟨b, off + k * 6 + 2, none⟩ = some (.int .i64 (F k).j) ∧ w.cell? ⟨b, off + k * 6 + 3, none⟩ = some (.int .u64 ((F k).a : Int)) ∧ w.cell? ⟨b, off + k * 6 + 4, none⟩ = some (.int .u64 ((F k).b : Int)) ∧ w.cell? ⟨b, off + k * 6 + 5, none⟩ = some (.int .i64 (F k).n)
theorem RdSt.later {w w' : World} {ao : Option Addr} {len cap : Nat} {F : Nat → StV} (h : RdSt w ao len cap F) (hb : Below w.heap.size w w') : RdSt w' ao len cap F := by
  refine ⟨h.le, h.max, h.lt, ?_⟩
  rcases h.cells with h0 | ⟨b, off, ha, hc⟩
  · exact .inl h0
  · refine .inr ⟨b, off, ha, fun k hk => ?_⟩
    obtain ⟨h0, h1, h2, h3, h4, h5⟩ := hc k hk
    have hl := World.block_lt_of_cell? w _ h0
    exact ⟨(hb.cell (p := ⟨b, _, none⟩) hl).trans h0, (hb.cell (p := ⟨b, off + k * 6 + 1, none⟩) hl).trans h1, (hb.cell (p := ⟨b, off + k * 6 + 2, none⟩) hl).trans h2, (hb.cell (p := ⟨b, off + k * 6 + 3, none⟩) hl).trans h3, (hb.cell (p := ⟨b, off + k * 6 + 4, none⟩) hl).trans h4, (hb.cell (p := ⟨b, off + k * 6 + 5, none⟩) hl).trans h5⟩
theorem six_cells {W : World} {B : Nat} {v0 v1 v2 v3 v4 v5 : Value} {t : TypeId} (h : W.heap[B]? = some (.cells #[v0, v1, v2, v3, v4, v5] t)) :
    W.cell? ⟨B, 0, none⟩ = some v0 ∧ W.cell? ⟨B, 1, none⟩ = some v1 ∧ W.cell? ⟨B, 2, none⟩ = some v2 ∧ W.cell? ⟨B, 3, none⟩ = some v3 ∧ W.cell? ⟨B, 4, none⟩ = some v4 ∧ W.cell? ⟨B, 5, none⟩ = some v5 :=
  ⟨cell_of_row _ _ 0 _ _ _ h, cell_of_row _ _ 1 _ _ _ h, cell_of_row _ _ 2 _ _ _ h, cell_of_row _ _ 3 _ _ _ h, cell_of_row _ _ 4 _ _ _ h, cell_of_row _ _ 5 _ _ _ h⟩
/-- The four pairs, and the step in a variable. -/
structure SS (w : World) (b base P : Nat) (X : Nat → Nat) (o r : Nat → Option Int) (s : StV) : Prop where
  ps : PS w base P X o r
  st : w.heap[b]? = some (.cells #[.int .i64 s.kd, .int .i64 s.i, .int .i64 s.j, .int .u64 (s.a : Int), .int .u64 (s.b : Int), .int .i64 s.n] 38)
  bP : b ≠ P
  bX : ∀ i, i < 4 → b ≠ X i
theorem SS.later {w w' : World} {b base P : Nat} {X : Nat → Nat} {o r : Nat → Option Int} {s : StV} (h : SS w b base P X o r s) (hb : Below w.heap.size w w') : SS w' b base P X o r s :=
  ⟨h.ps.later hb, (hb.block b (Array.getElem?_eq_some_iff.1 h.st).1).trans h.st, h.bP, h.bX⟩
theorem SS.blt {w : World} {b base P : Nat} {X : Nat → Nat} {o r : Nat → Option Int} {s : StV} (h : SS w b base P X o r s) : b < w.heap.size := (Array.getElem?_eq_some_iff.1 h.st).1
theorem SS.drew {w : World} {b base P : Nat} {X : Nat → Nat} {o r : Nat → Option Int} {s : StV} (h : SS w b base P X o r s) : SS w.drew b base P X o r s := h.later (Below.refl _ _).drew
theorem SS.setAcc {w w' : World} {b base P : Nat} {X : Nat → Nat} {o r : Nat → Option Int} {s : StV} (h : SS w b base P X o r s) {i : Nat} (hi : i < 4) {q : Option Int} (hc : Chg (X i) w w') (ha : AccO w' (X i) q) : SS w' b base P X (updF o i q) r s :=
  ⟨h.ps.setAcc hi hc ha, (hc.other b h.blt (h.bX i hi)).trans h.st, h.bP, h.bX⟩
theorem SS.setRow {w : World} {b base P : Nat} {X : Nat → Nat} {o r : Nat → Option Int} {s : StV} (h : SS w b base P X o r s) {i : Nat} (hi : i < 4) {nb : Bool} {ao : Option Addr} {l c : Nat} {e : Int} {q : Option Int} (hq : ∀ z, q = some z → NumC w (.agg #[.bool nb, .slice ao l c, .int .i64 e]) 2240 2560 z) :
    SS (set4 w P (i * 5 + 1) (.bool nb) (.slice ao l c) (.int .i64 e) (.bool q.isNone)) b base P X o (updF r i q) s :=
  ⟨h.ps.setRow hi hq, (set4_other _ _ _ _ _ _ _ h.bP).trans h.st, h.bP, h.bX⟩
theorem SS.chgB {w w' : World} {b base P : Nat} {X : Nat → Nat} {o r : Nat → Option Int} {s : StV} (h : SS w b base P X o r s) {i : Nat} (hi : i < 4) {w0 : World} (hb : Below base w0 w) (hc : Chg (X i) w w') : Below base w0 w' := hb.trans (hc.below.mono (h.ps.ge i hi))
/-- What step leaves. -/
def StepR (w : World) (base P : Nat) (e : Ending) (w' : World) : Prop := e = .returned (.bool true) ∧ (∃ X o, PS w' base P X o o) ∧ Below base w w'
theorem SS.new {w : World} {base P : Nat} {X : Nat → Nat} {o r : Nat → Option Int} (h : PS w base P X o r) (s : StV) :
    SS (w.alloc (.cells #[.int .i64 s.kd, .int .i64 s.i, .int .i64 s.j, .int .u64 (s.a : Int), .int .u64 (s.b : Int), .int .i64 s.n] 38)) w.heap.size base P X o r s := by
  have hb := (Below.refl _ w).alloc (Nat.le_refl _) (.cells #[.int .i64 s.kd, .int .i64 s.i, .int .i64 s.j, .int .u64 (s.a : Int), .int .u64 (s.b : Int), .int .i64 s.n] 38)
  exact ⟨h.later hb, heap_alloc_new w _, fun c => by have := h.lt; omega, fun i hi c => by have := (h.acc i hi).block; omega⟩
theorem PS.base_le {w : World} {base P : Nat} {X : Nat → Nat} {o r : Nat → Option Int} (h : PS w base P X o r) : base ≤ w.heap.size := Nat.le_trans h.geP (Nat.le_of_lt h.lt)
theorem PrC.ref {w : World} {P i x : Nat} {o : Option Int} {nb : Bool} {ao : Option Addr} {l c : Nat} {e : Int} (h : PrC w P i x o nb ao l c e) : RefO w (.agg #[.bool nb, .slice ao l c, .int .i64 e, .bool o.isNone]) o := ⟨nb, ao, l, c, e, rfl, h.num⟩
set_option maxRecDepth 100000 in
theorem spot_any (I : Int) (w : World) : Calls Try.prog 25 #[.int .i64 I] w fun e w' => e = .returned (.int .i64 (bits .and .i64 I 3)) ∧ w' = w := by
  go_enter Try.func25, Try.ntmps25
  go_wp2_with fail
  go_ret
  exact ⟨rfl, rfl⟩
theorem spot_lt (I : Int) : ∃ i : Nat, bits .and .i64 I 3 = (i : Int) ∧ i < 4 := ⟨(I % 4).toNat, by rw [p_and3]; omega, by omega⟩
set_option maxRecDepth 100000 in
theorem accOver_nil (d : Int) (B : Nat) (o : Option Int) (w : World) (hB : AccO w B o) :
    Calls Try.prog 13 #[.pointer (some ⟨B, 0, none⟩), .int .i64 d, .pointer none] w fun e w' => e = .returned (.tuple #[.float .f64 0, .bool false]) ∧ w' = w := by
  have HB : Hid _ := hB
  clear hB
  cases o with
  | none =>
    go_enter Try.func13, Try.ntmps13
    go_wp2_with (first
      | (go_at_call 37; refine (bad_any B none _ HB.out).mono ?_; rintro e w1 ⟨rfl, rfl⟩))
    go_ret2
    exact ⟨rfl, rfl⟩
  | some x =>
    go_enter Try.func13, Try.ntmps13
    go_wp2_with (first
      | (go_at_call 37; refine (bad_any B (some x) _ HB.out).mono ?_; rintro e w1 ⟨rfl, rfl⟩)
      | (go_at_call 24; refine (accSign_nil _).mono ?_; rintro e w1 ⟨rfl, rfl⟩))
    go_ret2
    exact ⟨rfl, rfl⟩
end Go.Proofs.Ytajopgndpomggaa
