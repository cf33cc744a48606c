import Derived.Test.YtogdfdhdmfkmaaaGreatGJc
namespace Go.Proofs.YtogdfdhdmfkmaaaGreat
open Go.RowKit Go.Shelf
set_option linter.unusedVariables false
set_option linter.unusedSimpArgs false

theorem gt0_ord {u : Nat} (hu : Fin u) : (FloatKind.f64.format.order u 0 == some Ordering.gt) = decide (0 < srung u) := by
  have ho := order_rung (x := u) (y := 0) (Nat.le_of_lt hu) (by decide)
  have hs : srung 0 = 0 := by decide
  rw [f64_fmtJ, ho, hs]
  by_cases h : 0 < srung u
  · rw [Int.compare_eq_gt.2 h, decide_eq_true h]; rfl
  · rw [decide_eq_false h]
    by_cases h2 : srung u = 0
    · rw [Int.compare_eq_eq.2 h2]; rfl
    · rw [Int.compare_eq_lt.2 (by omega)]; rfl
end Go.Proofs.YtogdfdhdmfkmaaaGreat


namespace Go.Proofs.YtogdfdhdmfkmaaaGreat
open Go.RowKit Go.Shelf
set_option linter.unusedVariables false
set_option linter.unusedSimpArgs false

end Go.Proofs.YtogdfdhdmfkmaaaGreat


namespace Go.Proofs.YtogdfdhdmfkmaaaGreat
open Go.RowKit Go.Shelf
set_option linter.unusedVariables false
set_option linter.unusedSimpArgs false

theorem res_ctJ (f : Func) (i j : Nat) (ty : TypeId) (hf : f.results = #[ResultVar.cell i ty, ResultVar.tmp j]) (tmps : Array Value) (W : World) (B : Nat) (c : Array Value) (v : Value) (hp : tmps[i]? = some (.pointer (some ⟨B, 0, none⟩))) (hv : tmps[j]? = some v)
    (u : TypeDesc) (hu : Tryz.prog.underlying ty = some u) (hd : u.isRow = true) (n : Nat) (hi : (Tryz.prog.info? ty).map (·.size) = some n)
    (hc : c.size = n) (h : W.heap[B]? = some (.cells c ty)) : (results f tmps).run Tryz.prog W = .ok (.tuple #[.agg c, v]) W := by
  have hr : W.rangeAt B 0 c.toList := by
    have := World.rangeAt_of_block h 0 c.size
    simpa using this
  have hl := run_loadVar_mid (P := Tryz.prog) W B 0 ty c.toList _ hr hu hd (by rw [hi]; simp [hc])
  have hl2 : (loadVar ty ⟨B, 0, none⟩).run Tryz.prog W = .ok (.agg c) W := by simpa using hl
  simp [results, hf, hp, hv, hl2, asAddr]
end Go.Proofs.YtogdfdhdmfkmaaaGreat


namespace Go.Proofs.YtogdfdhdmfkmaaaGreat
open Go.RowKit Go.Shelf
set_option linter.unusedVariables false
set_option linter.unusedSimpArgs false

theorem wpList_load_rowG {P : Program} {ops : Array Oper} {rest : List Oper} {op : Oper} {a : Act} {w : World} {Q : Exit → Act → World → Prop} (hgd : Region.wanted op (yielded ops a.tmps) = true) (ty : TypeId) (x : Operand) (ho : op.op = .load ty x)
    (B : Nat) (c : Array Value) (hx : a.eval x = .pointer (some ⟨B, 0, none⟩)) (hB : w.heap[B]? = some (.cells c ty)) (d : TypeDesc) (hu : P.underlying ty = some d) (hd : d.isRow = true)
    (n : Nat) (hi : (P.info? ty).map (·.size) = some n) (hn : c.size = n)
    (h : wpList P ops Q rest (a.put op.dst (.agg c)) w) : wpList P ops Q (op :: rest) a w := by
  have hr : w.rangeAt B 0 c.toList := by
    have := World.rangeAt_of_block hB 0 c.size
    simpa using this
  refine wpList_step fun K hK => ?_
  rw [if_pos hgd]
  refine wp_load_mid ty x ho B 0 hx c.toList d hr hu hd (by simpa [hn] using hi) ?_
  refine hK _ _ ?_
  simpa using h
end Go.Proofs.YtogdfdhdmfkmaaaGreat


namespace Go.Proofs.YtogdfdhdmfkmaaaGreat
open Go.RowKit Go.Shelf
set_option linter.unusedVariables false
set_option linter.unusedSimpArgs false

end Go.Proofs.YtogdfdhdmfkmaaaGreat


namespace Go.Proofs.YtogdfdhdmfkmaaaGreat
open Go.RowKit Go.Shelf
set_option linter.unusedVariables false
set_option linter.unusedSimpArgs false

/-- The document's empty: what a bad one's bits must be. -/
def emptyB (bad : Bool) (N : Int) (cn dn gn rn : Nat) : Bool := bad && decide (0 ≤ N) && decide (N ≤ 256) && decide (cn + dn + gn + rn = 0)
set_option maxRecDepth 100000 in
set_option maxHeartbeats 1000000 in
theorem refEmpty_any (N : Int) (co io go ro : Option Addr) (cn cc dn dc gn gc rn rc : Nat) (bad : Bool) (h1 : cn ≤ 1000000000) (h2 : dn ≤ 1000000000) (h3 : gn ≤ 1000000000) (h4 : rn ≤ 1000000000) (w : World) :
    Calls Tryz.prog 42 #[.agg #[.int .i64 N, .slice co cn cc, .slice io dn dc, .slice go gn gc, .slice ro rn rc, .bool bad]] w fun e w' => e = .returned (.bool (emptyB bad N cn dn gn rn)) ∧ Below w.heap.size w w' := by
  have HB : Hid (∀ x, Below w.heap.size w (w.alloc x)) := fun x => (Below.refl _ w).alloc (Nat.le_refl _) _
  obtain ⟨eb, heb⟩ : ∃ eb, emptyB bad N cn dn gn rn = eb := ⟨_, rfl⟩
  rw [heb]
  have HE : Hid (eb = (bad && decide (0 ≤ N) && decide (N ≤ 256) && decide (cn + dn + gn + rn = 0))) := heb.symm
  clear heb
  cases bad with
  | false =>
    have HS : Hid (eb = false) := by unfold Hid; rw [HE.out]; rfl
    go_enter Tryz.func42, Tryz.ntmps42
    go_wp2_with fail
    go_ret
    exact ⟨by rw [HS.out]; rfl, HB.out _⟩
  | true =>
    by_cases q0 : 0 ≤ N
    case neg =>
      have d0 : decide (0 ≤ N) = false := decide_eq_false q0
      have HS : Hid (eb = false) := by unfold Hid; rw [HE.out, d0]; rfl
      go_enter Tryz.func42, Tryz.ntmps42
      go_wp2_with fail
      go_ret
      exact ⟨by rw [HS.out]; rfl, HB.out _⟩
    have d0 : decide (0 ≤ N) = true := decide_eq_true q0
    by_cases q1 : N ≤ 256
    case neg =>
      have d1 : decide (N ≤ 256) = false := decide_eq_false q1
      have HS : Hid (eb = false) := by unfold Hid; rw [HE.out, d0, d1]; rfl
      go_enter Tryz.func42, Tryz.ntmps42
      go_wp2_with fail
      go_ret
      exact ⟨by rw [HS.out]; rfl, HB.out _⟩
    have d1 : decide (N ≤ 256) = true := decide_eq_true q1
    have HS : Hid (eb = ((cn : Int) + (dn : Int) + (gn : Int) + (rn : Int) == 0)) := by
      unfold Hid; rw [HE.out, d0, d1]
      by_cases q : cn + dn + gn + rn = 0
      · rw [decide_eq_true q]
        have : (cn : Int) + (dn : Int) + (gn : Int) + (rn : Int) = 0 := by omega
        rw [this]; rfl
      · rw [decide_eq_false q]
        have : ¬ (cn : Int) + (dn : Int) + (gn : Int) + (rn : Int) = 0 := by omega
        simpa using this
    go_enter Tryz.func42, Tryz.ntmps42
    go_wp2_with fail
    go_ret
    exact ⟨by rw [HS.out]; rfl, HB.out _⟩
end Go.Proofs.YtogdfdhdmfkmaaaGreat

