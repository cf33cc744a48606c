import Derived.Test.YtbncdcenckagcaaGreatDI
namespace Go.Proofs.YtbncdcenckagcaaGreat
open Go.RowKit
set_option linter.unusedVariables false
set_option linter.unusedSimpArgs false

/-- What the law holds: x, y the bits, a, b the lists, the box of what is wanted. -/
structure DS (w wr : World) (base D : Nat) (xv yv av bv : Value) (r : Nat × Nat × Bool) (X A : Nat → Nat) (F G : Nat → Nat × Nat × Bool) (n m : Nat) : Prop where
  x : wr.ownsRow base 28 1 xv n (rowL (gI X) n)
  y : wr.ownsRow base 30 3 yv m (rowL (gV F) (m * 3))
  a : wr.ownsRow base 32 1 av (n + 3) (rowL (gF A) (n + 3))
  b : wr.ownsRow base 34 3 bv (m + 2) (rowL (gS G) ((m + 2) * 3))
  d : wr.heap[D]? = some (Obj.cells #[Value.int .u64 (r.1 : Int), .int .u64 (r.2.1 : Int), .bool r.2.2] 30)
  below : Below base w wr
theorem DS.later {w wr wx : World} {base D : Nat} {xv yv av bv : Value} {r : Nat × Nat × Bool} {X A : Nat → Nat} {F G : Nat → Nat × Nat × Bool} {n m : Nat} (h : DS w wr base D xv yv av bv r X A F G n m) (hb : Below wr.heap.size wr wx) (hz : base ≤ wr.heap.size) : DS w wx base D xv yv av bv r X A F G n m :=
  ⟨ownD_later h.x hb, ownD_later h.y hb, ownD_later h.a hb, ownD_later h.b hb, keep0 h.d hb, h.below.trans (hb.mono hz)⟩
theorem sumT_congr {f g : Nat → Int} : ∀ {n : Nat}, (∀ j, j < n → f j = g j) → sumT f n = sumT g n
  | 0, _ => rfl
  | n + 1, h => by rw [sumT, sumT, sumT_congr (fun j hj => h j (by omega)), h n (by omega)]
theorem DotR.congr {U V : Nat → Nat} {F G : Nat → Nat × Nat × Bool} {n m E : Nat} {r : Nat × Nat × Bool} (hU : ∀ j, j < n → U j = V j) (hF : ∀ j, j < m → F j = G j) (h : DotR U F n m E r) : DotR V G n m E r := by
  unfold DotR at h ⊢
  have hc : (n = m ∧ AllGood F m ∧ ∀ j, j < n → Fin (U j)) ↔ (n = m ∧ AllGood G m ∧ ∀ j, j < n → Fin (V j)) := by
    unfold AllGood
    constructor
    · rintro ⟨a, b, c⟩
      exact ⟨a, fun j hj => by rw [← hF j hj]; exact b j hj, fun j hj => by rw [← hU j hj]; exact c j hj⟩
    · rintro ⟨a, b, c⟩
      exact ⟨a, fun j hj => by rw [hF j hj]; exact b j hj, fun j hj => by rw [hU j hj]; exact c j hj⟩
  by_cases hx : n = m ∧ AllGood F m ∧ ∀ j, j < n → Fin (U j)
  · rw [if_pos hx] at h
    rw [if_pos (hc.1 hx)]
    have e : ∀ d, dsum d U F n = dsum d V G n := fun d => sumT_congr fun j hj => by rw [hU j hj, hF j (by rw [← hx.1]; exact hj)]
    rw [e, e] at h
    exact h
  · rw [if_neg hx] at h
    rw [if_neg (fun c => hx (hc.2 c))]
    exact h
theorem Tryz.elemFD : Tryz.prog.elem 22 = 32 := by kernel_rfl
theorem Tryz.elemSD : Tryz.prog.elem 23 = 34 := by kernel_rfl
theorem sizeFD (w : World) : (sizeOf 32).run Tryz.prog w = .ok 1 w := by kernel_rfl
theorem sizeSD (w : World) : (sizeOf 34).run Tryz.prog w = .ok 3 w := by kernel_rfl
theorem cutFD (g k cap q : Nat) (hq : q ≤ cap) (hm : cap ≤ maxLen) (w : World) : (Instr.slice 22 (.slice (some ⟨g, 0, none⟩) k cap) none (some (.int .i64 (q : Int))) none).run Tryz.prog w = .ok (.slice (some ⟨g, 0, none⟩) q cap) w := by
  simp only [maxLen] at hm
  rw [run_slice_h w _ _ _ _ (by rw [Tryz.elemFD]; exact Tryz.underlying22) .i64 q (by omega) (by omega), Tryz.elemFD, sizeFD]
  simp [Result.andThen, sliced, Addr.add_lit]
theorem cutSD (g k cap q : Nat) (hq : q ≤ cap) (hm : cap ≤ maxLen) (w : World) : (Instr.slice 23 (.slice (some ⟨g, 0, none⟩) k cap) none (some (.int .i64 (q : Int))) none).run Tryz.prog w = .ok (.slice (some ⟨g, 0, none⟩) q cap) w := by
  simp only [maxLen] at hm
  rw [run_slice_h w _ _ _ _ (by rw [Tryz.elemSD]; exact Tryz.underlying23) .i64 q (by omega) (by omega), Tryz.elemSD, sizeSD]
  simp [Result.andThen, sliced, Addr.add_lit]
theorem ex_slice {ρ : Operand → Value} (o : Oper) (t : TypeId) (x y : Operand) (ho : o.op = .slice t x none (some y) none) (e : TypeId) (xa : Option Addr) (xl xc : Nat) (v s : Value) (hx : ρ x = .slice xa xl xc) (hy : ρ y = v) (w : World) (hu : (underlying t).run Tryz.prog w = .ok (.slice e) w) (h : (Instr.slice t (.slice xa xl xc) none (some v) none).run Tryz.prog w = .ok s w) : (execOp ρ o).run Tryz.prog w = .ok (.value s) w := by
  unfold execOp
  simp only [ho, hx, hy, Option.map_none, Option.map_some, Instr.sliceAt]
  simp [go_sem, hu, h, Result.andThen]
set_option maxRecDepth 100000 in
theorem ex_loadR {ρ : Operand → Value} (o : Oper) (p : Operand) (ho : o.op = .load 30 p) (B : Nat) (hp : ρ p = .pointer (some ⟨B, 0, none⟩)) (w : World) (x y : Int) (b : Bool) (h : w.heap[B]? = some (Obj.cells #[Value.int .u64 x, .int .u64 y, .bool b] 30)) : (execOp ρ o).run Tryz.prog w = .ok (.value (.agg #[.int .u64 x, .int .u64 y, .bool b])) w := by
  obtain ⟨x0, x1, x2⟩ := cells3 h
  simp only [execOp, ho, hp]
  simp [go_sem, x0, x1, x2, Result.andThen]
/-- The lists as they are handed in to Dot. -/
theorem DS.rds {w wr : World} {base D : Nat} {xv yv : Value} {ga gb ac bc : Nat} {r : Nat × Nat × Bool} {X A : Nat → Nat} {F G : Nat → Nat × Nat × Bool} {n m : Nat} (h : DS w wr base D xv yv (.slice (some ⟨ga, 0, none⟩) (n + 3) ac) (.slice (some ⟨gb, 0, none⟩) (m + 2) bc) r X A F G n m) (hA : ∀ j, j < n → A j = X j) (hG : ∀ j, j < m → G j = F j) (hX : ∀ j, j < n → X j < 18446744073709551616) (hF : ∀ j, j < m → (F j).1 < 18446744073709551616 ∧ (F j).2.1 < 18446744073709551616) :
    RdG wr (some ⟨ga, 0, none⟩) n ac X ∧ RdS wr (some ⟨gb, 0, none⟩) m bc F ∧ n + 3 ≤ ac ∧ m + 2 ≤ bc ∧ ac ≤ maxLen ∧ bc ≤ maxLen := by
  obtain ⟨g1, c1, e1, -, l1, m1, k1⟩ := own_rowL (size := 1) (by rw [Nat.mul_one]; exact h.a) (by omega)
  obtain ⟨g2, c2, e2, -, l2, m2, k2⟩ := own_rowL h.b (by omega)
  simp only [Value.slice.injEq, Option.some.injEq, Addr.mk.injEq, and_true, true_and] at e1 e2
  obtain ⟨rfl, rfl⟩ := e1
  obtain ⟨rfl, rfl⟩ := e2
  refine ⟨⟨by omega, m1, hX, .inr ⟨_, 0, rfl, fun j hj => ?_⟩⟩, ⟨by omega, m2, hF, .inr ⟨_, 0, rfl, fun j hj => ?_⟩⟩, l1, l2, m1, m2⟩
  · rw [Nat.zero_add, k1 j (by omega), gF, hA j hj]
  · obtain ⟨a, b, c⟩ := gS_at G j
    rw [Nat.zero_add, k2 _ (by omega), k2 _ (by omega), k2 _ (by omega), a, b, c, hG j hj]
    exact ⟨rfl, rfl, rfl⟩
theorem DS.dot {w wr : World} {base D : Nat} {xv yv : Value} {ga gb ac bc : Nat} {r : Nat × Nat × Bool} {X A : Nat → Nat} {F G : Nat → Nat × Nat × Bool} {n m : Nat} (h : DS w wr base D xv yv (.slice (some ⟨ga, 0, none⟩) (n + 3) ac) (.slice (some ⟨gb, 0, none⟩) (m + 2) bc) r X A F G n m) (hA : ∀ j, j < n → A j = X j) (hG : ∀ j, j < m → G j = F j) (hX : ∀ j, j < n → X j < 18446744073709551616) (hF : ∀ j, j < m → (F j).1 < 18446744073709551616 ∧ (F j).2.1 < 18446744073709551616) (E : Nat) (hE : E = 1074) :
    Calls Tryz.prog 8 #[.slice (some ⟨ga, 0, none⟩) n ac, .slice (some ⟨gb, 0, none⟩) m bc] wr fun e w' => ∃ r', e = .returned (.agg #[.float .f64 r'.1, .float .f64 r'.2.1, .bool r'.2.2]) ∧ DotR X F n m E r' ∧ Below wr.heap.size wr w' := by
  obtain ⟨h1, h2, -⟩ := h.rds hA hG hX hF
  exact spDot_any _ _ n m ac bc X F wr h1 h2 E hE
theorem DS.open {w wr : World} {base D : Nat} {xv yv av bv : Value} {r : Nat × Nat × Bool} {X A : Nat → Nat} {F G : Nat → Nat × Nat × Bool} {n m : Nat} (h : DS w wr base D xv yv av bv r X A F G n m) : ∃ ga ac gb bc, av = .slice (some ⟨ga, 0, none⟩) (n + 3) ac ∧ bv = .slice (some ⟨gb, 0, none⟩) (m + 2) bc := by
  obtain ⟨g1, c1, e1, -⟩ := own_rowL (size := 1) (by rw [Nat.mul_one]; exact h.a) (by omega)
  obtain ⟨g2, c2, e2, -⟩ := own_rowL h.b (by omega)
  exact ⟨g1, c1, g2, c2, e1, e2⟩
theorem Ua_low {U : Nat → Nat} {n : Nat} : ∀ j, j < n → Ua U n j = U j := fun j hj => by unfold Ua; rw [if_pos hj]
theorem Fa_low {F : Nat → Nat × Nat × Bool} {n : Nat} : ∀ j, j < n → Fa F n j = F j := fun j hj => by unfold Fa; rw [if_pos hj]
end Go.Proofs.YtbncdcenckagcaaGreat
