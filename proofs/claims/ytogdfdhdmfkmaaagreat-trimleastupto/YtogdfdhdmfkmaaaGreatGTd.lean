import Derived.Test.YtogdfdhdmfkmaaaGreatGTc
namespace Go.Proofs.YtogdfdhdmfkmaaaGreat
open Go.RowKit Go.Shelf
set_option linter.unusedVariables false
set_option linter.unusedSimpArgs false

/-- The example of chapter 11, wherever its lists lie. -/
def exZ (co : Option Addr) (cc : Nat) (io : Option Addr) (dc : Nat) (go : Option Addr) (gc : Nat) (ro : Option Addr) (rc : Nat) (gv : Nat → Option Addr × Nat × Nat) : ZD :=
  ⟨2, co, 2, cc, io, 4, dc, go, 4, gc, ro, 2, rc, false, [0, 0], [3, 5, 7, 9], gv, [[4607182418800017408, 4607182418800017408], [4611686018427387904, 0], [0, 0], [13830554455654793216, 4611686018427387904]], [0, 4602678819172646912]⟩
theorem rdF2T {W : World} {B x y : Nat} {t : TypeId} (h : W.heap[B]? = some (.cells #[.float .f64 x, .float .f64 y] t)) (hx : x < 18446744073709551616) (hy : y < 18446744073709551616) : RdF W (some ⟨B, 0, none⟩) 2 2 [x, y] := by
  refine ⟨rfl, by decide, fun u hu => ?_, .inr ⟨B, 0, rfl, fun j hj => ?_⟩⟩
  · simp only [List.mem_cons, List.not_mem_nil, or_false] at hu
    rcases hu with rfl | rfl <;> assumption
  · match j, hj with
    | 0, _ => exact cellAtJ h 0 _ rfl
    | 1, _ => exact cellAtJ h 1 _ rfl
theorem rdI4T {W : World} {B : Nat} {a b c d : Int} {t : TypeId} (h : W.heap[B]? = some (.cells #[.int .i64 a, .int .i64 b, .int .i64 c, .int .i64 d] t)) : RdIs W (some ⟨B, 0, none⟩) 4 4 [a, b, c, d] := by
  refine ⟨rfl, by decide, .inr ⟨B, 0, rfl, fun j hj => ?_⟩⟩
  match j, hj with
  | 0, _ => exact cellAtJ h 0 _ rfl
  | 1, _ => exact cellAtJ h 1 _ rfl
  | 2, _ => exact cellAtJ h 2 _ rfl
  | 3, _ => exact cellAtJ h 3 _ rfl
theorem nineT (w : World) (o0 o1 o2 o3 o4 o5 o6 o7 o8 : Obj) : ∃ W, W = ((((((((w.alloc o0).alloc o1).alloc o2).alloc o3).alloc o4).alloc o5).alloc o6).alloc o7).alloc o8 ∧ W.heap[w.heap.size]? = some o0 ∧ W.heap[w.heap.size + 1]? = some o1 ∧ W.heap[w.heap.size + 1 + 1]? = some o2 ∧ W.heap[w.heap.size + 1 + 1 + 1]? = some o3 ∧ W.heap[w.heap.size + 1 + 1 + 1 + 1]? = some o4 ∧ W.heap[w.heap.size + 1 + 1 + 1 + 1 + 1]? = some o5 ∧ W.heap[w.heap.size + 1 + 1 + 1 + 1 + 1 + 1]? = some o6 ∧ W.heap[w.heap.size + 1 + 1 + 1 + 1 + 1 + 1 + 1]? = some o7 ∧ W.heap[w.heap.size + 1 + 1 + 1 + 1 + 1 + 1 + 1 + 1]? = some o8 ∧ Below w.heap.size w W := by
  refine ⟨_, rfl, ?_, ?_, ?_, ?_, ?_, ?_, ?_, ?_, ?_, ?_⟩
  · exact alloc_kept (alloc_kept (alloc_kept (alloc_kept (alloc_kept (alloc_kept (alloc_kept (alloc_kept (heap_alloc_new w _) _) _) _) _) _) _) _) _
  · exact alloc_kept (alloc_kept (alloc_kept (alloc_kept (alloc_kept (alloc_kept (alloc_kept (heap_at _ _ _ (by simp only [alloc_size])) _) _) _) _) _) _) _
  · exact alloc_kept (alloc_kept (alloc_kept (alloc_kept (alloc_kept (alloc_kept (heap_at _ _ _ (by simp only [alloc_size])) _) _) _) _) _) _
  · exact alloc_kept (alloc_kept (alloc_kept (alloc_kept (alloc_kept (heap_at _ _ _ (by simp only [alloc_size])) _) _) _) _) _
  · exact alloc_kept (alloc_kept (alloc_kept (alloc_kept (heap_at _ _ _ (by simp only [alloc_size])) _) _) _) _
  · exact alloc_kept (alloc_kept (alloc_kept (heap_at _ _ _ (by simp only [alloc_size])) _) _) _
  · exact alloc_kept (alloc_kept (heap_at _ _ _ (by simp only [alloc_size])) _) _
  · exact alloc_kept (heap_at _ _ _ (by simp only [alloc_size])) _
  · exact heap_at _ _ _ (by simp only [alloc_size])
  · exact ((((((((((Below.refl _ w).alloc (Nat.le_refl _) _).alloc (by simp only [alloc_size]; omega) _).alloc (by simp only [alloc_size]; omega) _).alloc (by simp only [alloc_size]; omega) _).alloc (by simp only [alloc_size]; omega) _).alloc (by simp only [alloc_size]; omega) _).alloc (by simp only [alloc_size]; omega) _).alloc (by simp only [alloc_size]; omega) _).alloc (by simp only [alloc_size]; omega) _)
set_option maxRecDepth 100000 in
set_option maxHeartbeats 1500000 in
theorem exampleT_any (w : World) :
    Calls Tryz.prog 12 #[] w fun e w' => ∃ co cc io dc go gc ro rc gv, e = .returned (.agg (zRow (exZ co cc io dc go gc ro rc gv))) ∧ ZR w' (exZ co cc io dc go gc ro rc gv) ∧ Below w.heap.size w w' := by
  go_enter Tryz.func12, Tryz.ntmps12
  go_wp2_with fail
  obtain ⟨W, hW, h0, h1, h2, h3, h4, h5, h6, h7, h8, hb⟩ := nineT w (.cells #[.int .i64 2, .slice (some ⟨w.heap.size + 1, 0, none⟩) 2 2, .slice (some ⟨w.heap.size + 1 + 1, 0, none⟩) 4 4, .slice (some ⟨w.heap.size + 1 + 1 + 1 + 1 + 1 + 1 + 1, 0, none⟩) 4 4, .slice (some ⟨w.heap.size + 1 + 1 + 1 + 1 + 1 + 1 + 1 + 1, 0, none⟩) 2 2, .bool false] 26) (.cells #[.float .f64 0, .float .f64 0] 45) (.cells #[.int .i64 3, .int .i64 5, .int .i64 7, .int .i64 9] 3) (.cells #[.float .f64 4607182418800017408, .float .f64 4607182418800017408] 45) (.cells #[.float .f64 4611686018427387904, .float .f64 0] 45) (.cells #[.float .f64 0, .float .f64 0] 45) (.cells #[.float .f64 13830554455654793216, .float .f64 4611686018427387904] 45) (.cells #[.slice (some ⟨w.heap.size + 1 + 1 + 1, 0, none⟩) 2 2, .slice (some ⟨w.heap.size + 1 + 1 + 1 + 1, 0, none⟩) 2 2, .slice (some ⟨w.heap.size + 1 + 1 + 1 + 1 + 1, 0, none⟩) 2 2, .slice (some ⟨w.heap.size + 1 + 1 + 1 + 1 + 1 + 1, 0, none⟩) 2 2] 22) (.cells #[.float .f64 0, .float .f64 4602678819172646912] 45)
  refine bodyPost_ret (res_oneJ _ 0 26 (by kernel_rfl) _ _ w.heap.size #[.int .i64 2, .slice (some ⟨w.heap.size + 1, 0, none⟩) 2 2, .slice (some ⟨w.heap.size + 1 + 1, 0, none⟩) 4 4, .slice (some ⟨w.heap.size + 1 + 1 + 1 + 1 + 1 + 1 + 1, 0, none⟩) 4 4, .slice (some ⟨w.heap.size + 1 + 1 + 1 + 1 + 1 + 1 + 1 + 1, 0, none⟩) 2 2, .bool false] (by rfl) _ Tryz.underlying26 rfl 6 Tryz.infoZ rfl (by rw [← hW]; exact h0)) rfl ?_
  rw [← hW]
  refine ⟨some ⟨w.heap.size + 1, 0, none⟩, 2, some ⟨w.heap.size + 1 + 1, 0, none⟩, 4, some ⟨w.heap.size + 1 + 1 + 1 + 1 + 1 + 1 + 1, 0, none⟩, 4, some ⟨w.heap.size + 1 + 1 + 1 + 1 + 1 + 1 + 1 + 1, 0, none⟩, 2, fun j => if j = 0 then (some ⟨w.heap.size + 1 + 1 + 1, 0, none⟩, 2, 2) else if j = 1 then (some ⟨w.heap.size + 1 + 1 + 1 + 1, 0, none⟩, 2, 2) else if j = 2 then (some ⟨w.heap.size + 1 + 1 + 1 + 1 + 1, 0, none⟩, 2, 2) else (some ⟨w.heap.size + 1 + 1 + 1 + 1 + 1 + 1, 0, none⟩, 2, 2), rfl, ⟨rdF2T h1 (by decide) (by decide), rdI4T h2, ⟨rfl, (by show 4 ≤ maxLen; decide), .inr ⟨_, 0, rfl, fun j hj => ?_⟩, fun j hj => ?_⟩, rdF2T h8 (by decide) (by decide)⟩, hb⟩
  · match j, hj with
    | 0, _ => exact cellAtJ h7 0 _ rfl
    | 1, _ => exact cellAtJ h7 1 _ rfl
    | 2, _ => exact cellAtJ h7 2 _ rfl
    | 3, _ => exact cellAtJ h7 3 _ rfl
  · match j, hj with
    | 0, _ => exact rdF2T h3 (by decide) (by decide)
    | 1, _ => exact rdF2T h4 (by decide) (by decide)
    | 2, _ => exact rdF2T h5 (by decide) (by decide)
    | 3, _ => exact rdF2T h6 (by decide) (by decide)
section
variable (co : Option Addr) (cc : Nat) (io : Option Addr) (dc : Nat) (go : Option Addr) (gc : Nat) (ro : Option Addr) (rc : Nat) (gv : Nat → Option Addr × Nat × Nat)
theorem ex_check : checkB (exZ co cc io dc go gc ro rc gv) = true := by kernel_rfl
theorem ex_pl : plN (lsZ (exZ co cc io dc go gc ro rc gv)) 4 = [1, 2, 0, 3] := by
  refine plN_unique (of_decide_eq_true (by kernel_rfl)) ?_
  have h : ∀ i j, decide (ltL (lsZ (exZ co cc io dc go gc ro rc gv)) i j) = true → ltL (lsZ (exZ co cc io dc go gc ro rc gv)) i j := fun i j h => of_decide_eq_true h
  simp only [List.pairwise_cons, List.mem_cons, List.not_mem_nil, or_false, forall_eq_or_imp, forall_eq, false_implies, implies_true, and_true, List.Pairwise.nil]
  exact ⟨⟨h _ _ (by kernel_rfl), h _ _ (by kernel_rfl), h _ _ (by kernel_rfl)⟩, ⟨h _ _ (by kernel_rfl), h _ _ (by kernel_rfl)⟩, h _ _ (by kernel_rfl)⟩
theorem ex_ord : ordL (exZ co cc io dc go gc ro rc gv) = [5, 7, 3, 9] := by
  unfold ordL
  rw [ex_check, if_pos rfl]
  show (plN (lsZ (exZ co cc io dc go gc ro rc gv)) 4).map _ = _
  rw [ex_pl]
  rfl
theorem ex_goes : goesF (exZ co cc io dc go gc ro rc gv) (((exZ co cc io dc go gc ro rc gv).dn : Int) - max 1 0) = fun j => decide (j ∈ [1, 2, 0]) := by
  funext j
  unfold goesF
  show decide (j ∈ (plN (lsZ (exZ co cc io dc go gc ro rc gv)) 4).take 3) = _
  rw [ex_pl]
  rfl
theorem ex_pickG : pickL (fun j => decide (j ∈ [1, 2, 0])) 4 = [0, 1, 2] := by decide
theorem ex_pickK : pickL (fun j => !decide (j ∈ [1, 2, 0])) 4 = [3] := by decide
theorem ex_far0 : farZ (pkZ (exZ co cc io dc go gc ro rc gv) none 0 none 0 [0, 1, 2]) 0 = some (fval 4613937818241073152 * ((2 ^ 1166 : Nat) : Int)) := of_decide_eq_true (by kernel_rfl)
theorem ex_far1 : farZ (pkZ (exZ co cc io dc go gc ro rc gv) none 0 none 0 [0, 1, 2]) 1 = some (fval 4609434218613702656 * ((2 ^ 1166 : Nat) : Int)) := of_decide_eq_true (by kernel_rfl)
set_option maxRecDepth 100000 in
theorem ex_red {y : ZD} (h : RdC (exZ co cc io dc go gc ro rc gv) 1 y) : y.bad = false ∧ y.ids = [9] ∧ y.rs = [4613937818241073152, 4609434218613702656] := by
  have eG : pickL (goesF (exZ co cc io dc go gc ro rc gv) (((exZ co cc io dc go gc ro rc gv).dn : Int) - max 1 0)) (exZ co cc io dc go gc ro rc gv).gn = [0, 1, 2] := by rw [ex_goes]; exact ex_pickG
  have eK : pickL (fun j => !goesF (exZ co cc io dc go gc ro rc gv) (((exZ co cc io dc go gc ro rc gv).dn : Int) - max 1 0) j) (exZ co cc io dc go gc ro rc gv).gn = [3] := by rw [ex_goes]; exact ex_pickK
  have e0 := ex_far0 co cc io dc go gc ro rc gv
  have e1 := ex_far1 co cc io dc go gc ro rc gv
  rcases h.is with ⟨h1, h2⟩ | ⟨h1, h2, h3⟩ | ⟨h1, h2, ⟨j, u, hj, hr⟩, h3⟩ | ⟨h1, h2, h3, h4, h5, h6, h7, h8, h9⟩
  · rw [ex_check] at h1; cases h1
  · cases h2
  · rw [eG] at hr
    have hj' : j < 2 := hj
    match j, hj' with
    | 0, _ =>
      generalize farZ (pkZ (exZ co cc io dc go gc ro rc gv) none 0 none 0 [0, 1, 2]) 0 = o at hr e0
      have := (rnd_exT (d := 1) (r := 4613937818241073152) (by decide) (by decide) (by decide) e0 hr).2
      cases this
    | 1, _ =>
      generalize farZ (pkZ (exZ co cc io dc go gc ro rc gv) none 0 none 0 [0, 1, 2]) 1 = o at hr e1
      have := (rnd_exT (d := 1) (r := 4609434218613702656) (by decide) (by decide) (by decide) e1 hr).2
      cases this
  · rw [eK] at h6
    rw [eG] at h9
    refine ⟨h4, h6, ?_⟩
    have r0 := h9 0 (show 0 < 2 by decide)
    have r1 := h9 1 (show 1 < 2 by decide)
    generalize farZ (pkZ (exZ co cc io dc go gc ro rc gv) none 0 none 0 [0, 1, 2]) 0 = o at r0 e0
    generalize farZ (pkZ (exZ co cc io dc go gc ro rc gv) none 0 none 0 [0, 1, 2]) 1 = o' at r1 e1
    have q0 := (rnd_exT (d := 1) (r := 4613937818241073152) (by decide) (by decide) (by decide) e0 r0).1
    have q1 := (rnd_exT (d := 1) (r := 4609434218613702656) (by decide) (by decide) (by decide) e1 r1).1
    have hl : y.rs.length = 2 := h8
    match hy : y.rs, hl with
    | [a, b], _ =>
      rw [hy] at q0 q1
      have p0 : a = plainM 4613937818241073152 := q0
      have p1 : b = plainM 4609434218613702656 := q1
      rw [p0, p1]
      have e : ([plainM 4613937818241073152, plainM 4609434218613702656] : List Nat) = [4613937818241073152, 4609434218613702656] := by kernel_rfl
      exact e
end
end Go.Proofs.YtogdfdhdmfkmaaaGreat

namespace Go.Proofs.YtogdfdhdmfkmaaaGreat
open Go.RowKit Go.Shelf
set_option linter.unusedVariables false
set_option linter.unusedSimpArgs false

/-- What Cap tells. -/
def capV (k n : Int) : Int := if 1 ≤ k ∧ k ≤ 8 ∧ 0 ≤ n ∧ n ≤ 256 then (k - 1) * n else 0
theorem cap_wrap {k n : Int} (h1 : 1 ≤ k) (h2 : k ≤ 8) (h3 : 0 ≤ n) (h4 : n ≤ 256) : 0 ≤ (k - 1) * n ∧ (k - 1) * n ≤ 1792 := by
  constructor
  · exact Int.mul_nonneg (by omega) h3
  · have := Int.mul_le_mul (show k - 1 ≤ 7 by omega) h4 h3 (by omega)
    omega
set_option maxRecDepth 100000 in
set_option maxHeartbeats 2000000 in
theorem capT_any (k n : Int) (w : World) : Calls Tryz.prog 14 #[.int .i64 k, .int .i64 n] w fun e w' => e = .returned (.int .i64 (capV k n)) ∧ w' = w := by
  have HV : Hid (capV k n = if 1 ≤ k ∧ k ≤ 8 ∧ 0 ≤ n ∧ n ≤ 256 then (k - 1) * n else 0) := rfl
  by_cases h1 : k < 1
  · have d1 : decide (k < 1) = true := decide_eq_true h1
    have HR : Hid (capV k n = 0) := by unfold Hid; rw [HV.out, if_neg (by omega)]
    clear HV h1
    go_enter Tryz.func14, Tryz.ntmps14
    go_wp2_with fail
    go_ret
    exact ⟨by rw [HR.out]; rfl, rfl⟩
  · have d1 : decide (k < 1) = false := decide_eq_false h1
    by_cases h2 : k > 8
    · have d2 : decide (k > 8) = true := decide_eq_true h2
      have d2' : decide (8 < k) = true := decide_eq_true h2
      have HR : Hid (capV k n = 0) := by unfold Hid; rw [HV.out, if_neg (by omega)]
      clear HV h1 h2
      go_enter Tryz.func14, Tryz.ntmps14
      go_wp2_with fail
      go_ret
      exact ⟨by rw [HR.out]; rfl, rfl⟩
    · have d2 : decide (k > 8) = false := decide_eq_false h2
      have d2' : decide (8 < k) = false := decide_eq_false h2
      by_cases h3 : n < 0
      · have d3 : decide (n < 0) = true := decide_eq_true h3
        have HR : Hid (capV k n = 0) := by unfold Hid; rw [HV.out, if_neg (by omega)]
        clear HV h1 h2 h3
        go_enter Tryz.func14, Tryz.ntmps14
        go_wp2_with fail
        go_ret
        exact ⟨by rw [HR.out]; rfl, rfl⟩
      · have d3 : decide (n < 0) = false := decide_eq_false h3
        by_cases h4 : n > 256
        · have d4 : decide (n > 256) = true := decide_eq_true h4
          have d4' : decide (256 < n) = true := decide_eq_true h4
          have HR : Hid (capV k n = 0) := by unfold Hid; rw [HV.out, if_neg (by omega)]
          clear HV h1 h2 h3 h4
          go_enter Tryz.func14, Tryz.ntmps14
          go_wp2_with fail
          go_ret
          exact ⟨by rw [HR.out]; rfl, rfl⟩
        · have d4 : decide (n > 256) = false := decide_eq_false h4
          have d4' : decide (256 < n) = false := decide_eq_false h4
          have HR : Hid (capV k n = (k - 1) * n) := by unfold Hid; rw [HV.out, if_pos (by omega)]
          obtain ⟨q1, q2⟩ := cap_wrap (k := k) (n := n) (by omega) (by omega) (by omega) (by omega)
          obtain ⟨km, hkm⟩ : ∃ km, k - 1 = km := ⟨_, rfl⟩
          have w1 : IntKind.i64.wrap (k - 1) = km := by rw [← hkm]; simp [IntKind.wrap, IntKind.bits, IntKind.signed]; omega
          rw [hkm] at q1 q2 HR
          have w2 : IntKind.i64.wrap (km * n) = km * n := by
            generalize km * n = p at q1 q2 ⊢
            simp [IntKind.wrap, IntKind.bits, IntKind.signed]; omega
          clear HV
          go_enter Tryz.func14, Tryz.ntmps14
          go_wp2_with fail
          go_ret
          exact ⟨by rw [HR.out]; rfl, rfl⟩
end Go.Proofs.YtogdfdhdmfkmaaaGreat

namespace Go.Proofs.YtogdfdhdmfkmaaaGreat
open Go.RowKit Go.Shelf
set_option linter.unusedVariables false
set_option linter.unusedSimpArgs false
end Go.Proofs.YtogdfdhdmfkmaaaGreat

namespace Go.Proofs.YtogdfdhdmfkmaaaGreat
open Go.RowKit Go.Shelf
set_option linter.unusedVariables false
set_option linter.unusedSimpArgs false

set_option maxRecDepth 100000 in
set_option maxHeartbeats 4000000 in
/-- The examples of the chapter: asked by each statement. -/
theorem told11_any (w : World) : Calls Tryz.prog 4 #[] w fun e w' => e = .returned (.bool true) ∧ Below w.heap.size w w' := by
  have HOr : Hid (∀ (W : World) co cc io dc go gc ro rc gv, ZR W (exZ co cc io dc go gc ro rc gv) → Calls Tryz.prog 11 #[.agg #[.int .i64 2, .slice co 2 cc, .slice io 4 dc, .slice go 4 gc, .slice ro 2 rc, .bool false]] W fun e w' => ∃ ao len cap, e = .returned (.slice ao len cap) ∧ RdIs w' ao len cap [5, 7, 3, 9] ∧ Below W.heap.size W w') := fun W co cc io dc go gc ro rc gv h => by
    have h1 := order_any 1166 rfl (exZ co cc io dc go gc ro rc gv) W h (show 4 ≤ 1050000 by decide)
    rw [ex_ord] at h1
    exact h1
  have HRe : Hid (∀ (W : World) co cc io dc go gc ro rc gv, ZR W (exZ co cc io dc go gc ro rc gv) → Calls Tryz.prog 5 #[.agg #[.int .i64 2, .slice co 2 cc, .slice io 4 dc, .slice go 4 gc, .slice ro 2 rc, .bool false], .int .i64 1] W fun e w' => ∃ N co cn cc io dc go gn gc ro rc gv cs gs, e = .returned (.agg #[.int .i64 N, .slice co cn cc, .slice io 1 dc, .slice go gn gc, .slice ro 2 rc, .bool false]) ∧ ZR w' ⟨N, co, cn, cc, io, 1, dc, go, gn, gc, ro, 2, rc, false, cs, [9], gv, gs, [4613937818241073152, 4609434218613702656]⟩ ∧ Below W.heap.size W w') := fun W co cc io dc go gc ro rc gv h => by
    refine Calls.mono (reduce_any 1166 rfl (exZ co cc io dc go gc ro rc gv) W h (show 4 ≤ 1050000 by decide) 1 (by decide) (by decide)) ?_
    rintro e w' ⟨y, rfl, hz, -, -, hr, hb⟩
    obtain ⟨h1, h2, h3⟩ := ex_red _ _ _ _ _ _ _ _ _ hr
    obtain ⟨N, co, cn, cc, io, dn, dc, go, gn, gc, ro, rn, rc, bad, cs, ids, gv, gs, rs⟩ := y
    dsimp only at h1 h2 h3
    subst h1 h2 h3
    have e1 : 1 = dn := hz.i.length
    have e2 : 2 = rn := hz.r.length
    subst e1 e2
    exact ⟨N, co, cn, cc, io, dc, go, gn, gc, ro, rc, gv, cs, gs, rfl, hz, hb⟩
  have hc35 : capV 3 5 = 10 := by decide
  go_enter Tryz.func4, Tryz.ntmps4
  go_wp2_with fail
  refine Calls.mono (exampleT_any _) ?_
  rintro e w1 ⟨co, cc, io, dc, go, gc, ro, rc, gv, rfl, hz1, b1⟩
  have HZ1 : Hid _ := hz1
  clear hz1
  simp only [zRow, exZ]
  go_wp2_with fail
  refine Calls.mono (HOr.out _ _ _ _ _ _ _ _ _ _ HZ1.out) ?_
  rintro e w2 ⟨lo, ln, lc, rfl, hl, b2⟩
  have HL : Hid (RdIs w2 lo ln lc [5, 7, 3, 9]) := hl
  have hln : 4 = ln := hl.length
  subst hln
  clear hl HZ1
  go_wp2_with fail
  refine Calls.mono (exampleT_any _) ?_
  rintro e w3 ⟨co', cc', io', dc', go', gc', ro', rc', gv', rfl, hz3, b3⟩
  have HZ3 : Hid _ := hz3
  clear hz3
  simp only [zRow, exZ]
  go_wp2_with fail
  refine Calls.mono (HRe.out _ _ _ _ _ _ _ _ _ _ HZ3.out) ?_
  rintro e w4 ⟨N, yo, yn, yc, yi, yd, yg, ygn, ygc, yr, yrc, ygv, ycs, ygs, rfl, hz4, b4⟩
  have HZ4 : Hid _ := hz4
  clear hz4 HZ3
  have B4 : Below w4.heap.size w4 (w4.alloc (.cells #[.int .i64 0, .slice none 0 0, .slice none 0 0, .slice none 0 0, .slice none 0 0, .bool false] 26)) := (Below.refl _ w4).alloc (Nat.le_refl _) _
  go_upto_region 3 with (first
    | (refine wpList_store_row (by rfl) 26 _ _ (by rfl) w4 w4.heap.size w4.heap.size #[.int .i64 N, .slice yo yn yc, .slice yi 1 yd, .slice yg ygn ygc, .slice yr 2 yrc, .bool false] _ (by rfl) (by rfl) (heap_alloc_new w4 _) B4 (Nat.le_refl _) 6 Tryz.infoZ rfl rfl (oneZ _ _ _ _ _ rfl rfl rfl rfl _) ?_; intro W5 e5 b5 s5 o5))
  have HB5 : Hid (Below w.heap.size w W5) := to_call (to_call (to_call (to_call b1 b2) b3) b4) b5
  have HL5 : Hid (RdIs W5 lo 4 lc [5, 7, 3, 9]) := ((HL.out.later b3).later b4).later b5
  have HZ5 : Hid _ := HZ4.out.later b5
  obtain ⟨c0, c1, c2, c3, c4, c5⟩ := cells6 e5
  clear b1 b2 b3 b4 b5 s5 o5 HL HZ4 B4
  have HX : Hid (RdIs (W5.alloc (.cells #[.int .i64 5, .int .i64 7, .int .i64 3, .int .i64 9] 3)) (some ⟨W5.heap.size, 0, none⟩) 4 4 [5, 7, 3, 9]) := rdI4T (heap_alloc_new W5 _)
  have hb6 : Below W5.heap.size W5 (W5.alloc (.cells #[.int .i64 5, .int .i64 7, .int .i64 3, .int .i64 9] 3)) := (Below.refl _ W5).alloc (Nat.le_refl _) _
  have HL6 : Hid _ := HL5.out.later hb6
  rcases HZ5.out.i.cells with h0 | ⟨ib, ioff, hio, hic⟩
  · cases h0
  rcases HZ5.out.r.cells with h0 | ⟨rb, roff, hro, hrc⟩
  · cases h0
  dsimp only at hio hro
  have gi : W5.cell? ⟨ib, ioff + 0, none⟩ = some (.int .i64 9) := hic 0 (show 0 < 1 by decide)
  have g0 : W5.cell? ⟨rb, roff + 0, none⟩ = some (.float .f64 4613937818241073152) := hrc 0 (show 0 < 2 by decide)
  have g1 : W5.cell? ⟨rb, roff + 1, none⟩ = some (.float .f64 4609434218613702656) := hrc 1 (show 1 < 2 by decide)
  rw [Nat.add_zero] at gi g0
  subst hio hro
  have HB6 : Hid (Below w.heap.size w (W5.alloc (.cells #[.int .i64 5, .int .i64 7, .int .i64 3, .int .i64 9] 3))) := to_call HB5.out hb6
  clear hic hrc HZ5 HL5 e5
  go_wp2_with fail
  refine Calls.mono (sameIntsT_any lo (some ⟨W5.heap.size, 0, none⟩) 4 4 lc 4 [5, 7, 3, 9] [5, 7, 3, 9] _ HL6.out HX.out) ?_
  rintro e w7 ⟨rfl, b7⟩
  have hdd : decide (([5, 7, 3, 9] : List Int) = [5, 7, 3, 9]) = true := decide_eq_true rfl
  rw [hdd]
  have HB7 : Hid (Below w.heap.size w w7) := to_call HB6.out b7
  have q0 := cellT (cellT c0 hb6) b7
  have q2 := cellT (cellT c2 hb6) b7
  have q4 := cellT (cellT c4 hb6) b7
  have q5 := cellT (cellT c5 hb6) b7
  have qi := cellT (cellT gi hb6) b7
  have r0 := cellT (cellT g0 hb6) b7
  have r1 := cellT (cellT g1 hb6) b7
  clear c0 c1 c2 c3 c4 c5 gi g0 g1 hb6 b7 hdd HL6 HX HB6
  go_wp2_with (first | (go_at_call 14; refine Calls.mono (capT_any 3 5 _) ?_; rintro e w8 ⟨rfl, hw8⟩; rw [hw8, hc35]; clear hw8))
  go_ret
  exact ⟨rfl, HB7.out⟩
end Go.Proofs.YtogdfdhdmfkmaaaGreat
