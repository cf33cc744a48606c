import Derived.Test.YtajopgndpomggaaWO
import Derived.Test.YtajopgndpomggaaMZ
namespace Go.Proofs.Ytajopgndpomggaa
open Go.RowKit
set_option linter.unusedVariables false

/-- A number whose nought has no power. -/
def NumC (w : World) (v : Value) (s : Nat) (T : Int) (z : Int) : Prop := ∃ neg m e, NumV w v neg m e ∧ -(s : Int) ≤ e ∧ (bl m : Int) + e ≤ T ∧ zv s neg m e = z ∧ (m = 0 → e = 0)
theorem NumC.later {w w' : World} {v : Value} {s : Nat} {T z : Int} (h : NumC w v s T z) (hb : Below w.heap.size w w') : NumC w' v s T z := by
  obtain ⟨neg, m, e, h1, h2⟩ := h
  exact ⟨neg, m, e, h1.later hb, h2⟩
theorem NumC.toZ {w : World} {v : Value} {s : Nat} {T z : Int} (h : NumC w v s T z) : NumZ w v s T z := by
  obtain ⟨neg, m, e, h1, h2, h3, h4, _⟩ := h
  exact ⟨neg, m, e, h1, h2, h3, h4⟩
theorem NumC.mono {w : World} {v : Value} {s : Nat} {T T' z : Int} (h : NumC w v s T z) (hT : T ≤ T') : NumC w v s T' z := by
  obtain ⟨neg, m, e, h1, h2, h3, h4⟩ := h
  exact ⟨neg, m, e, h1, h2, by omega, h4⟩
theorem plusC_any (v u : Value) (s : Nat) (T x y : Int) (w : World) (hx : NumC w v s T x) (hy : NumC w u s T y) (hs : s ≤ 20000) (hT : 0 ≤ T ∧ T ≤ 20000) :
    Calls Try.prog 43 #[v, u] w fun e' w' => ∃ v', e' = .returned v' ∧ NumC w' v' s (T + 1) (x + y) ∧ Below w.heap.size w w' := by
  obtain ⟨nx, mx, ex, h1, h2, h3, h4, h5⟩ := hx
  obtain ⟨ny, my, ey, k1, k2, k3, k4, k5⟩ := hy
  refine (plusV_any v u nx ny mx my ex ey w h1 k1 (by omega) (by omega) (by omega) (by omega)).mono ?_
  rintro e' w' ⟨v', neg, m, e, rfl, hN, hP, hB⟩
  obtain ⟨p1, p2, p3⟩ := hP.1 s T h2 k2 h3 k3 hT.1
  exact ⟨v', rfl, ⟨neg, m, e, hN, p1, p2, by rw [p3, h4, k4], fun c => hP.2 c h5 k5⟩, hB⟩
theorem timesC_any (v u : Value) (s : Nat) (T T' x y : Int) (w : World) (hx : NumZ w v s T x) (hy : NumZ w u s T' y) (hs : s ≤ 10000) (hT : 0 ≤ T ∧ T ≤ 10000) (hT' : 0 ≤ T' ∧ T' ≤ 10000) :
    Calls Try.prog 16 #[v, u] w fun e' w' => ∃ v', e' = .returned v' ∧ NumC w' v' (s + s) (T + T') (x * y) ∧ Below w.heap.size w w' := by
  obtain ⟨nx, mx, ex, h1, h2, h3, h4⟩ := hx
  obtain ⟨ny, my, ey, k1, k2, k3, k4⟩ := hy
  refine (timesV_any v u nx ny mx my ex ey w h1 k1 (by omega) (by omega) (by omega) (by omega)).mono ?_
  rintro e' w' ⟨v', neg, e, rfl, hN, hz, hnz, hB⟩
  refine ⟨v', rfl, ⟨neg, mx * my, e, hN, ?_, ?_, ?_, hz⟩, hB⟩
  · by_cases h : mx * my = 0
    · rw [hz h]; omega
    · rw [(hnz h).2]; omega
  · by_cases h : mx * my = 0
    · rw [hz h, h, bl_zero]; omega
    · have := bl_mul mx my
      rw [(hnz h).2]; omega
  · rw [← h4, ← k4, ← zv_mul nx ny mx my h2 k2]
    by_cases h : mx * my = 0
    · rw [h, zv_zero, zv_zero]
    · rw [(hnz h).1, (hnz h).2]
theorem movedC_any (v : Value) (s s' : Nat) (T T' x n : Int) (w : World) (hx : NumC w v s T x) (hs : s ≤ 10000) (hT : 0 ≤ T ∧ T ≤ 10000) (hn : -64 ≤ n ∧ n ≤ 64) (hT' : T' = T + 64) (hs' : (s' : Int) = s + 92) :
    Calls Try.prog 44 #[v, .int .i64 n] w fun e' w' => ∃ v', e' = .returned v' ∧ NumC w' v' s' T' (x * ((2 ^ (n + 92).toNat : Nat) : Int)) ∧ Below w.heap.size w w' := by
  obtain ⟨neg, m, e, h1, h2, h3, h4, h5⟩ := hx
  refine (moved_any v neg m e n (by omega) (by omega) w h1).mono ?_
  rintro e' w' ⟨v', rfl, hN, hB⟩
  refine ⟨v', rfl, ⟨neg, m, _, hN, ?_, ?_, ?_, ?_⟩, hB⟩
  · split <;> omega
  · split <;> omega
  · by_cases h0 : m = 0
    · subst h0; rw [zv_zero, ← h4, zv_zero, Int.zero_mul]
    · rw [if_neg h0, ← h4]
      unfold zv
      rw [Int.mul_assoc, ← Int.natCast_mul, ← Nat.pow_add, show (e + n + (s' : Int)).toNat = (e + (s : Int)).toNat + (n + 92).toNat by omega]
  · intro c; rw [if_pos c]; exact h5 c
/-- The document's Acc. -/
def RefO (w : World) (v : Value) (o : Option Int) : Prop := ∃ nb ao l c e, v = .agg #[.bool nb, .slice ao l c, .int .i64 e, .bool o.isNone] ∧ ∀ z, o = some z → NumC w (.agg #[.bool nb, .slice ao l c, .int .i64 e]) 2240 2560 z
theorem RefO.later {w w' : World} {v : Value} {o : Option Int} (h : RefO w v o) (hb : Below w.heap.size w w') : RefO w' v o := by
  obtain ⟨nb, ao, l, c, e, h1, h2⟩ := h
  exact ⟨nb, ao, l, c, e, h1, fun z hz => (h2 z hz).later hb⟩
set_option maxRecDepth 100000 in
set_option maxHeartbeats 1000000 in
theorem refLength_any (v : Value) (neg : Bool) (m : Nat) (e : Int) (w : World) (h : NumV w v neg m e) (hb : bl m ≤ 100000) :
    Calls Try.prog 86 #[v] w fun e' w' => e' = .returned (.int .i64 (bl m : Int)) ∧ Below w.heap.size w w' := by
  obtain ⟨ao, len, cap, xs, rfl, hr, hnm, hm⟩ := h
  have HR : Hid _ := hr.later ((Below.refl _ w).alloc (Nat.le_refl _) (.cells #[.bool neg, .slice ao len cap, .int .i64 e] 27))
  have HN : Hid _ := hnm
  have HM : Hid _ := hm
  clear hr hnm hm
  go_enter Try.func86, Try.ntmps86
  go_wp2_with fail
  refine (length_any ao len cap xs _ HR.out HN.out).mono ?_
  rintro e1 w1 ⟨rfl, rfl⟩
  go_wp2_with fail
  go_ret
  exact ⟨by rw [HM.out]; rfl, (Below.refl _ w).alloc (Nat.le_refl _) _⟩
theorem bl_low {m : Nat} (h : m ≠ 0) : ∃ k, bl m = k + 1 ∧ 2 ^ k ≤ m := ⟨m.log2, by unfold bl; rw [if_neg h], Nat.log2_self_le h⟩
theorem hold_bl {neg : Bool} {m : Nat} {e z : Int} (he : -2240 ≤ e) (hz : zv 2240 neg m e = z) (h0 : m = 0 → e = 0) : ((bl m : Int) + e ≤ 2560 → holdZ z = some z) ∧ (2560 < (bl m : Int) + e → holdZ z = none) := by
  have ha : z.natAbs = m * 2 ^ (e + 2240).toNat := by rw [← hz]; exact zv_abs 2240 neg m e
  obtain ⟨Q, hQ⟩ : ∃ Q : Nat, Q = 4800 := ⟨_, rfl⟩
  have key : ∀ z : Int, (-((2 ^ Q : Nat) : Int) < z ∧ z < ((2 ^ Q : Nat) : Int)) ↔ z.natAbs < 2 ^ Q := by
    intro z
    generalize 2 ^ Q = L
    omega
  constructor
  · intro h
    unfold holdZ
    rw [if_pos]
    rw [← hQ, key, ha]
    have h1 := lt_bl m
    have h2 : m * 2 ^ (e + 2240).toNat < 2 ^ bl m * 2 ^ (e + 2240).toNat := Nat.mul_lt_mul_of_pos_right h1 (Nat.two_pow_pos _)
    rw [← Nat.pow_add] at h2
    exact Nat.lt_of_lt_of_le h2 (Nat.pow_le_pow_right (by omega) (by omega))
  · intro h
    unfold holdZ
    rw [if_neg]
    rw [← hQ, key, ha]
    have hm : m ≠ 0 := fun c => by have := h0 c; subst c; rw [bl_zero] at h; omega
    obtain ⟨k, hk, hk2⟩ := bl_low hm
    have h2 : 2 ^ k * 2 ^ (e + 2240).toNat ≤ m * 2 ^ (e + 2240).toNat := Nat.mul_le_mul_right _ hk2
    rw [← Nat.pow_add] at h2
    have h3 : (2 : Nat) ^ Q ≤ 2 ^ (k + (e + 2240).toNat) := Nat.pow_le_pow_right (by omega) (by omega)
    omega
theorem four_cells {W : World} {B : Nat} {v0 v1 v2 v3 : Value} {t : TypeId} (h : W.heap[B]? = some (.cells #[v0, v1, v2, v3] t)) :
    W.cell? ⟨B, 0, none⟩ = some v0 ∧ W.cell? ⟨B, 1, none⟩ = some v1 ∧ W.cell? ⟨B, 2, none⟩ = some v2 ∧ W.cell? ⟨B, 3, none⟩ = some v3 :=
  ⟨cell_of_row _ _ 0 _ _ _ h, cell_of_row _ _ 1 _ _ _ h, cell_of_row _ _ 2 _ _ _ h, cell_of_row _ _ 3 _ _ _ h⟩
theorem res_acc (f : Func) (i : Nat) (hf : f.results = #[ResultVar.cell i 29]) (tmps : Array Value) (W : World) (B : Nat) (v0 v1 v2 v3 : Value) (hp : tmps[i]? = some (.pointer (some ⟨B, 0, none⟩)))
    (h0 : W.cell? ⟨B, 0, none⟩ = some v0) (h1 : W.cell? ⟨B, 1, none⟩ = some v1) (h2 : W.cell? ⟨B, 2, none⟩ = some v2) (h3 : W.cell? ⟨B, 3, none⟩ = some v3) : (results f tmps).run Try.prog W = .ok (.agg #[v0, v1, v2, v3]) W := by
  simp [results, hf, go_sem, hp, h0, h1, h2, h3]
theorem res_acc4 (f : Func) (i : Nat) (hf : f.results = #[ResultVar.cell i 29]) (tmps : Array Value) (W : World) (B : Nat) (v0 v1 v2 v3 : Value) (hp : tmps[i]? = some (.pointer (some ⟨B, 0, none⟩)))
    (h : W.heap[B]? = some (.cells #[v0, v1, v2, v3] 29)) : (results f tmps).run Try.prog W = .ok (.agg #[v0, v1, v2, v3]) W := by
  obtain ⟨h0, h1, h2, h3⟩ := four_cells h
  exact res_acc f i hf tmps W B v0 v1 v2 v3 hp h0 h1 h2 h3
theorem set4_heap {w : World} {B : Nat} {a b c d : Value} {t : TypeId} (v0 v1 v2 v3 : Value) (h : w.heap[B]? = some (.cells #[a, b, c, d] t)) : ((((w.setCell ⟨B, 0, none⟩ v0).setCell ⟨B, 1, none⟩ v1).setCell ⟨B, 2, none⟩ v2).setCell ⟨B, 3, none⟩ v3).heap[B]? = some (.cells #[v0, v1, v2, v3] t) := by
  have s1 := heap_setCell_same w B 0 _ _ v0 h
  have s2 := heap_setCell_same _ B 1 _ _ v1 s1
  have s3 := heap_setCell_same _ B 2 _ _ v2 s2
  exact heap_setCell_same _ B 3 _ _ v3 s3
theorem below_set4 {w0 w : World} {base B : Nat} (x y z u : Value) (h : Below base w0 w) (hB : base ≤ B) : Below base w0 ((((w.setCell ⟨B, 0, none⟩ x).setCell ⟨B, 1, none⟩ y).setCell ⟨B, 2, none⟩ z).setCell ⟨B, 3, none⟩ u) :=
  (((h.setCell (p := ⟨B, 0, none⟩) hB x).setCell (p := ⟨B, 1, none⟩) hB y).setCell (p := ⟨B, 2, none⟩) hB z).setCell (p := ⟨B, 3, none⟩) hB u
set_option maxRecDepth 100000 in
set_option maxHeartbeats 1000000 in
theorem held3_any (v : Value) (z : Int) (w : World) (h : NumC w v 2240 2561 z) :
    Calls Try.prog 62 #[v] w fun e' w' => ∃ v', e' = .returned v' ∧ RefO w' v' (holdZ z) ∧ Below w.heap.size w w' := by
  obtain ⟨neg, m, e, hN, h1, h2, h3, h4⟩ := h
  obtain ⟨hy, hn⟩ := hold_bl h1 h3 h4
  have hNV := hN
  obtain ⟨ao, len, cap, xs, rfl, hr, hnm, hm⟩ := hN
  obtain ⟨a1, a2, a3, a4⟩ := alloc2_facts w (.cells #[.bool neg, .slice ao len cap, .int .i64 e] 27) (.cells #[.bool false, .slice none 0 0, .int .i64 0, .bool false] 29)
  have HNV : Hid _ := hNV
  have HNC : Hid (NumC w (.agg #[.bool neg, .slice ao len cap, .int .i64 e]) 2240 2561 z) := ⟨neg, m, e, hNV, h1, h2, h3, h4⟩
  have HC2 : Hid (∀ w', Below w.heap.size w w' → (bl m : Int) + e ≤ 2560 → NumC w' (.agg #[.bool neg, .slice ao len cap, .int .i64 e]) 2240 2560 z) := fun w' hb hle => ⟨neg, m, e, hNV.later hb, h1, hle, h3, h4⟩
  have hbl : bl m ≤ 5000 := by omega
  have heb : -2240 ≤ e ∧ e ≤ 2561 := by omega
  have HY : Hid _ := And.intro hy hn
  clear hr hnm hm hNV hy hn h3 h4
  go_enter Try.func62, Try.ntmps62
  go_wp2_with fail
  generalize (w.alloc (.cells #[.bool neg, .slice ao len cap, .int .i64 e] 27)).alloc (.cells #[.bool false, .slice none 0 0, .int .i64 0, .bool false] 29) = w2 at a1 a2 a3 a4 ⊢
  obtain ⟨c0, c1, c2⟩ := three_cells a1
  obtain ⟨d0, d1, d2, d3⟩ := four_cells a2
  have HA2 : Hid _ := a2
  have HB2 : Hid _ := a4
  have HSZ : Hid (w2.heap.size = w.heap.size + 2) := a3
  have HNV2 : Hid (NumV w2.drew (.agg #[.bool neg, .slice ao len cap, .int .i64 e]) neg m e) := NumV.later HNV.out (a4.drew)
  clear a1 a2 a3 a4 d0 d1 d2 d3
  obtain ⟨bm, hbm⟩ : ∃ bm : Int, (bl m : Int) = bm := ⟨_, rfl⟩
  have HLEN : Hid (Calls Try.prog 86 #[.agg #[.bool neg, .slice ao len cap, .int .i64 e]] w2.drew fun e' w' => e' = .returned (.int .i64 bm) ∧ Below w2.drew.heap.size w2.drew w') := by rw [← hbm]; exact refLength_any _ neg m e _ HNV2.out (by omega)
  have hbm0 : 0 ≤ bm ∧ bm ≤ 5000 := by omega
  have vb : IntKind.i64.wrap (bm + e) = bm + e := by rw [IntKind.wrap_i64]; omega
  go_region_held3 (fun w' => w'.cell? ⟨w.heap.size, 0, none⟩ = some (.bool neg) ∧ w'.cell? ⟨w.heap.size, 1, none⟩ = some (.slice ao len cap) ∧ w'.cell? ⟨w.heap.size, 2, none⟩ = some (.int .i64 e)) (go_keep) ((go_at_call 86; refine Calls.mono HLEN.out ?_; rintro e1 w3 ⟨rfl, hb3⟩; have k0 : w3.cell? ⟨w.heap.size, 0, none⟩ = some (.bool neg) := (by rw [hb3.cell (p := ⟨w.heap.size, 0, none⟩) (by show w.heap.size < w2.heap.size; have := HSZ.out; omega)]; exact c0); have k1 : w3.cell? ⟨w.heap.size, 1, none⟩ = some (.slice ao len cap) := (by rw [hb3.cell (p := ⟨w.heap.size, 1, none⟩) (by show w.heap.size < w2.heap.size; have := HSZ.out; omega)]; exact c1); have k2 : w3.cell? ⟨w.heap.size, 2, none⟩ = some (.int .i64 e) := (by rw [hb3.cell (p := ⟨w.heap.size, 2, none⟩) (by show w.heap.size < w2.heap.size; have := HSZ.out; omega)]; exact c2)))
  have HA3 : Hid (w3.heap[w.heap.size + 1]? = some (.cells #[.bool false, .slice none 0 0, .int .i64 0, .bool false] 29)) := (hb3.block (w.heap.size + 1) (by show w.heap.size + 1 < w2.heap.size; have := HSZ.out; omega)).trans HA2.out
  have HB3 : Hid (Below w.heap.size w w3) := HB2.out.drew.trans (hb3.mono (by show w.heap.size ≤ w2.heap.size; have := HSZ.out; omega))
  obtain ⟨d0, d1, d2, d3⟩ := four_cells HA3.out
  have f3 := fun j => frozen_of_row _ _ j _ _ HA3.out
  have HBM : Hid _ := hbm
  clear hb3 c0 c1 c2 HA2 HB2 HNV2 HLEN hbm HNV
  by_cases hgt : 2560 < bm + e
  · have HH : Hid (holdZ z = none) := HY.out.2 (by rw [HBM.out]; exact hgt)
    go_wp2_with fail
    refine bodyPost_ret (v := .agg #[.bool false, .slice none 0 0, .int .i64 0, .bool true]) (res_acc4 _ 2 (by kernel_rfl) _ _ (w.heap.size + 1) _ _ _ _ (by rfl) (set4_heap _ _ _ _ HA3.out)) rfl ⟨_, rfl, ?_, below_set4 _ _ _ _ HB3.out (by omega)⟩
    rw [HH.out]
    exact ⟨_, _, _, _, _, rfl, fun y hy => by cases hy⟩
  · have HH : Hid (holdZ z = some z) := HY.out.1 (by rw [HBM.out]; omega)
    have HLE : Hid (bm + e ≤ 2560) := (by omega : bm + e ≤ 2560)
    have hle : ¬ 2560 < bm + e := hgt
    clear hgt
    go_wp2_with fail
    refine bodyPost_ret (v := .agg #[.bool neg, .slice ao len cap, .int .i64 e, .bool false]) (res_acc4 _ 2 (by kernel_rfl) _ _ (w.heap.size + 1) _ _ _ _ (by rfl) (set4_heap _ _ _ _ HA3.out)) rfl ⟨_, rfl, ?_, below_set4 _ _ _ _ HB3.out (by omega)⟩
    rw [HH.out]
    refine ⟨_, _, _, _, _, rfl, fun y hy => ?_⟩
    cases hy
    exact HC2.out _ (below_set4 _ _ _ _ HB3.out (by omega)) (by rw [HBM.out]; exact HLE.out)
end Go.Proofs.Ytajopgndpomggaa
