import Derived.Test.YtkpoikjikkailaaYE
import Derived.Test.YtkpoikjikkailaaSC
namespace Go.Proofs.Ytkpoikjikkailaa
open Go.RowKit
set_option linter.unusedVariables false

/-- What AccBetween asks of three numbers told of one real. -/
inductive BtE (z : Int) (D dn up nr : Nat) (ok is fine : Bool) : Prop
  | low (h1 : ok = false) (h2 : is = true) (h3 : srung up = 1 - (infK : Int)) (h4 : fine = true → srung nr = srung up) (h5 : z ≤ fval up * D)
  | high (h1 : ok = true) (h2 : is = false) (h3 : srung dn = (infK : Int) - 1) (h4 : fine = true → srung nr = srung dn) (h5 : fval dn * D ≤ z)
  | point (h1 : ok = true) (h2 : is = true) (h3 : fine = true) (h4 : srung up = srung dn) (h5 : srung nr = srung dn) (h6 : fval dn * D = z) (h7 : fval up * D = z)
  | pair (h1 : ok = true) (h2 : is = true) (h3 : fine = true) (h4 : srung up = srung dn + 1) (h5 : -(infK : Int) < srung dn) (h8 : srung up < (infK : Int)) (h6 : fval dn * D < z) (h7 : z < fval up * D) (h9 : (2 * z < (fval dn + fval up) * D ∧ srung nr = srung dn) ∨ ((fval dn + fval up) * D < 2 * z ∧ srung nr = srung up) ∨ (2 * z = (fval dn + fval up) * D ∧ srung nr = if srung dn % 2 = 0 then srung dn else srung up))
theorem bt_end {z : Int} {D : Nat} (hD : 0 < D) {dn up nr : Nat} {ok is fine : Bool} (h2 : RndZ 2 z D (dn, ok)) (h1 : RndZ 1 z D (up, is)) (h0 : RndZ 0 z D (nr, fine)) : BtE z D dn up nr ok is fine := by
  obtain ⟨f, hf⟩ := Sf.some z hD
  have hi : infK = 9218868437227405312 := rfl
  have hc := ceil_or z D f
  have hn : nearS z D f = f ∨ nearS z D f = f + 1 := by unfold nearS; split <;> simp
  have hD' : (0 : Int) < (D : Int) := by omega
  have hx : z = smag f * D → nearS z D f = f := by
    intro e; unfold nearS
    have := hf.2
    rw [if_pos (.inl (by rw [Int.add_mul]; omega))]
  rcases rz_down h2 hf with ⟨a1, a2, a3⟩ | ⟨a1, a2⟩
  · simp only at a1 a3
    rcases rz_up h1 hf with ⟨b1, b2, b3⟩ | ⟨b1, b2⟩
    · simp only at b1 b3
      have hdn : srung dn = f := by omega
      have hup : srung up = ceilK z D f := by omega
      have vd : fval dn = smag f := by rw [fval_smag, hdn]
      rcases rz_near h0 hf with ⟨c1, c2, c3⟩ | ⟨c1, c2⟩
      · simp only at c1 c3
        rcases hc with ⟨e1, e2⟩ | ⟨e1, e2⟩
        · have vu : fval up = smag f := by rw [fval_smag, hup, e2]
          exact .point a1 b1 c1 (by omega) (by rw [c3, hx e1, hdn]) (by rw [vd]; exact e1.symm) (by rw [vu]; exact e1.symm)
        · have vu : fval up = smag (f + 1) := by rw [fval_smag, hup, e2]
          have l1 := hf.1
          refine .pair a1 b1 c1 (by omega) (by omega) (by omega) (by rw [vd]; omega) (by rw [vu]; exact hf.2) ?_
          rw [vd, vu, c3, hdn, hup, e2]
          rcases Int.lt_trichotomy (2 * z) ((smag f + smag (f + 1)) * D) with k | k | k
          · exact .inl ⟨k, by unfold nearS; rw [if_pos (.inl k)]⟩
          · refine .inr (.inr ⟨k, ?_⟩)
            unfold nearS
            by_cases hp : f % 2 = 0
            · rw [if_pos (.inr ⟨k, hp⟩), if_pos hp]
            · rw [if_neg (by omega), if_neg hp]
          · exact .inr (.inl ⟨k, by unfold nearS; rw [if_neg (by omega)]⟩)
      · rcases hc with ⟨e1, e2⟩ | ⟨e1, e2⟩
        · have := hx e1; omega
        · omega
    · have hb1 := congrArg Prod.snd b1
      simp only at hb1
      have hff : f ≥ (infK : Int) - 1 := by rcases hc with ⟨_, e2⟩ | ⟨_, e2⟩ <;> omega
      refine .high a1 hb1 (by omega) ?_ ?_
      · intro hfn
        rcases rz_near h0 hf with ⟨c1, c2, c3⟩ | ⟨c1, c2⟩
        · simp only at c3; omega
        · have := congrArg Prod.snd c1; simp only at this; rw [this] at hfn; cases hfn
      · rw [fval_smag, a3]
        have := smag_le (show min f ((infK : Int) - 1) ≤ f by omega)
        have := Int.mul_le_mul_of_nonneg_right this (show (0 : Int) ≤ D by omega)
        have := hf.1
        omega
  · have ha1 := congrArg Prod.snd a1
    simp only at ha1
    rcases rz_up h1 hf with ⟨b1, b2, b3⟩ | ⟨b1, b2⟩
    · simp only at b1 b3
      have hcc : ceilK z D f ≤ 1 - (infK : Int) := by rcases hc with ⟨_, e2⟩ | ⟨_, e2⟩ <;> omega
      refine .low ha1 b1 (by omega) ?_ ?_
      · intro hfn
        rcases rz_near h0 hf with ⟨c1, c2, c3⟩ | ⟨c1, c2⟩
        · simp only at c3; omega
        · have := congrArg Prod.snd c1; simp only at this; rw [this] at hfn; cases hfn
      · rw [fval_smag, b3]
        have := smag_le (show f + 1 ≤ max (ceilK z D f) (1 - (infK : Int)) by omega)
        have := Int.mul_le_mul_of_nonneg_right this (show (0 : Int) ≤ D by omega)
        have := hf.2
        omega
    · rcases hc with ⟨_, e2⟩ | ⟨_, e2⟩ <;> omega
/-- What an exact real's row reads is not touched where an Acc is written. -/
theorem NumZ.chg {w w' : World} {B : Nat} {o : Option Int} {v : Value} {s : Nat} {T z : Int} (h : NumZ w v s T z) (ha : AccO w B o) (hc : Chg B w w') : NumZ w' v s T z := by
  obtain ⟨neg, m, e, ⟨ao, len, cap, xs, h1, h2, h3⟩, h4⟩ := h
  refine ⟨neg, m, e, ⟨ao, len, cap, xs, h1, ⟨h2.length, h2.le, h2.max, h2.lt, h2.nil, ?_⟩, h3⟩, h4⟩
  rcases h2.cells with h0 | ⟨b, off, hb, hcell⟩
  · exact .inl h0
  · refine .inr ⟨b, off, hb, fun j hj => ?_⟩
    have c0 := hcell j hj
    have hne : b ≠ B := by
      rintro rfl
      obtain ⟨f, hw, -⟩ := ha.ex
      rcases Nat.lt_trichotomy (off + j) 76 with k | k | k
      · rw [hw.cells _ k] at c0; cases c0
      · rw [k, ha.cell] at c0; cases c0
      · rw [ha.top _ (by omega)] at c0; cases c0
    have hl := World.block_lt_of_cell? w _ c0
    rw [(cell_of_heap (hc.other b hl hne) _).1]; exact c0
theorem movedK_any (K : Nat) (v : Value) (s : Nat) (T z m : Int) (hm : -(K : Int) ≤ m ∧ m ≤ K) (hK : K ≤ 1000) (w : World) (h : NumZ w v s T z) (hs : s ≤ 20000) (hT : 0 ≤ T ∧ T ≤ 20000) :
    Calls Try.prog 44 #[v, .int .i64 m] w fun e' w' => ∃ v', e' = .returned v' ∧ NumZ w' v' (s + K) (T + K) (z * ((2 ^ (m + K).toNat : Nat) : Int)) ∧ Below w.heap.size w w' := by
  obtain ⟨neg, mm, e, h1, h2, h3, h4⟩ := h
  have hb : (0 : Int) ≤ (bl mm : Int) := by omega
  refine Calls.mono (moved_any v neg mm e m (by omega) (by omega) w h1) ?_
  rintro e' w' ⟨v', rfl, hN, hB⟩
  refine ⟨v', rfl, ⟨neg, mm, _, hN, ?_, ?_, ?_⟩, hB⟩
  · split <;> omega
  · split <;> omega
  · rw [← h4]
    by_cases h0 : mm = 0
    · subst h0
      unfold zv; simp [sv_zero]
    · rw [if_neg h0]
      unfold zv
      rw [show (e + m + ((s + K : Nat) : Int)).toNat = (e + (s : Int)).toNat + (m + (K : Int)).toNat by omega, Nat.pow_add, Int.natCast_mul, ← Int.mul_assoc]
set_option maxRecDepth 100000 in
theorem value_any (u : Nat) (hu : u < 18446744073709551616) (hf : Fin u) (w : World) (E : Nat) (hE : E = 1074) :
    Calls Try.prog 17 #[.float .f64 u] w fun e' w' => ∃ v, e' = .returned v ∧ NumZ w' v E 1024 (fval u) ∧ Below w.heap.size w w' := by
  have P0 : Hid ((w.alloc (Obj.cells #[Value.bool false, Value.slice none 0 0, Value.int IntKind.i64 0] 27)).heap[w.heap.size]? = some (Obj.cells #[Value.bool false, Value.slice none 0 0, Value.int IntKind.i64 0] 27)) := heap_alloc_new w _
  have HBA : Hid (Below w.heap.size w (w.alloc (Obj.cells #[Value.bool false, Value.slice none 0 0, Value.int IntKind.i64 0] 27))) := (Below.refl w.heap.size w).alloc (Nat.le_refl _) _
  have HZ0 : Hid ((w.alloc (Obj.cells #[Value.bool false, Value.slice none 0 0, Value.int IntKind.i64 0] 27)).heap.size = w.heap.size + 1) := by unfold Hid; simp
  go_enter Try.func17, Try.ntmps17
  go_wp2_with (go_at_call 20; refine (bits_any u _).mono ?_; rintro e w0 ⟨rfl, rfl⟩)
  refine (ofZ_any u hu _ E hE).mono ?_
  rintro e1 w1 ⟨v1, rfl, ⟨z1, hz1, hf1⟩, hb1⟩
  obtain rfl := hf1 hf
  have Z1 : Hid (NumZ w1 v1 E 1024 (fval u)) := hz1
  obtain ⟨nx, mx, ex, ⟨ao, len, cap, xs, rfl, -⟩, -⟩ := hz1
  have G1 : Hid (w1.heap[w.heap.size]? = some (Obj.cells #[Value.bool false, Value.slice none 0 0, Value.int IntKind.i64 0] 27)) := (hb1.block w.heap.size (by rw [HZ0.out]; omega)).trans P0.out
  have HB1 : Hid (Below w.heap.size w w1) := HBA.out.trans (hb1.mono HBA.out.size)
  clear hb1
  go_upto_region 2 with fail
  have BB : Hid (Below w1.heap.size w1 (w1.alloc (Obj.cells #[Value.bool nx, Value.slice ao len cap, Value.int IntKind.i64 ex] 27))) := (Below.refl _ w1).alloc (Nat.le_refl _) _
  have N2 : Hid _ := heap_alloc_new w1 (Obj.cells #[Value.bool nx, Value.slice ao len cap, Value.int IntKind.i64 ex] 27)
  generalize w1.alloc (Obj.cells #[Value.bool nx, Value.slice ao len cap, Value.int IntKind.i64 ex] 27) = W at BB N2 ⊢
  have Z2 : Hid (NumZ W (.agg #[.bool nx, .slice ao len cap, .int .i64 ex]) E 1024 (fval u)) := Z1.out.later BB.out
  have G2 : Hid (W.heap[w.heap.size]? = some (Obj.cells #[Value.bool false, Value.slice none 0 0, Value.int IntKind.i64 0] 27)) := (BB.out.block w.heap.size (by
    rcases Nat.lt_or_ge w.heap.size w1.heap.size with h1 | h1
    · exact h1
    · have := G1.out; rw [Array.getElem?_eq_none h1] at this; cases this)).trans G1.out
  have HB2 : Hid (Below w.heap.size w W) := HB1.out.trans (BB.out.mono HB1.out.size)
  obtain ⟨x0, x1, x2⟩ := three_cells G2.out
  obtain ⟨y0, y1, y2⟩ := three_cells N2.out
  have fz := fun j => frozen_of_row _ _ j _ _ G2.out
  clear G1 HB1 BB
  go_wp2_with fail
  refine bodyPost_ret (v := .agg #[.bool nx, .slice ao len cap, .int .i64 ex]) (res_num _ 2 (by kernel_rfl) _ _ w.heap.size _ _ _ (by rfl) (set3_heap _ _ _ G2.out)) rfl ⟨_, rfl, ?_, ?_⟩
  · exact NumZ.set3 _ _ _ ⟨_, _, _, _, _, G2.out⟩ Z2.out
  · exact below_set3 _ _ _ HB2.out (Nat.le_refl _)
end Go.Proofs.Ytkpoikjikkailaa
