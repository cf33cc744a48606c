import Derived.Test.YtigaggkipmcgeaaNE
namespace Go.Proofs.Ytigaggkipmcgeaa
open Go.RowKit
set_option linter.unusedVariables false

/-- A number's block in memory, as the call's own. -/
def NumB (w : World) (B : Nat) : Prop := ∃ neg ao len cap e, w.heap[B]? = some (.cells #[.bool neg, .slice ao len cap, .int .i64 e] 27)
theorem NumB.not {w : World} {B : Nat} (h : NumB w B) (j : Nat) (x : Int) : w.cell? ⟨B, j, none⟩ ≠ some (.int .u32 x) := by
  obtain ⟨neg, ao, len, cap, e, h⟩ := h
  match j with
  | 0 => rw [(three_cells h).1]; simp
  | 1 => rw [(three_cells h).2.1]; simp
  | 2 => rw [(three_cells h).2.2]; simp
  | j + 3 => rw [cell_of_row _ _ _ _ _ _ h]; simp
theorem set3_heap {w : World} {B : Nat} {a b c : Value} (x y z : Value) (h : w.heap[B]? = some (.cells #[a, b, c] 27)) :
    (((w.setCell ⟨B, 0, none⟩ x).setCell ⟨B, 1, none⟩ y).setCell ⟨B, 2, none⟩ z).heap[B]? = some (.cells #[x, y, z] 27) := by
  have h1 := heap_setCell_same w B 0 _ _ x h
  have h2 := heap_setCell_same _ B 1 _ _ y h1
  exact heap_setCell_same _ B 2 _ _ z h2
/-- Words stay where a number's block is written over. -/
theorem rd4_set3 {w : World} {B : Nat} (x y z : Value) (hB : NumB w B) {ao : Option Addr} {len cap : Nat} {xs : List Nat} (h : Rd4 w ao len cap xs) :
    Rd4 (((w.setCell ⟨B, 0, none⟩ x).setCell ⟨B, 1, none⟩ y).setCell ⟨B, 2, none⟩ z) ao len cap xs := by
  refine ⟨h.length, h.le, h.max, h.lt, h.nil, ?_⟩
  rcases h.cells with h0 | ⟨b, off, ha, hc⟩
  · exact .inl h0
  · refine .inr ⟨b, off, ha, fun j hj => ?_⟩
    have hne : b ≠ B := by rintro rfl; exact hB.not _ _ (hc j hj)
    rw [World.cell?_setCell_other _ _ _ _ (fun e => hne (by have := congrArg Addr.block e; first | exact this | exact this.symm)), World.cell?_setCell_other _ _ _ _ (fun e => hne (by have := congrArg Addr.block e; first | exact this | exact this.symm)), World.cell?_setCell_other _ _ _ _ (fun e => hne (by have := congrArg Addr.block e; first | exact this | exact this.symm))]
    exact hc j hj
theorem rd4_other {w w' : World} {B : Nat} (hB : NumB w B) (hs : ∀ b, b ≠ B → w'.heap[b]? = w.heap[b]?) {ao : Option Addr} {len cap : Nat} {xs : List Nat} (h : Rd4 w ao len cap xs) : Rd4 w' ao len cap xs := by
  refine ⟨h.length, h.le, h.max, h.lt, h.nil, ?_⟩
  rcases h.cells with h0 | ⟨b, off, ha, hc⟩
  · exact .inl h0
  · refine .inr ⟨b, off, ha, fun j hj => ?_⟩
    have hne : b ≠ B := by rintro rfl; exact hB.not _ _ (hc j hj)
    rw [World.cell?_of_block (w := w) (w' := w') (a := ⟨b, off + j, none⟩) (hs b hne)]
    exact hc j hj
theorem dig_drop_pred {xs : List Nat} {k : Nat} : dig (xs.drop k) = xs[k]?.getD 0 + 4294967296 * dig (xs.drop (k + 1)) := by
  rw [dig_head, List.getElem?_drop, Nat.add_zero, List.drop_drop]
set_option maxRecDepth 100000 in
set_option maxHeartbeats 1000000 in
theorem word_any (ao : Option Addr) (len cap : Nat) (xs : List Nat) (w : World) (hr : Rd4 w ao len cap xs) (hl : len ≤ 2) :
    Calls Try.prog 112 #[.slice ao len cap] w fun e w' => e = .returned (.int .u64 (dig xs : Nat)) ∧ w' = w := by
  have hle := hr.le
  have hmx := hr.max
  have HR : Hid _ := hr
  have HL : Hid (xs.length = len) := hr.length
  clear hr
  go_enter Try.func112, Try.ntmps112
  go_wp2_with fail
  go_loop [3, 4] (fun u i => ∃ k : Nat, k ≤ len ∧ i = .int .i64 ((k : Int) - 1) ∧ u = .int .u64 (dig (xs.drop k) : Nat)) (fun _ i => (intOf i + 1).toNat)
  case atStart => exact ⟨len, by omega, rfl, by rw [List.drop_of_length_le (by rw [HL.out]; omega)]; rfl⟩
  case round =>
    obtain ⟨k, hk, rfl, rfl⟩ := hrel
    cases k with
    | zero =>
      rw [List.drop_zero]
      have hz : ((0 : Nat) : Int) - 1 = -1 := rfl
      rw [hz]
      go_wp2
      go_ret
      exact ⟨rfl, rfl⟩
    | succ k =>
      rcases HR.out.cells with h0 | ⟨b, off, rfl, hc⟩
      · omega
      have g := hc k (by omega)
      have hlt := HR.out.lt.at k
      have HD : Hid _ := dig_drop_pred (xs := xs) (k := k)
      have hdl := dig_lt (HR.out.lt.drop (k + 1))
      rw [List.length_drop, HL.out] at hdl
      have hdl2 : dig (xs.drop (k + 1)) < 4294967296 := by
        have : wd (len - (k + 1)) ≤ wd 1 := by unfold wd; exact Nat.pow_le_pow_right (by omega) (by omega)
        have h1 : wd 1 = 4294967296 := by decide
        omega
      clear hc hdl
      generalize hxe : xs[k]?.getD 0 = x at *
      generalize hDe : dig (xs.drop (k + 1)) = D at *
      have hz : ((k + 1 : Nat) : Int) - 1 = (k : Int) := by omega
      rw [hz]
      have hor : bits .or .u64 ((D : Int) * 4294967296) (x : Int) = ((x + 4294967296 * D : Nat) : Int) := by
        rw [show (D : Int) * 4294967296 = ((4294967296 * D : Nat) : Int) by omega, u64_or_nat _ _ (by omega) (by omega)]
        congr 1
        have := Nat.two_pow_add_eq_or_of_lt (i := 32) (b := x) (by omega) D
        rw [show (2 : Nat) ^ 32 = 4294967296 by decide] at this
        rw [← this, Nat.add_comm]
      go_wp2_with fail
      go_round
      case rel => exact ⟨k, by omega, rfl, by rw [HD.out, Int.natCast_add, Int.natCast_mul]; rfl⟩
      case measure => show (((k : Int) - 1) + 1).toNat < ((k : Int) + 1).toNat; omega
set_option maxRecDepth 100000 in
set_option maxHeartbeats 1000000 in
theorem over2_any (v : Value) (neg : Bool) (m : Nat) (e n : Int) (he : -20000 ≤ e ∧ e ≤ 20000) (hn : -20000 ≤ n ∧ n ≤ 20000) (hb : bl m ≤ 100000) (w : World) (h : NumV w v neg m e) :
    Calls Try.prog 110 #[v, .int .i64 n] w fun e' w' => ∃ v', e' = .returned (.tuple #[v', .bool (if n ≤ e then false else nz (m % 2 ^ (n - e).toNat))]) ∧ NumV w' v' false (if n ≤ e then m * 2 ^ (e - n).toNat else m / 2 ^ (n - e).toNat) 0 ∧ Below w.heap.size w w' := by
  obtain ⟨ao, len, cap, xs, rfl, hr, hnm, hm⟩ := h
  have hl : len ≤ 10000 := by have := len_bl hr.length hr.lt hnm; rw [hm] at this; omega
  have HR : Hid _ := hr
  clear hr
  obtain ⟨d, hd⟩ : ∃ d : Nat, (if n ≤ e then (e - n).toNat else (n - e).toNat) = d := ⟨_, rfl⟩
  have hb0 : Below w.heap.size w ((w.alloc (Obj.cells #[Value.bool neg, Value.slice ao len cap, Value.int IntKind.i64 e] 27)).alloc (Obj.cells #[Value.bool false, Value.slice none 0 0, Value.int IntKind.i64 0] 27)) := ((Below.refl _ _).alloc (Nat.le_refl _) _).alloc (by simp) _
  have hg0 : ((w.alloc (Obj.cells #[Value.bool neg, Value.slice ao len cap, Value.int IntKind.i64 e] 27)).alloc (Obj.cells #[Value.bool false, Value.slice none 0 0, Value.int IntKind.i64 0] 27)).heap[w.heap.size + 1]? = some (Obj.cells #[Value.bool false, Value.slice none 0 0, Value.int IntKind.i64 0] 27) := by
    have := heap_alloc_new (w.alloc (Obj.cells #[Value.bool neg, Value.slice ao len cap, Value.int IntKind.i64 e] 27)) (Obj.cells #[Value.bool false, Value.slice none 0 0, Value.int IntKind.i64 0] 27); simpa using this
  have hz0 : ((w.alloc (Obj.cells #[Value.bool neg, Value.slice ao len cap, Value.int IntKind.i64 e] 27)).alloc (Obj.cells #[Value.bool false, Value.slice none 0 0, Value.int IntKind.i64 0] 27)).heap.size = w.heap.size + 2 := by simp
  have H0 : Hid _ := hb0
  have H1 : Hid _ := hg0
  have H2 : Hid _ := hz0
  clear hb0 hg0 hz0
  by_cases h0 : n ≤ e
  · rw [if_pos h0] at hd
    rw [if_pos h0, if_pos h0, hd]
    have hdi : e - n = (d : Int) := by omega
    go_enter Try.func110, Try.ntmps110
    go_wp2_with fail
    refine (left_any ao len cap xs d _ (HR.out.later H0.out) (by omega) hl).mono ?_
    rintro e2 w2 ⟨ao', k, cap', zs, rfl, hr2, hn2, hd2, hb2, hk2⟩
    have hg1 := (hb2.block (w.heap.size + 1) (by rw [H2.out]; omega)).trans H1.out
    have hB2 : Below w.heap.size w w2 := H0.out.trans (hb2.mono (by rw [H2.out]; omega))
    obtain ⟨c0, c1, c2⟩ := three_cells hg1
    have f1 := fun j => frozen_of_row _ _ j _ _ hg1
    have HG1 : Hid _ := hg1
    have HB2 : Hid _ := hB2
    have HR2 : Hid _ := hr2
    clear hb2 hg1 hB2 hr2
    go_wp2_with fail
    refine bodyPost_ret (v := .tuple #[.agg #[.bool false, .slice ao' k cap', .int .i64 0], .bool false]) (res_num2 _ 4 5 (by kernel_rfl) _ _ (w.heap.size + 1) _ _ _ _ (by rfl) (by rfl) (set3_heap _ _ _ HG1.out)) rfl ⟨_, rfl, ?_, ?_⟩
    · exact ⟨ao', k, cap', zs, rfl, rd4_set3 _ _ _ ⟨_, _, _, _, _, HG1.out⟩ HR2.out, hn2, by rw [hd2, hm]⟩
    · exact ((HB2.out.setCell (Nat.le_succ _) _).setCell (Nat.le_succ _) _).setCell (Nat.le_succ _) _
  · rw [if_neg h0] at hd
    rw [if_neg h0, if_neg h0, hd]
    have hdi : n - e = (d : Int) := by omega
    go_enter Try.func110, Try.ntmps110
    go_wp2_with fail
    refine (right_any ao len cap xs d _ (HR.out.later H0.out) (by omega) hl).mono ?_
    rintro e2 w2 ⟨ao', k, cap', rfl, zs, hr2, hn2, hd2, hb2, hk2⟩
    have hg1 := (hb2.block (w.heap.size + 1) (by rw [H2.out]; omega)).trans H1.out
    have hB2 : Below w.heap.size w w2 := H0.out.trans (hb2.mono (by rw [H2.out]; omega))
    obtain ⟨c0, c1, c2⟩ := three_cells hg1
    have f1 := fun j => frozen_of_row _ _ j _ _ hg1
    have HG1 : Hid _ := hg1
    have HB2 : Hid _ := hB2
    have HR2 : Hid _ := hr2
    clear hb2 hg1 hB2 hr2
    go_wp2_with fail
    refine bodyPost_ret (v := .tuple #[.agg #[.bool false, .slice ao' k cap', .int .i64 0], .bool (nz (m % 2 ^ d))]) (res_num2 _ 4 5 (by kernel_rfl) _ _ (w.heap.size + 1) _ _ _ _ (by rfl) (by rfl) (set3_heap _ _ _ HG1.out)) rfl ⟨_, rfl, ?_, ?_⟩
    · exact ⟨ao', k, cap', zs, rfl, rd4_set3 _ _ _ ⟨_, _, _, _, _, HG1.out⟩ HR2.out, hn2, by rw [hd2, hm]⟩
    · exact ((HB2.out.setCell (Nat.le_succ _) _).setCell (Nat.le_succ _) _).setCell (Nat.le_succ _) _
end Go.Proofs.Ytigaggkipmcgeaa
