import Derived.Test.YtigaggkipmcgeaaZH
namespace Go.Proofs.Ytigaggkipmcgeaa
open Go.RowKit
set_option linter.unusedVariables false

/-- A number lies between two. -/
def leF (x y : Nat) : Bool := decide (frung x ≤ infK ∧ frung y ≤ infK ∧ srung x ≤ srung y)
def hasB (lo hi a : Nat) : Bool := leF lo a && leF a hi
theorem leF_ord (x y : Nat) : (FloatKind.f64.format.order x y == some .lt || FloatKind.f64.format.order x y == some .eq) = leF x y := by rw [f64_fmt, ord_le]; rfl
theorem alloc1_facts (w : World) (o : Obj) : (w.alloc o).heap[w.heap.size]? = some o ∧ Below w.heap.size w (w.alloc o) := ⟨heap_alloc_new w o, (Below.refl _ w).alloc (Nat.le_refl _) _⟩
set_option maxRecDepth 100000 in
set_option maxHeartbeats 2000000 in
theorem has_any (al ah x : Nat) (ab : Bool) (hal : al < 18446744073709551616) (hah : ah < 18446744073709551616) (w : World) :
    Calls Try.prog 41 #[.agg #[.float .f64 al, .float .f64 ah, .bool ab], .float .f64 x] w fun e w' => e = .returned (.bool (decide (Good al ah ab) && hasB al ah x)) ∧ Below w.heap.size w w' := by
  obtain ⟨g0, gb⟩ := alloc1_facts w (Obj.cells #[Value.float .f64 al, .float .f64 ah, .bool ab] 68)
  have G0 : Hid _ := g0
  have GB : Hid _ := gb
  clear g0 gb
  go_enter Try.func41, Try.ntmps41
  go_upto_region 1 with fail
  generalize (w.alloc (Obj.cells #[Value.float .f64 al, .float .f64 ah, .bool ab] 68)) = W3 at G0 GB ⊢
  obtain ⟨a0, a1, a2⟩ := cells3 G0.out
  have N4 : Hid _ := heap_alloc_new W3 (Obj.cells #[Value.float .f64 al, .float .f64 ah, .bool ab] 68)
  have P0 : Hid _ := alloc4 G0.out GB.out (Obj.cells #[Value.float .f64 al, .float .f64 ah, .bool ab] 68)
  clear G0 GB
  go_wp2_with fail
  clear a0 a1 a2
  generalize W3.alloc (Obj.cells #[Value.float .f64 al, .float .f64 ah, .bool ab] 68) = W4 at N4 P0 ⊢
  refine Calls.mono (good1_any N4.out hal hah) ?_
  rintro e w1 ⟨rfl, bw⟩
  have A1 : Hid (w1.heap[w.heap.size]? = some (Obj.cells #[Value.float .f64 al, .float .f64 ah, .bool ab] 68)) := (bw.block _ (blk_lt P0.out.1)).trans P0.out.1
  have C1 : Hid (Below w.heap.size w w1) := P0.out.2.trans (bw.mono P0.out.2.size)
  clear bw N4 P0
  obtain ⟨a0, a1, a2⟩ := cells3 A1.out
  by_cases hg : Good al ah ab
  · have HGD : Hid (decide (Good al ah ab) = true) := decide_eq_true hg
    rw [HGD.out]
    clear hg
    have l1 := leF_ord al x
    have l2 := leF_ord x ah
    have HB : Hid (hasB al ah x = (leF al x && leF x ah)) := rfl
    generalize leF al x = q1 at l1 HB
    generalize leF x ah = q2 at l2 HB
    cases q1
    all_goals
      go_wp2_with fail
      go_ret
      exact ⟨by rw [HGD.out, HB.out]; rfl, C1.out⟩
  · have HGD : Hid (decide (Good al ah ab) = false) := decide_eq_false hg
    rw [HGD.out]
    clear hg
    go_wp2_with fail
    go_ret
    exact ⟨by rw [HGD.out]; rfl, C1.out⟩
set_option maxRecDepth 100000 in
set_option maxHeartbeats 2000000 in
theorem inside_any (al ah bl bh : Nat) (ab bb : Bool) (hal : al < 18446744073709551616) (hah : ah < 18446744073709551616) (hbl : bl < 18446744073709551616) (hbh : bh < 18446744073709551616) (w : World) :
    Calls Try.prog 43 #[.agg #[.float .f64 al, .float .f64 ah, .bool ab], .agg #[.float .f64 bl, .float .f64 bh, .bool bb]] w fun e w' => e = .returned (.bool (decide (Good al ah ab ∧ Good bl bh bb) && (leF bl al && leF ah bh))) ∧ Below w.heap.size w w' := by
  obtain ⟨g0, g1, -, gb⟩ := alloc2_facts w (Obj.cells #[Value.float .f64 al, .float .f64 ah, .bool ab] 68) (Obj.cells #[Value.float .f64 bl, .float .f64 bh, .bool bb] 68)
  have G0 : Hid _ := g0
  have G1 : Hid _ := g1
  have GB : Hid _ := gb
  clear g0 g1 gb
  go_enter Try.func43, Try.ntmps43
  go_upto_region 1 with fail
  generalize ((w.alloc (Obj.cells #[Value.float .f64 al, .float .f64 ah, .bool ab] 68)).alloc (Obj.cells #[Value.float .f64 bl, .float .f64 bh, .bool bb] 68)) = W3 at G0 G1 GB ⊢
  obtain ⟨a0, a1, a2⟩ := cells3 G0.out
  obtain ⟨b0, b1, b2⟩ := cells3 G1.out
  have N4 : Hid _ := heap_alloc_new W3 (Obj.cells #[Value.float .f64 al, .float .f64 ah, .bool ab, .float .f64 bl, .float .f64 bh, .bool bb] 68)
  have P0 : Hid _ := alloc4 G0.out GB.out (Obj.cells #[Value.float .f64 al, .float .f64 ah, .bool ab, .float .f64 bl, .float .f64 bh, .bool bb] 68)
  have P1 : Hid _ := alloc4 G1.out GB.out (Obj.cells #[Value.float .f64 al, .float .f64 ah, .bool ab, .float .f64 bl, .float .f64 bh, .bool bb] 68)
  clear G0 G1 GB
  go_wp2_with fail
  clear a0 a1 a2 b0 b1 b2
  generalize W3.alloc (Obj.cells #[Value.float .f64 al, .float .f64 ah, .bool ab, .float .f64 bl, .float .f64 bh, .bool bb] 68) = W4 at N4 P0 P1 ⊢
  refine Calls.mono (good2_any N4.out hal hah hbl hbh) ?_
  rintro e w1 ⟨rfl, bw⟩
  have A1 : Hid (w1.heap[w.heap.size]? = some (Obj.cells #[Value.float .f64 al, .float .f64 ah, .bool ab] 68)) := (bw.block _ (blk_lt P0.out.1)).trans P0.out.1
  have B1 : Hid (w1.heap[w.heap.size + 1]? = some (Obj.cells #[Value.float .f64 bl, .float .f64 bh, .bool bb] 68)) := (bw.block _ (blk_lt P1.out.1)).trans P1.out.1
  have C1 : Hid (Below w.heap.size w w1) := P0.out.2.trans (bw.mono P0.out.2.size)
  clear bw N4 P0 P1
  obtain ⟨a0, a1, a2⟩ := cells3 A1.out
  obtain ⟨b0, b1, b2⟩ := cells3 B1.out
  by_cases hg : Good al ah ab ∧ Good bl bh bb
  · have HGD : Hid (decide (Good al ah ab ∧ Good bl bh bb) = true) := decide_eq_true hg
    rw [HGD.out]
    clear hg
    have l1 := leF_ord bl al
    have l2 := leF_ord ah bh
    have HB : Hid ((leF bl al && leF ah bh) = (leF bl al && leF ah bh)) := rfl
    generalize h1 : leF bl al = q1 at l1
    generalize h2 : leF ah bh = q2 at l2
    have H1 : Hid _ := h1
    have H2 : Hid _ := h2
    clear h1 h2
    cases q1
    all_goals
      go_wp2_with fail
      go_ret
      exact ⟨by rw [HGD.out, H1.out, H2.out]; rfl, C1.out⟩
  · have HGD : Hid (decide (Good al ah ab ∧ Good bl bh bb) = false) := decide_eq_false hg
    rw [HGD.out]
    clear hg
    go_wp2_with fail
    go_ret
    exact ⟨by rw [HGD.out]; rfl, C1.out⟩
end Go.Proofs.Ytigaggkipmcgeaa
