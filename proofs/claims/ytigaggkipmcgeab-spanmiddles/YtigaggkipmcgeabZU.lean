import Derived.Test.YtigaggkipmcgeabMV
namespace Go.Proofs.Ytigaggkipmcgeab
open Go.RowKit
set_option linter.unusedVariables false

set_option maxRecDepth 100000 in
set_option maxHeartbeats 2000000 in
theorem width_any (al ah : Nat) (ab : Bool) (hal : al < 18446744073709551616) (hah : ah < 18446744073709551616) : ∃ p, (Good al ah ab → RndZ 1 (fval ah - fval al) 1 p) ∧ (¬ Good al ah ab → p = (0, false)) ∧
    ∀ w, Calls Try.prog 33 #[.agg #[.float .f64 al, .float .f64 ah, .bool ab]] w fun e w' => e = .returned (.tuple #[.float .f64 p.1, .bool p.2]) ∧ Below w.heap.size w w' := by
  by_cases hg : Good al ah ab
  · obtain ⟨p, p1, -, p2⟩ := sub_any 1 ah al hah hal
    refine ⟨p, fun _ => p1 hg.2.2.1 hg.2.1, fun c => absurd hg c, fun w => ?_⟩
    have HP : Hid _ := p2
    have hgd : decide (Good al ah ab) = true := decide_eq_true hg
    clear p1 p2 hg
    obtain ⟨g0, gb⟩ := alloc1_facts w (Obj.cells #[Value.float .f64 al, .float .f64 ah, .bool ab] 24)
    have GA : Hid _ := g0
    have GB : Hid _ := gb
    clear g0 gb
    go_enter Try.func33, Try.ntmps33
    go_upto_region 1 with fail
    generalize (w.alloc (Obj.cells #[Value.float .f64 al, .float .f64 ah, .bool ab] 24)) = W3 at GA GB ⊢
    obtain ⟨a0, a1, a2⟩ := cells3 GA.out
    have N4 : Hid _ := heap_alloc_new W3 (Obj.cells #[Value.float .f64 al, .float .f64 ah, .bool ab] 24)
    have PGA : Hid _ := alloc4 GA.out GB.out (Obj.cells #[Value.float .f64 al, .float .f64 ah, .bool ab] 24)
    clear GB GA
    go_wp2_with fail
    clear a0 a1 a2
    generalize W3.alloc (Obj.cells #[Value.float .f64 al, .float .f64 ah, .bool ab] 24) = W4 at N4 PGA ⊢
    refine Calls.mono (good1_any N4.out hal hah) ?_
    rintro e w1 ⟨rfl, bw⟩
    have GA1 : Hid _ := (bw.block _ (blk_lt PGA.out.1)).trans PGA.out.1
    have C1 : Hid (Below w.heap.size w w1) := PGA.out.2.trans (bw.mono PGA.out.2.size)
    clear bw N4 PGA
    rw [hgd]
    obtain ⟨a0, a1, a2⟩ := cells3 GA1.out
    go_wp2_with fail
    refine Calls.mono (HP.out _) ?_
    rintro e w2 ⟨rfl, hw⟩
    rw [hw]; clear hw
    go_wp2_with fail
    go_ret2
    exact ⟨rfl, C1.out⟩
  · refine ⟨(0, false), fun c => absurd c hg, fun _ => rfl, fun w => ?_⟩
    have hgd : decide (Good al ah ab) = false := decide_eq_false hg
    clear hg
    obtain ⟨g0, gb⟩ := alloc1_facts w (Obj.cells #[Value.float .f64 al, .float .f64 ah, .bool ab] 24)
    have GA : Hid _ := g0
    have GB : Hid _ := gb
    clear g0 gb
    go_enter Try.func33, Try.ntmps33
    go_upto_region 1 with fail
    generalize (w.alloc (Obj.cells #[Value.float .f64 al, .float .f64 ah, .bool ab] 24)) = W3 at GA GB ⊢
    obtain ⟨a0, a1, a2⟩ := cells3 GA.out
    have N4 : Hid _ := heap_alloc_new W3 (Obj.cells #[Value.float .f64 al, .float .f64 ah, .bool ab] 24)
    have PGA : Hid _ := alloc4 GA.out GB.out (Obj.cells #[Value.float .f64 al, .float .f64 ah, .bool ab] 24)
    clear GB GA
    go_wp2_with fail
    clear a0 a1 a2
    generalize W3.alloc (Obj.cells #[Value.float .f64 al, .float .f64 ah, .bool ab] 24) = W4 at N4 PGA ⊢
    refine Calls.mono (good1_any N4.out hal hah) ?_
    rintro e w1 ⟨rfl, bw⟩
    have GA1 : Hid _ := (bw.block _ (blk_lt PGA.out.1)).trans PGA.out.1
    have C1 : Hid (Below w.heap.size w w1) := PGA.out.2.trans (bw.mono PGA.out.2.size)
    clear bw N4 PGA
    rw [hgd]
    go_wp2_with fail
    go_ret2
    exact ⟨rfl, C1.out⟩
/-- What the document tells of a span by a number. -/
def TellR (P : Prop) (d V : Int) (D : Nat) (w : World) (e : Ending) (w' : World) : Prop := ∃ (a : Nat) (b : Bool), e = .returned (.tuple #[.int .u64 (a : Int), .bool b]) ∧ (P → RndZ d V D (a, b)) ∧ (¬ P → a = 0 ∧ b = false) ∧ Below w.heap.size w w'
theorem movedHalf_any (v : Value) (s : Nat) (T z : Int) (w : World) (h : NumZ w v s T z) (hs : s ≤ 20000) (hT : 0 ≤ T ∧ T ≤ 20000) :
    Calls Try.prog 22 #[v, .int .i64 (-1)] w fun e' w' => ∃ v', e' = .returned v' ∧ NumZ w' v' (s + 1) T z ∧ Below w.heap.size w w' := by
  obtain ⟨neg, m, e, h1, h2, h3, h4⟩ := h
  have hb : (0 : Int) ≤ (bl m : Int) := by omega
  refine Calls.mono (moved_any v neg m e (-1) (by omega) (by omega) w h1) ?_
  rintro e' w' ⟨v', rfl, hN, hB⟩
  refine ⟨v', rfl, ⟨neg, m, _, hN, ?_, ?_, ?_⟩, hB⟩
  · split <;> omega
  · split <;> omega
  · rw [← h4]
    by_cases h0 : m = 0
    · subst h0
      unfold zv; simp [sv_zero]
    · rw [if_neg h0]
      unfold zv
      rw [show e + -1 + ((s + 1 : Nat) : Int) = e + (s : Int) by omega]
end Go.Proofs.Ytigaggkipmcgeab
