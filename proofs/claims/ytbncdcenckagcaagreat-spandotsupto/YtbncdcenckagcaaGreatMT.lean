import Derived.Test.YtbncdcenckagcaaGreatMS
import Derived.LoopN
namespace Go.Proofs.YtbncdcenckagcaaGreat
open Go.RowKit
set_option linter.unusedVariables false

def farX (d : Int) (x y : Nat) : Nat := if d = 2 then lesser x y else greater x y
theorem farther_any (d : Int) (x y : Nat) (hx : Fin x) (hy : Fin y) (cx : Canon x) (cy : Canon y) (w : World) :
    Calls Tryz.prog 83 #[.int .i64 d, .float .f64 x, .float .f64 y] w fun e w' => e = .returned (.float .f64 (farX d x y)) ∧ w' = w := by
  by_cases hd : d = 2
  · subst hd
    obtain ⟨r, h1, h2, hr⟩ := run_min (P := Tryz.prog) (Nat.le_of_lt hx) (Nat.le_of_lt hy)
    have HR : Hid (farX 2 x y = r) := by
      unfold Hid farX; rw [if_pos rfl]
      refine canon_inj (lesser_of cx cy) (by rcases h1 with rfl | rfl <;> assumption) ?_
      rw [srung_lesser, h2]
    clear h1 h2
    go_enter Tryz.func83, Tryz.ntmps83
    go_wp2
    go_ret
    exact ⟨by rw [HR.out]; rfl, rfl⟩
  · obtain ⟨r, h1, h2, hr⟩ := run_max (P := Tryz.prog) (Nat.le_of_lt hx) (Nat.le_of_lt hy)
    have HR : Hid (farX d x y = r) := by
      unfold Hid farX; rw [if_neg hd]
      refine canon_inj (greater_of cx cy) (by rcases h1 with rfl | rfl <;> assumption) ?_
      rw [srung_greater, h2]
    have hdd : (d == 2) = false := by simpa using hd
    clear h1 h2
    go_enter Tryz.func83, Tryz.ntmps83
    go_wp2
    go_ret
    exact ⟨by rw [HR.out]; rfl, rfl⟩
theorem ix0 (a b c d e f : Nat) (w : World) : (Instr.index 113 (.agg #[.float .f64 a, .float .f64 b, .float .f64 c, .float .f64 d, .float .f64 e, .float .f64 f]) (.int .i64 0)).run Tryz.prog w = .ok (.agg #[.float .f64 a, .float .f64 b]) w := by kernel_rfl
theorem ix1 (a b c d e f : Nat) (w : World) : (Instr.index 113 (.agg #[.float .f64 a, .float .f64 b, .float .f64 c, .float .f64 d, .float .f64 e, .float .f64 f]) (.int .i64 1)).run Tryz.prog w = .ok (.agg #[.float .f64 c, .float .f64 d]) w := by kernel_rfl
theorem ix2 (a b c d e f : Nat) (w : World) : (Instr.index 113 (.agg #[.float .f64 a, .float .f64 b, .float .f64 c, .float .f64 d, .float .f64 e, .float .f64 f]) (.int .i64 2)).run Tryz.prog w = .ok (.agg #[.float .f64 e, .float .f64 f]) w := by kernel_rfl
def FC (x : Nat) : Prop := Fin x ∧ Canon x
theorem FC.far {d : Int} {x y : Nat} (hx : FC x) (hy : FC y) : FC (farX d x y) := by
  unfold farX; split
  · exact lesser_of hx hy
  · exact greater_of hx hy
set_option maxRecDepth 100000 in
set_option maxHeartbeats 2000000 in
theorem far1_any (K : Nat) (eg : ∀ args w, (callFunc K args).run Tryz.prog w = .ok (.enter K args) w) (d : Int) (B1 B2 B3 al ah bl bh : Nat) (ab bb : Bool) (w : World)
    (h1 : w.heap[B1]? = some (.cells #[.func (.func K) #[] #[]] 111)) (h2 : w.heap[B2]? = some (.cells #[.float .f64 al, .float .f64 ah, .bool ab] 34)) (h3 : w.heap[B3]? = some (.cells #[.float .f64 bl, .float .f64 bh, .bool bb] 34))
    (x1 x2 x3 x4 : Nat) (o1 o2 o3 o4 : Bool) (f1 : FC x1) (f2 : FC x2) (f3 : FC x3) (f4 : FC x4)
    (c1 : ∀ w, Calls Tryz.prog K #[.int .i64 d, .float .f64 al, .float .f64 bl] w fun e w' => e = .returned (.tuple #[.float .f64 x1, .bool o1]) ∧ w' = w)
    (c2 : ∀ w, Calls Tryz.prog K #[.int .i64 d, .float .f64 al, .float .f64 bh] w fun e w' => e = .returned (.tuple #[.float .f64 x2, .bool o2]) ∧ w' = w)
    (c3 : ∀ w, Calls Tryz.prog K #[.int .i64 d, .float .f64 ah, .float .f64 bl] w fun e w' => e = .returned (.tuple #[.float .f64 x3, .bool o3]) ∧ w' = w)
    (c4 : ∀ w, Calls Tryz.prog K #[.int .i64 d, .float .f64 ah, .float .f64 bh] w fun e w' => e = .returned (.tuple #[.float .f64 x4, .bool o4]) ∧ w' = w) :
    Calls Tryz.prog 82 #[.int .i64 d, .pointer (some ⟨B1, 0, none⟩), .pointer (some ⟨B2, 0, none⟩), .pointer (some ⟨B3, 0, none⟩)] w fun e w' => e = .returned (.tuple #[.float .f64 (farX d (farX d (farX d x1 x2) x3) x4), .bool (o1 && o2 && o3 && o4)]) ∧ Below w.heap.size w w' := by
  have k0 := cell_of_one h1
  obtain ⟨a0, a1, a2⟩ := cells3 h2
  obtain ⟨b0, b1, b2⟩ := cells3 h3
  have C1 : Hid _ := c1
  have C2 : Hid _ := c2
  have C3 : Hid _ := c3
  have C4 : Hid _ := c4
  have hsf := run_store_f
  have H1 : Hid _ := h1
  clear c1 c2 c3 c4 h1 h2 h3
  go_enter Tryz.func82, Tryz.ntmps82
  go_wp2_with fail
  refine Calls.mono (C1.out _) ?_
  rintro e w1 ⟨rfl, hw⟩
  rw [hw]; clear hw
  go_wp2_with fail
  have Q0 : Hid (w.heap[B1]? = some (.cells #[.func (.func K) #[] #[]] 111)) := H1.out
  have L0 : Hid (B1 < w.heap.size) := lt_of_block Q0.out
  have D0 : Hid (Below w.heap.size w w) := Below.refl _ _
  clear k0 a0 a1 a2 b0 b1 b2 H1
  have i0 := ix0
  have i1 := ix1
  have i2 := ix2
  have hcase : o1 = false ∨ (o1 = true ∧ o2 = false) ∨ (o1 = true ∧ o2 = true ∧ o3 = false) ∨ (o1 = true ∧ o2 = true ∧ o3 = true) := by cases o1 <;> cases o2 <;> cases o3 <;> simp
  rcases hcase with rfl | ⟨rfl, rfl⟩ | ⟨rfl, rfl, rfl⟩ | ⟨rfl, rfl, rfl⟩
  all_goals
    refine wp_loop_rounds 4 ?_
    rw [rounds_succ]
    go_upto_region 5 with fail
    have n1 := heap_alloc_new w (.cells #[.float .f64 al, .float .f64 bh] 112)
    have q1 : Hid _ := (((Below.refl _ w).alloc (Nat.le_refl _) (.cells #[.float .f64 al, .float .f64 bh] 112)).block B1 L0.out).trans Q0.out
    have L1 : Hid (B1 < (w.alloc (.cells #[.float .f64 al, .float .f64 bh] 112)).heap.size) := by have := L0.out; unfold Hid; simp; omega
    have D1 : Hid (Below w.heap.size w (w.alloc (.cells #[.float .f64 al, .float .f64 bh] 112))) := D0.out.alloc D0.out.size _
    generalize w.alloc (.cells #[.float .f64 al, .float .f64 bh] 112) = W1 at n1 q1 L1 D1 ⊢
    have Q1 : Hid (W1.heap[B1]? = some (.cells #[.func (.func K) #[] #[]] 111)) := q1.out
    have k0 := cell_of_one Q1.out
    have c0 := cell_of_row _ _ 0 _ _ _ n1
    have c1 := cell_of_row _ _ 1 _ _ _ n1
    clear n1 q1 L0 D0 Q0
    go_wp2_with fail
    refine Calls.mono (C2.out _) ?_
    rintro e v1 ⟨rfl, hw⟩
    rw [hw]; clear hw
    clear k0 c0 c1
    go_wp2_with fail
    refine Calls.mono (farther_any d x1 x2 (f1).1 f2.1 (f1).2 f2.2 _) ?_
    rintro e v1 ⟨rfl, hw⟩
    rw [hw]; clear hw
    generalize hF1 : farX d x1 x2 = y1
    have YF1 : Hid (farX d x1 x2 = y1) := hF1
    have Y1 : FC y1 := by rw [← hF1]; exact FC.far (f1) f2
    clear hF1
    go_wp2_with fail
    rw [rounds_succ]
    go_upto_region 5 with fail
    have n2 := heap_alloc_new W1 (.cells #[.float .f64 ah, .float .f64 bl] 112)
    have q2 : Hid _ := (((Below.refl _ W1).alloc (Nat.le_refl _) (.cells #[.float .f64 ah, .float .f64 bl] 112)).block B1 L1.out).trans Q1.out
    have L2 : Hid (B1 < (W1.alloc (.cells #[.float .f64 ah, .float .f64 bl] 112)).heap.size) := by have := L1.out; unfold Hid; simp; omega
    have D2 : Hid (Below w.heap.size w (W1.alloc (.cells #[.float .f64 ah, .float .f64 bl] 112))) := D1.out.alloc D1.out.size _
    generalize W1.alloc (.cells #[.float .f64 ah, .float .f64 bl] 112) = W2 at n2 q2 L2 D2 ⊢
    have Q2 : Hid (W2.heap[B1]? = some (.cells #[.func (.func K) #[] #[]] 111)) := q2.out
    have k0 := cell_of_one Q2.out
    have c0 := cell_of_row _ _ 0 _ _ _ n2
    have c1 := cell_of_row _ _ 1 _ _ _ n2
    clear n2 q2 L1 D1 Q1
    go_wp2_with fail
    refine Calls.mono (C3.out _) ?_
    rintro e v2 ⟨rfl, hw⟩
    rw [hw]; clear hw
    clear k0 c0 c1
    go_wp2_with fail
    refine Calls.mono (farther_any d y1 x3 (Y1).1 f3.1 (Y1).2 f3.2 _) ?_
    rintro e v2 ⟨rfl, hw⟩
    rw [hw]; clear hw
    generalize hF2 : farX d y1 x3 = y2
    have YF2 : Hid (farX d y1 x3 = y2) := hF2
    have Y2 : FC y2 := by rw [← hF2]; exact FC.far (Y1) f3
    clear hF2
    go_wp2_with fail
    rw [rounds_succ]
    go_upto_region 5 with fail
    have n3 := heap_alloc_new W2 (.cells #[.float .f64 ah, .float .f64 bh] 112)
    have q3 : Hid _ := (((Below.refl _ W2).alloc (Nat.le_refl _) (.cells #[.float .f64 ah, .float .f64 bh] 112)).block B1 L2.out).trans Q2.out
    have L3 : Hid (B1 < (W2.alloc (.cells #[.float .f64 ah, .float .f64 bh] 112)).heap.size) := by have := L2.out; unfold Hid; simp; omega
    have D3 : Hid (Below w.heap.size w (W2.alloc (.cells #[.float .f64 ah, .float .f64 bh] 112))) := D2.out.alloc D2.out.size _
    generalize W2.alloc (.cells #[.float .f64 ah, .float .f64 bh] 112) = W3 at n3 q3 L3 D3 ⊢
    have Q3 : Hid (W3.heap[B1]? = some (.cells #[.func (.func K) #[] #[]] 111)) := q3.out
    have k0 := cell_of_one Q3.out
    have c0 := cell_of_row _ _ 0 _ _ _ n3
    have c1 := cell_of_row _ _ 1 _ _ _ n3
    clear n3 q3 L2 D2 Q2
    go_wp2_with fail
    refine Calls.mono (C4.out _) ?_
    rintro e v3 ⟨rfl, hw⟩
    rw [hw]; clear hw
    clear k0 c0 c1
    go_wp2_with fail
    refine Calls.mono (farther_any d y2 x4 (Y2).1 f4.1 (Y2).2 f4.2 _) ?_
    rintro e v3 ⟨rfl, hw⟩
    rw [hw]; clear hw
    generalize hF3 : farX d y2 x4 = y3
    have YF3 : Hid (farX d y2 x4 = y3) := hF3
    have Y3 : FC y3 := by rw [← hF3]; exact FC.far (Y2) f4
    clear hF3
    go_wp2_with fail
    rw [rounds_succ]
    go_wp2_with fail
    go_ret2
    exact ⟨by rw [YF1.out, YF2.out, YF3.out]; rfl, D3.out⟩
end Go.Proofs.YtbncdcenckagcaaGreat

namespace Go.Proofs.YtbncdcenckagcaaGreat
open Go.RowKit
set_option linter.unusedVariables false

theorem hMakeFunc : ∀ (fn : Fn) (first cap : Array Value) (w : World), (Instr.makeFunc fn first cap).run Tryz.prog w = .ok (.func fn first cap) w := fun _ _ _ _ => rfl
/-- The closure of an operation and two spans, in three new blocks. -/
structure FarAt (w w' : World) (v : Value) (K al ah bl bh : Nat) (ab bb : Bool) : Prop where
  eq : ∃ B1 B2 B3, v = .func (.func 82) #[] #[.pointer (some ⟨B1, 0, none⟩), .pointer (some ⟨B2, 0, none⟩), .pointer (some ⟨B3, 0, none⟩)] ∧ w'.heap[B1]? = some (.cells #[.func (.func K) #[] #[]] 111) ∧ w'.heap[B2]? = some (.cells #[.float .f64 al, .float .f64 ah, .bool ab] 34) ∧ w'.heap[B3]? = some (.cells #[.float .f64 bl, .float .f64 bh, .bool bb] 34)
  bel : Below w.heap.size w w'
set_option maxRecDepth 100000 in
theorem farthest_any (K al ah bl bh : Nat) (ab bb : Bool) (w : World) :
    Calls Tryz.prog 57 #[.func (.func K) #[] #[], .agg #[.float .f64 al, .float .f64 ah, .bool ab], .agg #[.float .f64 bl, .float .f64 bh, .bool bb]] w fun e w' => ∃ v, e = .returned v ∧ FarAt w w' v K al ah bl bh ab bb := by
  have hmf := hMakeFunc
  obtain ⟨g0, g1, g2, gz, gb⟩ := alloc3_facts w (Obj.cells #[Value.func (.func K) #[] #[]] 111) (Obj.cells #[.float .f64 al, .float .f64 ah, .bool ab] 34) (Obj.cells #[.float .f64 bl, .float .f64 bh, .bool bb] 34)
  have HG : Hid (FarAt w _ _ K al ah bl bh ab bb) := ⟨⟨_, _, _, rfl, g0, g1, g2⟩, gb⟩
  clear g0 g1 g2 gz gb
  go_enter Tryz.func57, Tryz.ntmps57
  go_wp2_with fail
  go_ret
  exact ⟨_, rfl, HG.out⟩
/-- The operation's four answers. -/
structure Four (K : Nat) (d : Int) (al ah bl bh : Nat) (p1 p2 p3 p4 : Nat × Bool) : Prop where
  f1 : FC p1.1
  f2 : FC p2.1
  f3 : FC p3.1
  f4 : FC p4.1
  c1 : ∀ w, Calls Tryz.prog K #[.int .i64 d, .float .f64 al, .float .f64 bl] w fun e w' => e = .returned (.tuple #[.float .f64 p1.1, .bool p1.2]) ∧ w' = w
  c2 : ∀ w, Calls Tryz.prog K #[.int .i64 d, .float .f64 al, .float .f64 bh] w fun e w' => e = .returned (.tuple #[.float .f64 p2.1, .bool p2.2]) ∧ w' = w
  c3 : ∀ w, Calls Tryz.prog K #[.int .i64 d, .float .f64 ah, .float .f64 bl] w fun e w' => e = .returned (.tuple #[.float .f64 p3.1, .bool p3.2]) ∧ w' = w
  c4 : ∀ w, Calls Tryz.prog K #[.int .i64 d, .float .f64 ah, .float .f64 bh] w fun e w' => e = .returned (.tuple #[.float .f64 p4.1, .bool p4.2]) ∧ w' = w
def far4 (d : Int) (p1 p2 p3 p4 : Nat × Bool) : Nat × Bool := (farX d (farX d (farX d p1.1 p2.1) p3.1) p4.1, p1.2 && p2.2 && p3.2 && p4.2)
theorem FarAt.tells {w w' : World} {v : Value} {K al ah bl bh : Nat} {ab bb : Bool} (h : FarAt w w' v K al ah bl bh ab bb) (eg : ∀ args w, (callFunc K args).run Tryz.prog w = .ok (.enter K args) w) :
    ∃ caps, v = .func (.func 82) #[] caps ∧ ∀ d p1 p2 p3 p4, Four K d al ah bl bh p1 p2 p3 p4 → Tells 82 caps w' d (far4 d p1 p2 p3 p4) := by
  obtain ⟨B1, B2, B3, rfl, h1, h2, h3⟩ := h.eq
  refine ⟨_, rfl, fun d p1 p2 p3 p4 f w2 hb => ?_⟩
  exact far1_any K eg d B1 B2 B3 al ah bl bh ab bb w2 ((hb.block _ (lt_of_block h1)).trans h1) ((hb.block _ (by
    rcases Nat.lt_or_ge B2 w'.heap.size with c | c
    · exact c
    · rw [Array.getElem?_eq_none c] at h2; cases h2)).trans h2) ((hb.block _ (by
    rcases Nat.lt_or_ge B3 w'.heap.size with c | c
    · exact c
    · rw [Array.getElem?_eq_none c] at h3; cases h3)).trans h3) p1.1 p2.1 p3.1 p4.1 p1.2 p2.2 p3.2 p4.2 f.f1 f.f2 f.f3 f.f4 f.c1 f.c2 f.c3 f.c4
end Go.Proofs.YtbncdcenckagcaaGreat
