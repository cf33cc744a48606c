import Derived.Test.YtoehhnildocihaaSCb2
import Ieee.Arith
import Derived.Test.YtoehhnildocihaaChecked
import Derived.WalkKit
import Derived.WalkSmall
import Derived.WalkLawsBesides
import Derived.Lib.EndianBits
import Derived.Laws.Bits128
import Derived.Laws.BitsAll
import Derived.BigQuiet
import Derived.RangeFuncNested
import Derived.RangeFuncBound
import Derived.RangeFuncCalls
import Derived.RangeFuncLeaves
import Derived.RangeFuncFrom
import Derived.RangeFuncWrites
import Derived.Shelf.Abstract
import Derived.Shelf.RegionOpen
import Derived.OwnWalkIn
import Derived.TacticsInMore
import Derived.LoopNIn
import Derived.LoopIn
import Derived.Deep.WholeRow
import Derived.Deep.MidRow
import Derived.Laws.CopyOwn
import Derived.Deep.RegionHeld3
import Derived.Laws.OwnMore
import Derived.OneCell
import Derived.Deep.RegionWith
import Derived.Deep.DeepCutAuto
import Derived.Deep.QuietTactic
import Derived.Laws.Externs
import Derived.Deep.DeepMust
import Derived.BigRegion
import Derived.ArgAppend
import Derived.OwnWalk
import Derived.Orders
import Derived.RegionTactic
import Derived.Below
import Derived.Deep.CutRange
import Derived.Laws.AppendOwnNone
import Derived.Test.YtoehhnildocihaaRows
import Derived.Deep.Slices
import Derived.OpenShut
import Derived.Lib.SmallJoins
import Derived.ChangeSame
namespace Go.Proofs.Ytoehhnildocihaa
open Go.RowKit
set_option linter.unusedVariables false
theorem NumZ.set3 {w : World} {B : Nat} (x y z : Value) (hB : NumB w B) {v : Value} {s : Nat} {T r : Int} (h : NumZ w v s T r) : NumZ (((w.setCell ⟨B, 0, none⟩ x).setCell ⟨B, 1, none⟩ y).setCell ⟨B, 2, none⟩ z) v s T r := by
  obtain ⟨neg, m, e, ⟨ao, len, cap, xs, h1, h2, h3⟩, h4⟩ := h
  exact ⟨neg, m, e, ⟨ao, len, cap, xs, h1, rd4_set3 x y z hB h2, h3⟩, h4⟩
theorem below_set3 {w0 w : World} {base B : Nat} (x y z : Value) (h : Below base w0 w) (hB : base ≤ B) : Below base w0 (((w.setCell ⟨B, 0, none⟩ x).setCell ⟨B, 1, none⟩ y).setCell ⟨B, 2, none⟩ z) :=
  ((h.setCell (p := ⟨B, 0, none⟩) hB x).setCell (p := ⟨B, 1, none⟩) hB y).setCell (p := ⟨B, 2, none⟩) hB z
theorem turnedZ_any (v : Value) (s : Nat) (T x : Int) (w : World) (hx : NumZ w v s T x) :
    Calls Try.prog 78 #[v] w fun e' w' => ∃ v', e' = .returned v' ∧ NumZ w' v' s T (-x) ∧ Below w.heap.size w w' := by
  obtain ⟨nx, mx, ex, h1, h2, h3, h4⟩ := hx
  refine (turned_any v nx mx ex w h1).mono ?_
  rintro e' w' ⟨v', rfl, hN, hB⟩
  refine ⟨v', rfl, ⟨_, mx, ex, hN, h2, h3, ?_⟩, hB⟩
  by_cases h0 : mx = 0
  · rw [← h4, h0, zv_zero, zv_zero]; rfl
  · rw [if_neg h0, zv_not, h4]
theorem signZ_any (v : Value) (s : Nat) (T x : Int) (w : World) (hx : NumZ w v s T x) :
    Calls Try.prog 57 #[v] w fun e' w' => e' = .returned (.int .i64 (sgi x)) ∧ Below w.heap.size w w' := by
  obtain ⟨nx, mx, ex, h1, h2, h3, h4⟩ := hx
  refine (sign_any v nx mx ex w h1).mono ?_
  rintro e' w' ⟨rfl, hB⟩
  exact ⟨by rw [← h4, sgi_zv], hB⟩
set_option maxRecDepth 100000 in
theorem minusZ_any (v u : Value) (s : Nat) (T x y : Int) (w : World) (hx : NumZ w v s T x) (hy : NumZ w u s T y) (hs : s ≤ 20000) (hT : 0 ≤ T ∧ T ≤ 20000) :
    Calls Try.prog 59 #[v, u] w fun e' w' => ∃ v', e' = .returned v' ∧ NumZ w' v' s (T + 1) (x - y) ∧ Below w.heap.size w w' := by
  have HX : Hid (NumZ w v s T x) := hx
  have HY : Hid (NumZ w u s T y) := hy
  obtain ⟨nx, mx, ex, ⟨ao, len, cap, xs, rfl, -⟩, -⟩ := hx
  obtain ⟨ny, my, ey, ⟨bo, blen, bcap, ys, rfl, -⟩, -⟩ := hy
  obtain ⟨p0, p1, p2, pz, pb⟩ := alloc3_facts w (Obj.cells #[Value.bool nx, Value.slice ao len cap, Value.int IntKind.i64 ex] 87) (Obj.cells #[Value.bool ny, Value.slice bo blen bcap, Value.int IntKind.i64 ey] 87) (Obj.cells #[Value.bool false, Value.slice none 0 0, Value.int IntKind.i64 0] 87)
  have PZ : Hid _ := pz
  have PB : Hid _ := pb
  go_enter Try.func59, Try.ntmps59
  go_wp2_with fail
  generalize (((w.alloc (Obj.cells #[Value.bool nx, Value.slice ao len cap, Value.int IntKind.i64 ex] 87)).alloc (Obj.cells #[Value.bool ny, Value.slice bo blen bcap, Value.int IntKind.i64 ey] 87)).alloc (Obj.cells #[Value.bool false, Value.slice none 0 0, Value.int IntKind.i64 0] 87)) = wa at *
  have HY2 : Hid (NumZ wa.drew _ s T y) := NumZ.later HY.out PB.out.drew
  have P2 : Hid _ := p2
  obtain ⟨x0, x1, x2⟩ := three_cells p0
  obtain ⟨y0, y1, y2⟩ := three_cells p1
  have P0 : Hid _ := p0
  have P1 : Hid _ := p1
  clear p0 p1 p2 pz pb
  have hne1 : ¬ (w.heap.size + 1 + 1 = w.heap.size) := by omega
  have hne2 : ¬ (w.heap.size = w.heap.size + 1 + 1) := by omega
  go_region_held3 (fun w' => w'.cell? ⟨w.heap.size, 0, none⟩ = some (.bool nx) ∧ w'.cell? ⟨w.heap.size, 1, none⟩ = some (.slice ao len cap) ∧ w'.cell? ⟨w.heap.size, 2, none⟩ = some (.int .i64 ex) ∧ w'.cell? ⟨w.heap.size + 1, 0, none⟩ = some (.bool ny) ∧ w'.cell? ⟨w.heap.size + 1, 1, none⟩ = some (.slice bo blen bcap) ∧ w'.cell? ⟨w.heap.size + 1, 2, none⟩ = some (.int .i64 ey)) (go_keep)
    (first
      | (go_at_call 78; refine (turnedZ_any _ s T y _ HY2.out).mono ?_; rintro ee ww ⟨v1, rfl, hz1, hb1⟩; have b0 := (hb1.block w.heap.size (by show w.heap.size < wa.heap.size; rw [PZ.out]; omega)).trans P0.out; have b1 := (hb1.block (w.heap.size + 1) (by show w.heap.size + 1 < wa.heap.size; rw [PZ.out]; omega)).trans P1.out; have b2 := (hb1.block (w.heap.size + 1 + 1) (by show w.heap.size + 1 + 1 < wa.heap.size; rw [PZ.out]; omega)).trans P2.out; obtain ⟨a0, a1, a2⟩ := three_cells b0; obtain ⟨a3, a4, a5⟩ := three_cells b1; have HBB : Hid (Below w.heap.size w ww) := PB.out.drew.trans (hb1.mono (by show w.heap.size ≤ wa.heap.size; rw [PZ.out]; omega)); have HSZ : Hid (w.heap.size + 3 ≤ ww.heap.size) := Nat.le_trans (Nat.le_of_eq PZ.out.symm) hb1.size; have HZ1 : Hid (NumZ ww v1 s T (-y)) := hz1; have B0 : Hid _ := b0; have B1 : Hid _ := b1; have B2 : Hid _ := b2; clear hz1 hb1 b0 b1 b2)
      | (go_at_call 38; refine (plusZ_any _ _ s T x (-y) _ (NumZ.later HX.out HBB.out) HZ1.out hs hT).mono ?_; rintro ee ww2 ⟨v2, rfl, hz2, hb2⟩; have d0 := (hb2.block w.heap.size (by have := HSZ.out; omega)).trans B0.out; have d1 := (hb2.block (w.heap.size + 1) (by have := HSZ.out; omega)).trans B1.out; obtain ⟨i0, i1, i2⟩ := three_cells d0; obtain ⟨i3, i4, i5⟩ := three_cells d1; have d2 := (hb2.block (w.heap.size + 1 + 1) (by have := HSZ.out; omega)).trans B2.out; have HB3 : Hid (Below w.heap.size w ww2) := HBB.out.trans (hb2.mono HBB.out.size); obtain ⟨c0, c1, c2⟩ := three_cells d2; have fc := (fun j => frozen_of_row _ _ j _ _ d2); have D2 : Hid _ := d2; have HZ2 : Hid (NumZ ww2 v2 s (T + 1) (x + -y)) := hz2; obtain ⟨n3, m3, e3, ⟨a3, l3, c3, xs3, rfl, -⟩, -⟩ := hz2; clear hb2 d0 d1 d2))
  all_goals go_wp2_with fail
  all_goals
    refine bodyPost_ret (v := .agg #[.bool n3, .slice a3 l3 c3, .int .i64 e3]) (res_num _ 4 (by kernel_rfl) _ _ (w.heap.size + 1 + 1) _ _ _ (by rfl) (set3_heap _ _ _ D2.out)) rfl ⟨_, rfl, ?_, ?_⟩
    · rw [show x - y = x + -y by omega]; exact NumZ.set3 _ _ _ ⟨_, _, _, _, _, D2.out⟩ HZ2.out
    · exact below_set3 _ _ _ HB3.out (by omega)
theorem alloc2_facts (w : World) (o1 o2 : Obj) : ((w.alloc o1).alloc o2).heap[w.heap.size]? = some o1 ∧ ((w.alloc o1).alloc o2).heap[w.heap.size + 1]? = some o2 ∧ ((w.alloc o1).alloc o2).heap.size = w.heap.size + 2 ∧ Below w.heap.size w ((w.alloc o1).alloc o2) := by
  have e1 := heap_alloc_new w o1
  have e2 := heap_alloc_new (w.alloc o1) o2
  rw [show (w.alloc o1).heap.size = w.heap.size + 1 by simp] at e2
  exact ⟨by rw [Below.heap_alloc _ _ _ (by simp), e1], e2, by simp, ((Below.refl _ _).alloc (Nat.le_refl _) _).alloc (by simp) _⟩
set_option maxRecDepth 100000 in
theorem cmpZ_any (v u : Value) (s : Nat) (T x y : Int) (w : World) (hx : NumZ w v s T x) (hy : NumZ w u s T y) (hs : s ≤ 20000) (hT : 0 ≤ T ∧ T ≤ 20000) :
    Calls Try.prog 37 #[v, u] w fun e' w' => e' = .returned (.int .i64 (sgi (x - y))) ∧ Below w.heap.size w w' := by
  have HX : Hid (NumZ w v s T x) := hx
  have HY : Hid (NumZ w u s T y) := hy
  obtain ⟨nx, mx, ex, ⟨ao, len, cap, xs, rfl, -⟩, -⟩ := hx
  obtain ⟨ny, my, ey, ⟨bo, blen, bcap, ys, rfl, -⟩, -⟩ := hy
  obtain ⟨p0, p1, pz, pb⟩ := alloc2_facts w (Obj.cells #[Value.bool nx, Value.slice ao len cap, Value.int IntKind.i64 ex] 87) (Obj.cells #[Value.bool ny, Value.slice bo blen bcap, Value.int IntKind.i64 ey] 87)
  have PZ : Hid _ := pz
  have PB : Hid _ := pb
  go_enter Try.func37, Try.ntmps37
  go_wp2_with fail
  refine (minusZ_any _ _ s T x y _ (NumZ.later HX.out PB.out) (NumZ.later HY.out PB.out) hs hT).mono ?_
  rintro ee ww ⟨v1, rfl, hz1, hb1⟩
  have HB1 : Hid (Below w.heap.size w ww) := PB.out.trans (hb1.mono (by rw [PZ.out]; omega))
  have HZ1 : Hid (NumZ ww v1 s (T + 1) (x - y)) := hz1
  clear hz1 hb1
  go_wp2_with fail
  refine (signZ_any _ s (T + 1) (x - y) _ HZ1.out).mono ?_
  rintro ee w2 ⟨rfl, hb2⟩
  have HB2 : Hid (Below w.heap.size w w2) := HB1.out.trans (hb2.mono HB1.out.size)
  clear hb2
  go_wp2_with fail
  go_ret
  exact ⟨rfl, HB2.out⟩
def TimesRes (nx ny : Bool) (mx my : Nat) (ex ey : Int) (w : World) (e' : Ending) (w' : World) : Prop := ∃ v' neg e, e' = .returned v' ∧ NumV w' v' neg (mx * my) e ∧ (mx * my = 0 → e = 0) ∧ (mx * my ≠ 0 → neg = (nx != ny) ∧ e = ex + ey) ∧ Below w.heap.size w w'
set_option maxRecDepth 100000 in
set_option maxHeartbeats 1000000 in
theorem timesV_any (v u : Value) (nx ny : Bool) (mx my : Nat) (ex ey : Int) (w : World) (hx : NumV w v nx mx ex) (hy : NumV w u ny my ey) (hex : -20000 ≤ ex ∧ ex ≤ 20000) (hey : -20000 ≤ ey ∧ ey ≤ 20000) (hbx : bl mx ≤ 40000) (hby : bl my ≤ 40000) :
    Calls Try.prog 58 #[v, u] w fun e' w' => TimesRes nx ny mx my ex ey w e' w' := by
  obtain ⟨ao, len, cap, xs, rfl, hr, hnm, hm⟩ := hx
  obtain ⟨bo, blen, bcap, ys, rfl, hr2, hnm2, hm2⟩ := hy
  have lz1 := len_zero hr.length hr.lt hnm
  have lz2 := len_zero hr2.length hr2.lt hnm2
  have hl1 : len ≤ 10000 := by have := len_bl hr.length hr.lt hnm; rw [hm] at this; omega
  have hl2 : blen ≤ 10000 := by have := len_bl hr2.length hr2.lt hnm2; rw [hm2] at this; omega
  rw [hm] at lz1
  rw [hm2] at lz2
  obtain ⟨p0, p1, p2, pz, pb⟩ := alloc3_facts w (Obj.cells #[Value.bool nx, Value.slice ao len cap, Value.int IntKind.i64 ex] 87) (Obj.cells #[Value.bool ny, Value.slice bo blen bcap, Value.int IntKind.i64 ey] 87) (Obj.cells #[Value.bool false, Value.slice none 0 0, Value.int IntKind.i64 0] 87)
  have PZ : Hid _ := pz
  have PB : Hid _ := pb
  have HR : Hid _ := hr
  have HR2 : Hid _ := hr2
  clear hr hr2
  have P0 : Hid _ := p0
  have P1 : Hid _ := p1
  have P2 : Hid _ := p2
  have LZ1 : Hid (len = 0 ↔ mx = 0) := lz1
  have LZ2 : Hid (blen = 0 ↔ my = 0) := lz2
  have HM : Hid (dig xs = mx) := hm
  have HM2 : Hid (dig ys = my) := hm2
  clear p0 p1 p2 pz pb lz1 lz2 hm hm2
  by_cases h0 : mx = 0
  · have hl0 : len = 0 := LZ1.out.2 h0
    subst hl0
    go_enter Try.func58, Try.ntmps58
    go_wp2_with fail
    refine bodyPost_ret (v := .agg #[.bool false, .slice none 0 0, .int .i64 0]) (res_num _ 4 (by kernel_rfl) _ _ (w.heap.size + 1 + 1) _ _ _ (by rfl) P2.out) rfl ⟨_, false, 0, rfl, ⟨none, 0, 0, [], rfl, rd4_none' _, .inl rfl, by simp [dig]⟩, fun _ => rfl, fun c => absurd (by simp) c, PB.out⟩
  have hb0 : ((len : Int) == 0) = false := by rw [beq_eq_false_iff_ne]; have := LZ1.out; omega
  by_cases h1 : my = 0
  · have hl0 : blen = 0 := LZ2.out.2 h1
    subst hl0
    go_enter Try.func58, Try.ntmps58
    go_wp2_with fail
    refine bodyPost_ret (v := .agg #[.bool false, .slice none 0 0, .int .i64 0]) (res_num _ 4 (by kernel_rfl) _ _ (w.heap.size + 1 + 1) _ _ _ (by rfl) P2.out) rfl ⟨_, false, 0, rfl, ⟨none, 0, 0, [], rfl, rd4_none' _, .inl rfl, by simp [dig]⟩, fun _ => rfl, fun c => absurd (by simp) c, PB.out⟩
  have hb1 : ((blen : Int) == 0) = false := by rw [beq_eq_false_iff_ne]; have := LZ2.out; omega
  have hmn : mx * my ≠ 0 := Nat.mul_ne_zero h0 h1
  have hwr : IntKind.i64.wrap (ex + ey) = ex + ey := by rw [IntKind.wrap_i64]; omega
  have HMN : Hid (mx * my ≠ 0) := hmn
  go_enter Try.func58, Try.ntmps58
  go_wp2_with fail
  generalize (((w.alloc (Obj.cells #[Value.bool nx, Value.slice ao len cap, Value.int IntKind.i64 ex] 87)).alloc (Obj.cells #[Value.bool ny, Value.slice bo blen bcap, Value.int IntKind.i64 ey] 87)).alloc (Obj.cells #[Value.bool false, Value.slice none 0 0, Value.int IntKind.i64 0] 87)) = wa at *
  obtain ⟨x0, x1, x2⟩ := three_cells P0.out
  obtain ⟨y0, y1, y2⟩ := three_cells P1.out
  have hne1 : ¬ (w.heap.size + 1 + 1 = w.heap.size) := by omega
  have hne2 : ¬ (w.heap.size = w.heap.size + 1 + 1) := by omega
  have R1 : Hid _ := HR.out.later PB.out.drew
  have R2 : Hid _ := HR2.out.later PB.out.drew
  clear h0 h1 hmn
  go_region_held3 (fun w' => w'.cell? ⟨w.heap.size, 0, none⟩ = some (.bool nx) ∧ w'.cell? ⟨w.heap.size, 1, none⟩ = some (.slice ao len cap) ∧ w'.cell? ⟨w.heap.size, 2, none⟩ = some (.int .i64 ex) ∧ w'.cell? ⟨w.heap.size + 1, 0, none⟩ = some (.bool ny) ∧ w'.cell? ⟨w.heap.size + 1, 1, none⟩ = some (.slice bo blen bcap) ∧ w'.cell? ⟨w.heap.size + 1, 2, none⟩ = some (.int .i64 ey)) (go_keep)
    (first
      | (go_at_call 77; refine (times_any ao len cap xs bo blen bcap ys _ R1.out R2.out hl1 hl2).mono ?_; rintro ee ww ⟨ao', k, cap', zs, rfl, hr3, hn3, hd3, hb3, hk3⟩; have b0 := (hb3.block w.heap.size (by show w.heap.size < wa.heap.size; rw [PZ.out]; omega)).trans P0.out; have b1 := (hb3.block (w.heap.size + 1) (by show w.heap.size + 1 < wa.heap.size; rw [PZ.out]; omega)).trans P1.out; have b2 := (hb3.block (w.heap.size + 1 + 1) (by show w.heap.size + 1 + 1 < wa.heap.size; rw [PZ.out]; omega)).trans P2.out; obtain ⟨a0, a1, a2⟩ := three_cells b0; obtain ⟨a3, a4, a5⟩ := three_cells b1; obtain ⟨c0, c1, c2⟩ := three_cells b2; have fc := (fun j => frozen_of_row _ _ j _ _ b2); have HBB : Hid (Below w.heap.size w ww) := PB.out.drew.trans (hb3.mono (by show w.heap.size ≤ wa.heap.size; rw [PZ.out]; omega)); have R3 : Hid _ := hr3; have B2 : Hid _ := b2; clear hr3 hb3 b0 b1 b2))
  all_goals go_wp2_with fail
  all_goals
    refine bodyPost_ret (v := .agg #[.bool (nx != ny), .slice ao' k cap', .int .i64 (ex + ey)]) (res_num _ 4 (by kernel_rfl) _ _ (w.heap.size + 1 + 1) _ _ _ (by rfl) (set3_heap _ _ _ B2.out)) rfl ⟨_, (nx != ny), ex + ey, rfl, ?_, ?_, ?_, ?_⟩
    · exact ⟨ao', k, cap', zs, rfl, rd4_set3 _ _ _ ⟨_, _, _, _, _, B2.out⟩ R3.out, hn3, by rw [hd3, HM.out, HM2.out]⟩
    · exact fun c => absurd c HMN.out
    · exact fun _ => ⟨rfl, rfl⟩
    · exact below_set3 _ _ _ HBB.out (by omega)
end Go.Proofs.Ytoehhnildocihaa

namespace Go.Proofs.Ytoehhnildocihaa
open Go.RowKit
set_option linter.unusedVariables false
def two (a b : Nat × Nat × Bool) (j : Nat) : Nat × Nat × Bool := if j = 0 then a else b
end Go.Proofs.Ytoehhnildocihaa

namespace Go.Proofs.Ytoehhnildocihaa
open Go.RowKit Go.Shelf
set_option linter.unusedVariables false
open Ieee
theorem fval_zeroJ : fval 0 = 0 := by decide +kernel
theorem fval_absJ (u : Nat) : (fval u).natAbs = rmag (frung u) := by unfold fval; split <;> omega
theorem fval_ltJ {u E : Nat} (hu : Fin u) (hE : E = 2098) : rmag (frung u) < 2 ^ E := by
  obtain ⟨F, hF⟩ : ∃ F : Nat, F = 2046 := ⟨_, rfl⟩
  have h1 := rmag_lt hu
  rw [rmag_inf hF] at h1
  have h3 : (2 : Nat) ^ E = 4503599627370496 * 2 ^ F := by
    rw [show (4503599627370496 : Nat) = 2 ^ 52 by decide, ← Nat.pow_add, show 52 + F = E by omega]
  rw [h3]; exact h1
theorem fin_zeroJ : Fin 0 := by decide
/-- All numbers of a zonotope are numbers. -/
structure FnZ (z : ZD) : Prop where
  c : ∀ j : Nat, Fin (z.cs[j]?.getD 0)
  r : ∀ j : Nat, Fin (z.rs[j]?.getD 0)
  g : ∀ k j : Nat, Fin ((z.gs[k]?.getD [])[j]?.getD 0)
  few : z.dn ≤ 1050000
end Go.Proofs.Ytoehhnildocihaa

namespace Go.Proofs.Ytoehhnildocihaa
open Go.RowKit Go.Shelf
set_option linter.unusedVariables false
set_option linter.unusedSimpArgs false
theorem neq_ord {u v : Nat} (hu : Fin u) (hv : Fin v) : (FloatKind.f64.format.order u v == some Ordering.eq) = decide (srung u = srung v) := by
  have ho := order_rung (x := u) (y := v) (Nat.le_of_lt hu) (Nat.le_of_lt hv)
  rw [f64_fmtJ, ho]
  by_cases h : srung u = srung v
  · rw [Int.compare_eq_eq.2 h, decide_eq_true h]; rfl
  · rw [decide_eq_false h]
    by_cases h2 : srung u < srung v
    · rw [Int.compare_eq_lt.2 h2]; rfl
    · rw [Int.compare_eq_gt.2 (by omega)]; rfl
theorem neq_ordN {u v : Nat} (hu : Fin u) (hv : Fin v) : (FloatKind.f64.format.order u v != some Ordering.eq) = !decide (srung u = srung v) := by
  rw [← neq_ord hu hv]; rfl
end Go.Proofs.Ytoehhnildocihaa

namespace Go.Proofs.Ytoehhnildocihaa
open Go.RowKit Go.Shelf
set_option linter.unusedVariables false
set_option linter.unusedSimpArgs false
def zRow (z : ZD) : Array Value := #[.int .i64 z.N, .slice z.co z.cn z.cc, .slice z.io z.dn z.dc, .slice z.go z.gn z.gc, .slice z.ro z.rn z.rc, .bool z.bad]
end Go.Proofs.Ytoehhnildocihaa

namespace Go.Proofs.Ytoehhnildocihaa
open Go.RowKit Go.Shelf
set_option linter.unusedVariables false
open Ieee
theorem fin_getD {us : List Nat} (h : ∀ u ∈ us, Fin u) (j : Nat) : Fin (us[j]?.getD 0) := by
  by_cases hj : j < us.length
  · rw [List.getElem?_eq_getElem hj]; exact h _ (List.getElem_mem hj)
  · rw [List.getElem?_eq_none (by omega)]; exact fin_zeroJ
theorem colsB_num {z : ZD} : ∀ {ks : List (_root_.Fin z.dn)} {last : Int}, colsB z last ks = true → ∀ k ∈ ks, numN (z.gs[k.val]?.getD []) z.N = true
  | [], _, _, k, hk => by cases hk
  | x :: ks, last, h, k, hk => by
    have h' : (colOk z last x && colsB z (idZ z x) ks) = true := h
    rw [Bool.and_eq_true] at h'
    rcases List.mem_cons.1 hk with rfl | hk
    · have := h'.1
      unfold colOk at this
      simp only [Bool.and_eq_true] at this
      exact this.2
    · exact colsB_num h'.2 k hk
/-- What a whole zonotope has. -/
structure WhF (z : ZD) : Prop where
  n1 : 1 ≤ z.rn
  n2 : z.rn ≤ 256
  N : z.N = (z.rn : Int)
  cn : z.cn = z.rn
  dg : z.dn = z.gn
  cl : z.cs.length = z.rn
  rl : z.rs.length = z.rn
  gl : ∀ k, k < z.dn → (z.gs[k]?.getD []).length = z.rn
  pos : ∀ i : Nat, 0 ≤ fval (z.rs[i]?.getD 0)
  fin : FnZ z
theorem WhF.of {w : World} {z : ZD} (hz : ZR w z) (hd : z.dn ≤ 1050000) (h : wholeB z = true) : WhF z := by
  unfold wholeB at h
  simp only [Bool.and_eq_true, decide_eq_true_eq] at h
  obtain ⟨⟨⟨⟨⟨⟨h1, h2⟩, h3⟩, h4⟩, h5⟩, h6⟩, h7⟩ := h
  obtain ⟨c1, c2⟩ := numN_fin h3
  obtain ⟨r1, r2⟩ := numN_fin h4
  have hl := hz.r.length
  have hlc := hz.c.length
  have hg := fun (k : Nat) (hk : k < z.dn) => numN_fin (colsB_num h7 ⟨k, hk⟩ (List.mem_finRange _))
  refine ⟨by omega, by omega, by omega, by omega, h5, by omega, hl, fun k hk => by have := (hg k hk).1; dsimp only at this; omega, fun i => ?_, ⟨fin_getD c2, fin_getD r2, fun k j => ?_, hd⟩⟩
  · by_cases hi : i < z.rs.length
    · rw [List.getElem?_eq_getElem hi]
      have h8 := List.all_eq_true.1 h6 _ (List.getElem_mem hi)
      have h9 : ¬ srung z.rs[i] < 0 := of_decide_eq_true h8
      have h10 := srung_le 0 z.rs[i]
      rw [fval_zeroJ, show srung 0 = 0 by decide] at h10
      exact h10.1 (by omega)
    · rw [List.getElem?_eq_none (by omega)]; exact Int.le_of_eq fval_zeroJ.symm
  · by_cases hk : k < z.dn
    · exact fin_getD (hg k hk).2 j
    · have e : z.gs[k]? = none := List.getElem?_eq_none (by have := hz.g.length; omega)
      rw [e]
      exact fin_zeroJ
end Go.Proofs.Ytoehhnildocihaa

namespace Go.Proofs.Ytoehhnildocihaa
open Go.RowKit Go.Shelf
set_option linter.unusedVariables false
set_option linter.unusedSimpArgs false
theorem res_ctJ (f : Func) (i j : Nat) (ty : TypeId) (hf : f.results = #[ResultVar.cell i ty, ResultVar.tmp j]) (tmps : Array Value) (W : World) (B : Nat) (c : Array Value) (v : Value) (hp : tmps[i]? = some (.pointer (some ⟨B, 0, none⟩))) (hv : tmps[j]? = some v)
    (u : TypeDesc) (hu : Try.prog.underlying ty = some u) (hd : u.isRow = true) (n : Nat) (hi : (Try.prog.info? ty).map (·.size) = some n)
    (hc : c.size = n) (h : W.heap[B]? = some (.cells c ty)) : (results f tmps).run Try.prog W = .ok (.tuple #[.agg c, v]) W := by
  have hr : W.rangeAt B 0 c.toList := by
    have := World.rangeAt_of_block h 0 c.size
    simpa using this
  have hl := run_loadVar_mid (P := Try.prog) W B 0 ty c.toList _ hr hu hd (by rw [hi]; simp [hc])
  have hl2 : (loadVar ty ⟨B, 0, none⟩).run Try.prog W = .ok (.agg c) W := by simpa using hl
  simp [results, hf, hp, hv, hl2, asAddr]
end Go.Proofs.Ytoehhnildocihaa

namespace Go.Proofs.Ytoehhnildocihaa
open Go.RowKit Go.Shelf
set_option linter.unusedVariables false
set_option linter.unusedSimpArgs false
/-- A slice of words. -/
structure RdUs (w : World) (ao : Option Addr) (len cap : Nat) (us : List Nat) : Prop where
  length : us.length = len
  max : len ≤ maxLen
  cells : len = 0 ∨ ∃ b off, ao = some ⟨b, off, none⟩ ∧ ∀ j, j < len → w.cell? ⟨b, off + j, none⟩ = some (.int .u64 ((us[j]?.getD 0 : Nat) : Int))
theorem RdUs.later {w w' : World} {ao : Option Addr} {len cap : Nat} {us : List Nat} (h : RdUs w ao len cap us) (hb : Below w.heap.size w w') : RdUs w' ao len cap us := by
  refine ⟨h.length, h.max, ?_⟩
  rcases h.cells with h0 | ⟨b, off, ha, hc⟩
  · exact .inl h0
  · refine .inr ⟨b, off, ha, fun j hj => ?_⟩
    rw [hb.cell (p := ⟨b, off + j, none⟩) (World.block_lt_of_cell? w _ (hc j hj))]
    exact hc j hj
theorem apiBits_any (u : Nat) (w : World) : Calls Try.prog 18 #[.float .f64 u] w fun e w' => e = .returned (.int .u64 u) ∧ w' = w := by
  have hcb := call_bits u
  go_enter Try.func18, Try.ntmps18
  go_wp2_with fail
  go_ret
  exact ⟨rfl, rfl⟩
end Go.Proofs.Ytoehhnildocihaa

namespace Go.Proofs.Ytoehhnildocihaa
open Go.RowKit Go.Shelf
set_option linter.unusedVariables false
set_option linter.unusedSimpArgs false
/-- A slice of lists of words; gv: where each of them lies. -/
structure RdGu (w : World) (ao : Option Addr) (len cap : Nat) (gv : Nat → Option Addr × Nat × Nat) (gs : List (List Nat)) : Prop where
  length : gs.length = len
  max : len ≤ maxLen
  cells : len = 0 ∨ ∃ b off, ao = some ⟨b, off, none⟩ ∧ ∀ j, j < len → w.cell? ⟨b, off + j, none⟩ = some (.slice (gv j).1 (gv j).2.1 (gv j).2.2)
  each : ∀ j, j < len → RdUs w (gv j).1 (gv j).2.1 (gv j).2.2 (gs[j]?.getD [])
theorem RdGu.later {w w' : World} {ao : Option Addr} {len cap : Nat} {gv : Nat → Option Addr × Nat × Nat} {gs : List (List Nat)} (h : RdGu w ao len cap gv gs) (hb : Below w.heap.size w w') : RdGu w' ao len cap gv gs := by
  refine ⟨h.length, h.max, ?_, fun j hj => (h.each j hj).later hb⟩
  rcases h.cells with h0 | ⟨b, off, ha, hc⟩
  · exact .inl h0
  · refine .inr ⟨b, off, ha, fun j hj => ?_⟩
    rw [hb.cell (p := ⟨b, off + j, none⟩) (World.block_lt_of_cell? w _ (hc j hj))]
    exact hc j hj
/-- The document's zonotope lies in w. -/
structure ZU (w : World) (z : ZD) : Prop where
  c : RdUs w z.co z.cn z.cc z.cs
  i : RdIs w z.io z.dn z.dc z.ids
  g : RdGu w z.go z.gn z.gc z.gv z.gs
  r : RdUs w z.ro z.rn z.rc z.rs
theorem ZU.later {w w' : World} {z : ZD} (h : ZU w z) (hb : Below w.heap.size w w') : ZU w' z := ⟨h.c.later hb, h.i.later hb, h.g.later hb, h.r.later hb⟩
/-- Does the answer a have the bits that b tells? -/
def bitsB (a b : ZD) : Bool := decide (a.N = b.N) && decide (a.bad = b.bad) && decide (a.cs = b.cs) && decide (a.rs = b.rs) && decide (a.ids = b.ids) && decide (a.gs = b.gs)
end Go.Proofs.Ytoehhnildocihaa

namespace Go.Proofs.Ytoehhnildocihaa
open Go.RowKit
set_option linter.unusedVariables false
/-- A block's number tells its type. -/
theorem owns_type {w : World} {E : TypeId} {base size : Nat} {v : Value} {n : Nat} {xs : List Value} (h : w.ownsRow base E size v n xs) {k : Nat} (hk : v.ownBlock = some k) : ∃ cur, w.heap[k]? = some (.cells cur E) := by
  rcases h.2 with ⟨rfl, _⟩ | ⟨g, cap, cur, rfl, hg, hh, r⟩
  · simp [Value.ownBlock] at hk
  · simp only [Value.ownBlock, Option.some.injEq] at hk
    subst hk
    exact ⟨cur, hh⟩
theorem Grw.refl (w : World) (r : Option Nat) : Grw w w r r := ⟨⟨rfl, rfl, rfl, Nat.le_refl _, fun _ _ _ => rfl⟩, .inl rfl⟩
end Go.Proofs.Ytoehhnildocihaa

namespace Go.Proofs.Ytoehhnildocihaa
open Go.RowKit Go.Shelf
set_option linter.unusedVariables false
set_option linter.unusedSimpArgs false
theorem own_valJ {w : World} {E : TypeId} {base size n : Nat} {v : Value} {xs : List Value} (h : w.ownsRow base E size v n xs) : v.oneCell' = true ∧ v.cells = #[v] := by
  rcases h.2 with ⟨rfl, _⟩ | ⟨g, cap, cur, rfl, _⟩ <;> exact ⟨rfl, rfl⟩
theorem Try.szIs : (Try.prog.info? 23).map (·.size) = some 1 := by kernel_rfl
theorem owns_keepT {w w' : World} {E : TypeId} {base size : Nat} {v : Value} {n : Nat} {xs : List Value} (h : w.ownsRow base E size v n xs) (hb : ∀ (k : Nat) (cur : Array Value), w.heap[k]? = some (.cells cur E) → w'.heap[k]? = w.heap[k]?) : w'.ownsRow base E size v n xs :=
  owns_keep h fun k hk => by obtain ⟨cur, hc⟩ := owns_type h hk; exact hb k cur hc
/-- What an append onto a row changes: blocks of other types stay. -/
theorem grw_types {w w' : World} {E : TypeId} {base size n : Nat} {v v' : Value} {xs : List Value} (h : w.ownsRow base E size v n xs) (hg : Grw w w' v.ownBlock v'.ownBlock) : ∀ (k : Nat) (cur : Array Value) (t : TypeId), t ≠ E → w.heap[k]? = some (.cells cur t) → w'.heap[k]? = w.heap[k]? := by
  intro k cur t ht hc
  refine hg.by'.block k (blk_lt hc) fun e => ?_
  obtain ⟨cur', hc'⟩ := owns_type h e.symm
  rw [hc] at hc'
  cases hc'
  exact ht rfl
end Go.Proofs.Ytoehhnildocihaa

namespace Go.Proofs.Ytoehhnildocihaa
open Go.RowKit
set_option linter.unusedVariables false
set_option linter.unusedSimpArgs false
end Go.Proofs.Ytoehhnildocihaa

namespace Go.Proofs.Ytoehhnildocihaa
open Go.RowKit Go.Shelf
set_option linter.unusedVariables false
set_option linter.unusedSimpArgs false
attribute [local go_sem] Oper.semAt_some
end Go.Proofs.Ytoehhnildocihaa

namespace Go.Proofs.Ytoehhnildocihaa
open Go.RowKit Go.Shelf
set_option linter.unusedVariables false
set_option linter.unusedSimpArgs false
/-- One element built. -/
theorem hopBJ {P : Program} {ops : Array Oper} {Q : Exit → Act → World → Prop} {i : Nat} {o : Oper} {K : Act → World → Prop} {a : Act} {w : World} (d : Nat) (y : Value) (E : TypeId) (ho : ops[i]? = some o) (hg : o.guard = none) (hd : o.dst = some d)
    (hr : (execOp a.eval o).run P w = .ok (.value (.slice (some ⟨w.heap.size, 0, none⟩) 1 1)) (w.alloc (.cells #[y] E)))
    (h : ∀ I W', W'.heap[I]? = some (.cells #[y] E) → Below w.heap.size w W' → K (a.put (some d) (.slice (some ⟨I, 0, none⟩) 1 1)) W') : wpOp P ops Q i K a w :=
  hopV d ho hg hd hr (h _ _ (heap_alloc_new w _) ((Below.refl _ w).alloc (Nat.le_refl _) _))
theorem news_oneJ {W : World} {I : Nat} {y : Value} {E : TypeId} (h : W.heap[I]? = some (.cells #[y] E)) : ∀ j u, [y][j]? = some u → W.cell? ((⟨I, 0, none⟩ : Addr).add j) = some u := by
  intro j u hj
  match j, hj with
  | 0, hj =>
    simp only [List.getElem?_cons_zero, Option.some.injEq] at hj
    subst hj
    rw [Addr.add_lit, cell_of_row _ I _ _ _ _ h]
    rfl
end Go.Proofs.Ytoehhnildocihaa

namespace Go.Proofs.Ytoehhnildocihaa
open Go.RowKit Go.Shelf
set_option linter.unusedVariables false
set_option linter.unusedSimpArgs false
theorem frung_of_srung {u : Nat} (h : srung u = 0) : frung u = 0 := by
  unfold srung at h
  split at h <;> omega
theorem rmag_zeroJ : rmag 0 = 0 := by decide
theorem fval_of_srung {u : Nat} (h : srung u = 0) : fval u = 0 := by
  unfold fval
  rw [frung_of_srung h, rmag_zeroJ]
  split <;> rfl
theorem hold_g {a E : Nat} {x : Int} (h : a + E ≤ 4800) (hx : x.natAbs < 2 ^ E) : holdZ (x * ((2 ^ a : Nat) : Int)) = some (x * ((2 ^ a : Nat) : Int)) := by
  unfold holdZ
  rw [if_pos]
  obtain ⟨Q, hQ⟩ : ∃ Q : Nat, Q = 4800 := ⟨_, rfl⟩
  have h2 : (2 : Nat) ^ E * 2 ^ a ≤ 2 ^ Q := by rw [← Nat.pow_add]; exact Nat.pow_le_pow_right (by omega) (by omega)
  have h3 : (x * ((2 ^ a : Nat) : Int)).natAbs < 2 ^ Q := by
    rw [Int.natAbs_mul, Int.natAbs_natCast]
    exact Nat.lt_of_lt_of_le (Nat.mul_lt_mul_of_pos_right hx (Nat.two_pow_pos _)) h2
  rw [hQ] at h3
  generalize x * ((2 ^ a : Nat) : Int) = X at *
  generalize 2 ^ 4800 = L at *
  omega
theorem prodO_g {a E u b : Nat} {x y : Int} (h : a + E ≤ 4800) (hu : Fin u) (hb : Fin b) (hp : prodZ u b 0 = y * ((2 ^ a : Nat) : Int)) (hx : (x + y).natAbs < 2 ^ E) : prodO (some (x * ((2 ^ a : Nat) : Int))) u b 0 = some ((x + y) * ((2 ^ a : Nat) : Int)) := by
  unfold prodO
  simp only [Option.bind_some]
  rw [if_pos ⟨hu, hb, by decide, by decide⟩, hp, ← Int.add_mul, hold_g h hx]
theorem prodZ_92 {a u v : Nat} (ha : a = 92) : prodZ u v 0 = fval u * fval v * ((2 ^ a : Nat) : Int) := by
  subst ha
  unfold prodZ
  rw [show ((0 : Int) + 92).toNat = 92 by decide]
theorem mul_bound {u v F : Nat} (hF : F = 4196) (hu : Fin u) (hv : Fin v) : (fval u * fval v).natAbs ≤ 2 ^ F := by
  obtain ⟨G, hG⟩ : ∃ G : Nat, G = 2098 := ⟨_, rfl⟩
  have h1 := fval_ltJ hu hG
  have h2 := fval_ltJ hv hG
  rw [Int.natAbs_mul, fval_absJ, fval_absJ, show F = G + G by omega, Nat.pow_add]
  exact Nat.mul_le_mul (Nat.le_of_lt h1) (Nat.le_of_lt h2)
theorem much_bound {F E : Nat} (hF : F = 4196) (hE : E = 4700) : 1073741824 * 2 ^ F < 2 ^ E := by
  rw [show (1073741824 : Nat) = 2 ^ 30 by decide, ← Nat.pow_add]
  exact Nat.pow_lt_pow_right (by omega) (by omega)
/-- A sum of products, exact, in units of 2^-2148. -/
def dotV (ds vs : List Nat) : Nat → Int
  | 0 => 0
  | k + 1 => dotV ds vs k + fval (ds[k]?.getD 0) * fval (vs[k]?.getD 0)
theorem dotV_bound {ds vs : List Nat} {F : Nat} (hF : F = 4196) (hd : ∀ j : Nat, Fin (ds[j]?.getD 0)) (hv : ∀ j : Nat, Fin (vs[j]?.getD 0)) : ∀ k, (dotV ds vs k).natAbs ≤ k * 2 ^ F
  | 0 => by simp [dotV]
  | k + 1 => by
    have ih := dotV_bound hF hd hv k
    have hp := mul_bound hF (hd k) (hv k)
    rw [dotV, Nat.succ_mul]
    generalize 2 ^ F = X at *
    generalize fval (ds[k]?.getD 0) * fval (vs[k]?.getD 0) = Y at *
    omega
end Go.Proofs.Ytoehhnildocihaa

namespace Go.Proofs.Ytoehhnildocihaa
open Go.RowKit Go.Shelf
set_option linter.unusedVariables false
set_option linter.unusedSimpArgs false
/-- weighed's sum: what is weighed by a nought is left out. -/
def wgK (us vs : List Nat) : Nat → Option Int
  | 0 => some 0
  | k + 1 => if srung (us[k]?.getD 0) = 0 then wgK us vs k else prodO (wgK us vs k) (us[k]?.getD 0) (vs[k]?.getD 0) 0
end Go.Proofs.Ytoehhnildocihaa

namespace Go.Proofs.Ytoehhnildocihaa
open Go.RowKit Go.Shelf
set_option linter.unusedVariables false
set_option linter.unusedSimpArgs false
/-- May it be a claim of a zonotope? -/
def clB (z : ZD) (us : List Nat) : Bool := checkB z && !z.bad && decide ((us.length : Int) = z.N + 1) && numsB us
end Go.Proofs.Ytoehhnildocihaa

namespace Go.Proofs.Ytoehhnildocihaa
open Go.RowKit Go.Shelf
set_option linter.unusedVariables false
set_option linter.unusedSimpArgs false
theorem wgK_is {a F n : Nat} {us vs : List Nat} (ha : a = 92) (hF : F = 4196) (hd : ∀ j : Nat, Fin (us[j]?.getD 0)) (hv : ∀ j : Nat, Fin (vs[j]?.getD 0)) (hn : n ≤ 257) : ∀ k, k ≤ n → wgK us vs k = some (dotV us vs k * ((2 ^ a : Nat) : Int))
  | 0, _ => by simp [wgK, dotV]
  | k + 1, h => by
    obtain ⟨E, hE⟩ : ∃ E : Nat, E = 4700 := ⟨_, rfl⟩
    have hb := dotV_bound hF hd hv (k + 1)
    have hm := much_bound hF hE
    have hk : (k + 1) * 2 ^ F ≤ 1073741824 * 2 ^ F := Nat.mul_le_mul_right _ (by omega)
    have ih := wgK_is ha hF hd hv hn k (by omega)
    unfold wgK
    by_cases h0 : srung (us[k]?.getD 0) = 0
    · rw [if_pos h0, ih, dotV, fval_of_srung h0, Int.zero_mul, Int.add_zero]
    · rw [dotV] at hb
      rw [if_neg h0, ih, dotV]
      exact prodO_g (E := E) (by omega) (hd k) (hv k) (prodZ_92 ha) (Nat.lt_of_le_of_lt hb (Nat.lt_of_le_of_lt hk hm))
end Go.Proofs.Ytoehhnildocihaa

namespace Go.Proofs.Ytoehhnildocihaa
open Go.RowKit
set_option linter.unusedVariables false
theorem NumC.toZ {w : World} {v : Value} {s : Nat} {T z : Int} (h : NumC w v s T z) : NumZ w v s T z := by
  obtain ⟨neg, m, e, h1, h2, h3, h4, _⟩ := h
  exact ⟨neg, m, e, h1, h2, h3, h4⟩
theorem plusC_any (v u : Value) (s : Nat) (T x y : Int) (w : World) (hx : NumC w v s T x) (hy : NumC w u s T y) (hs : s ≤ 20000) (hT : 0 ≤ T ∧ T ≤ 20000) :
    Calls Try.prog 38 #[v, u] w fun e' w' => ∃ v', e' = .returned v' ∧ NumC w' v' s (T + 1) (x + y) ∧ Below w.heap.size w w' := by
  obtain ⟨nx, mx, ex, h1, h2, h3, h4, h5⟩ := hx
  obtain ⟨ny, my, ey, k1, k2, k3, k4, k5⟩ := hy
  refine (plusV_any v u nx ny mx my ex ey w h1 k1 (by omega) (by omega) (by omega) (by omega)).mono ?_
  rintro e' w' ⟨v', neg, m, e, rfl, hN, hP, hB⟩
  obtain ⟨p1, p2, p3⟩ := hP.1 s T h2 k2 h3 k3 hT.1
  exact ⟨v', rfl, ⟨neg, m, e, hN, p1, p2, by rw [p3, h4, k4], fun c => hP.2 c h5 k5⟩, hB⟩
theorem timesC_any (v u : Value) (s : Nat) (T T' x y : Int) (w : World) (hx : NumZ w v s T x) (hy : NumZ w u s T' y) (hs : s ≤ 10000) (hT : 0 ≤ T ∧ T ≤ 10000) (hT' : 0 ≤ T' ∧ T' ≤ 10000) :
    Calls Try.prog 58 #[v, u] w fun e' w' => ∃ v', e' = .returned v' ∧ NumC w' v' (s + s) (T + T') (x * y) ∧ Below w.heap.size w w' := by
  obtain ⟨nx, mx, ex, h1, h2, h3, h4⟩ := hx
  obtain ⟨ny, my, ey, k1, k2, k3, k4⟩ := hy
  refine (timesV_any v u nx ny mx my ex ey w h1 k1 (by omega) (by omega) (by omega) (by omega)).mono ?_
  rintro e' w' ⟨v', neg, e, rfl, hN, hz, hnz, hB⟩
  refine ⟨v', rfl, ⟨neg, mx * my, e, hN, ?_, ?_, ?_, hz⟩, hB⟩
  · by_cases h : mx * my = 0
    · rw [hz h]; omega
    · rw [(hnz h).2]; omega
  · by_cases h : mx * my = 0
    · rw [hz h, h, bl_zero]; omega
    · have := bl_mul mx my
      rw [(hnz h).2]; omega
  · rw [← h4, ← k4, ← zv_mul nx ny mx my h2 k2]
    by_cases h : mx * my = 0
    · rw [h, zv_zero, zv_zero]
    · rw [(hnz h).1, (hnz h).2]
theorem NumC.set3 {w : World} {B : Nat} (x y z : Value) (hB : NumB w B) {v : Value} {s : Nat} {T r : Int} (h : NumC w v s T r) : NumC (((w.setCell ⟨B, 0, none⟩ x).setCell ⟨B, 1, none⟩ y).setCell ⟨B, 2, none⟩ z) v s T r := by
  obtain ⟨neg, m, e, ⟨ao, len, cap, xs, h1, h2, h3⟩, h4⟩ := h
  exact ⟨neg, m, e, ⟨ao, len, cap, xs, h1, rd4_set3 x y z hB h2, h3⟩, h4⟩
set_option maxRecDepth 100000 in
set_option maxHeartbeats 1000000 in
theorem ofE_any (u : Nat) (hu : u < 18446744073709551616) (w : World) :
    Calls Try.prog 55 #[.int .u64 u] w fun e' w' => ∃ v, e' = .returned (.tuple #[v, .bool (decide (Fin u))]) ∧ (∃ neg e, NumV w' v neg (if Fin u then ofM u else 0) e ∧ (Fin u → frung u ≠ 0 → neg = fneg u ∧ e = ofE u) ∧ -1074 ≤ e ∧ e ≤ 971 ∧ ((if Fin u then ofM u else 0) = 0 → e = 0)) ∧ Below w.heap.size w w' := by
  obtain ⟨E, hE⟩ : ∃ E : Nat, u / 4503599627370496 % 2048 = E := ⟨_, rfl⟩
  obtain ⟨m, hm⟩ : ∃ m : Nat, u % 4503599627370496 = m := ⟨_, rfl⟩
  have fE : bits .and .u64 ((u : Int) / 4503599627370496) 2047 = (E : Int) := by
    have k := u64_and_nat (u / 4503599627370496) 2047 (by omega) (by decide)
    rw [show ((2047 : Nat) : Int) = 2047 from rfl] at k
    rw [show (u : Int) / 4503599627370496 = ((u / 4503599627370496 : Nat) : Int) by omega, k, and_2047, hE]
  have fm : bits .and .u64 (u : Int) 4503599627370495 = (m : Int) := by
    have k := u64_and_nat u 4503599627370495 hu (by decide)
    rw [show ((4503599627370495 : Nat) : Int) = 4503599627370495 from rfl] at k
    rw [k, show (4503599627370495 : Nat) = 2 ^ 52 - 1 by decide, Nat.and_two_pow_sub_one_eq_mod, show (2 : Nat) ^ 52 = 4503599627370496 by decide, hm]
  have hr : frung u = E * 4503599627370496 + m := by unfold frung; omega
  have hEb : E < 2048 := by omega
  have hmb : m < 4503599627370496 := by omega
  have hFin : Fin u ↔ E < 2047 := by unfold Fin infK; rw [hr]; omega
  by_cases h2047 : E = 2047
  · subst h2047
    have hd : decide (Fin u) = false := decide_eq_false (by rw [hFin]; omega)
    have hnf : ¬ Fin u := by rw [hFin]; omega
    rw [hd, if_neg hnf]
    have hz : ((2047 : Nat) : Int) = 2047 := rfl
    rw [hz] at fE
    go_enter Try.func55, Try.ntmps55
    go_wp2_with fail
    refine bodyPost_ret (v := .tuple #[.agg #[.bool false, .slice none 0 0, .int .i64 0], .bool false]) (res_num2 _ 2 3 (by kernel_rfl) _ _ w.heap.size _ _ _ _ (by rfl) (by rfl) (heap_alloc_new w _)) rfl ⟨_, rfl, ⟨false, 0, ⟨none, 0, 0, [], rfl, rd4_none _, .inl rfl, rfl⟩, fun h => absurd h hnf, by omega, by omega, fun _ => rfl⟩, (Below.refl _ _).alloc (Nat.le_refl _) _⟩
  · have hf : Fin u := hFin.2 (by omega)
    have hd : decide (Fin u) = true := decide_eq_true hf
    rw [hd, if_pos hf]
    have hEi : ((E : Int) == 2047) = false := by rw [beq_eq_false_iff_ne]; omega
    have hsgb : ((u : Int) / 9223372036854775808 == 1) = fneg u := by
      unfold fneg
      have h6 : u / 9223372036854775808 = 0 ∨ u / 9223372036854775808 = 1 := by omega
      rcases h6 with h6 | h6
      · rw [show (u : Int) / 9223372036854775808 = 0 by omega, h6]; rfl
      · rw [show (u : Int) / 9223372036854775808 = 1 by omega, h6]; rfl
    clear hFin
    by_cases h0 : E = 0 ∧ m = 0
    · obtain ⟨rfl, rfl⟩ := h0
      have hM : ofM u = 0 := by unfold ofM; rw [hr]; rfl
      have hr0 : frung u = 0 := by rw [hr]
      rw [hM]
      have hz : ((0 : Nat) : Int) = 0 := rfl
      rw [hz] at fE fm
      go_enter Try.func55, Try.ntmps55
      go_wp2_with fail
      refine bodyPost_ret (v := .tuple #[.agg #[.bool false, .slice none 0 0, .int .i64 0], .bool true]) (res_num2 _ 2 3 (by kernel_rfl) _ _ w.heap.size _ _ _ _ (by rfl) (by rfl) (heap_alloc_new w _)) rfl ⟨_, rfl, ⟨false, 0, ⟨none, 0, 0, [], rfl, rd4_none _, .inl rfl, rfl⟩, fun _ h => absurd hr0 h, by omega, by omega, fun _ => rfl⟩, (Below.refl _ _).alloc (Nat.le_refl _) _⟩
    · obtain ⟨m2, e2, hm2, he2⟩ : ∃ (m2 : Nat) (e2 : Int), m2 = (if E = 0 then m else 4503599627370496 + m) ∧ e2 = (if E = 0 then -1074 else (E : Int) - 1075) := ⟨_, _, rfl, rfl⟩
      have hM : ofM u = m2 := by
        unfold ofM; rw [hr, hm2]
        by_cases hE0 : E = 0
        · rw [if_pos (by omega), if_pos hE0]; omega
        · rw [if_neg (by omega), if_neg hE0]; omega
      have hEE : ofE u = e2 := by
        unfold ofE; rw [hr, he2]
        by_cases hE0 : E = 0
        · rw [if_pos (by omega), if_pos hE0]
        · rw [if_neg (by omega), if_neg hE0]; omega
      rw [hM, hEE]
      have hm2b : 0 < m2 ∧ m2 < 9007199254740992 := by rw [hm2]; split <;> omega
      obtain ⟨hm20, hm2l⟩ := hm2b
      have hw2 := words2 (m := m2) (by omega)
      have HW : Hid _ := hw2
      have hor : bits .or .u64 (m : Int) 4503599627370496 = ((4503599627370496 + m : Nat) : Int) := by
        have k := u64_or_nat m 4503599627370496 (by omega) (by decide)
        rw [show ((4503599627370496 : Nat) : Int) = 4503599627370496 from rfl] at k
        have k2 := Nat.two_pow_add_eq_or_of_lt (i := 52) (b := m) (by omega) 1
        rw [show (2 : Nat) ^ 52 = 4503599627370496 by decide, Nat.mul_one] at k2
        rw [k, Nat.or_comm, ← k2]
      obtain ⟨lo, hlo⟩ : ∃ lo : Nat, m2 % 4294967296 = lo := ⟨_, rfl⟩
      obtain ⟨hi, hhi⟩ : ∃ hi : Nat, m2 / 4294967296 = hi := ⟨_, rfl⟩
      have hmod : (m2 : Int) % 4294967296 = (lo : Int) := by omega
      have hdiv : (m2 : Int) / 4294967296 = (hi : Int) := by omega
      have hlb : lo < 4294967296 := by omega
      have hib : hi < 4294967296 := by omega
      rw [hlo, hhi] at HW
      clear hlo hhi
      have hrd : Rd4 ((w.alloc (Obj.cells #[Value.bool false, Value.slice none 0 0, Value.int IntKind.i64 0] 87)).alloc (Obj.cells #[Value.int IntKind.u32 (lo : Int), Value.int IntKind.u32 (hi : Int)] 134)) (some ⟨w.heap.size + 1, 0, none⟩) 2 2 [lo, hi] := by
        have h := rd4_fresh2 (w.alloc (Obj.cells #[Value.bool false, Value.slice none 0 0, Value.int IntKind.i64 0] 87)) lo hi HW.out.2
        rw [show (w.alloc (Obj.cells #[Value.bool false, Value.slice none 0 0, Value.int IntKind.i64 0] 87)).heap.size = w.heap.size + 1 by simp] at h
        exact h
      have HRD : Hid _ := hrd
      clear hrd
      have hb0 : ∀ o1 o2, Below w.heap.size w ((w.alloc o1).alloc o2) := fun o1 o2 => ((Below.refl _ _).alloc (Nat.le_refl _) _).alloc (by simp) _
      clear hw2 hM hEE hE hm hr
      by_cases hE0 : E = 0
      · rw [if_pos hE0] at hm2 he2
        subst hm2 he2 hE0
        have hz : ((0 : Nat) : Int) = 0 := rfl
        rw [hz] at fE
        clear hor
        go_enter Try.func55, Try.ntmps55
        go_wp2_with fail
        refine (trim_any _ 2 2 [lo, hi] _ HRD.out).mono ?_
        rintro ee ww ⟨ao', n, rfl, rfl, hr', hn', hnm, hdg⟩
        go_wp2_with fail
        refine bodyPost_ret (v := .tuple #[.agg #[.bool (fneg u), .slice ao' n 2, .int .i64 (-1074)], .bool true]) (res_num2 _ 2 3 (by kernel_rfl) _ _ w.heap.size _ _ _ _ (by rfl) (by rfl) (alloc2_first w _ _)) rfl ⟨_, rfl, ⟨fneg u, -1074, ⟨ao', n, 2, _, rfl, rd4_other ⟨_, _, _, _, _, alloc2_first w _ _⟩ (fun b hb => alloc2_other w _ _ _ b hb) hr', hnm, by rw [hdg]; exact HW.out.1⟩, fun _ _ => ⟨rfl, rfl⟩, by omega, by omega, fun h => absurd h (by omega)⟩, hb0 _ _⟩
      · rw [if_neg hE0] at hm2 he2
        subst hm2 he2
        have hEp : 0 < E := by omega
        have hE0i : ((E : Int) == 0) = false := by rw [beq_eq_false_iff_ne]; omega
        generalize hmm : 4503599627370496 + m = m2 at *
        go_enter Try.func55, Try.ntmps55
        go_wp2_with fail
        refine (trim_any _ 2 2 [lo, hi] _ HRD.out).mono ?_
        rintro ee ww ⟨ao', n, rfl, rfl, hr', hn', hnm, hdg⟩
        go_wp2_with fail
        refine bodyPost_ret (v := .tuple #[.agg #[.bool (fneg u), .slice ao' n 2, .int .i64 ((E : Int) - 1075)], .bool true]) (res_num2 _ 2 3 (by kernel_rfl) _ _ w.heap.size _ _ _ _ (by rfl) (by rfl) (alloc2_first w _ _)) rfl ⟨_, rfl, ⟨fneg u, (E : Int) - 1075, ⟨ao', n, 2, _, rfl, rd4_other ⟨_, _, _, _, _, alloc2_first w _ _⟩ (fun b hb => alloc2_other w _ _ _ b hb) hr', hnm, by rw [hdg]; exact HW.out.1⟩, fun _ _ => ⟨rfl, rfl⟩, by omega, by omega, fun h => absurd h (by omega)⟩, hb0 _ _⟩
theorem ofC_any (u : Nat) (hu : u < 18446744073709551616) (w : World) (E : Nat) (hE : E = 1074) :
    Calls Try.prog 55 #[.int .u64 u] w fun e' w' => ∃ v, e' = .returned (.tuple #[v, .bool (decide (Fin u))]) ∧ (∃ z, NumC w' v E 1024 z ∧ (Fin u → z = fval u)) ∧ Below w.heap.size w w' := by
  refine (ofE_any u hu w).mono ?_
  rintro e' w' ⟨v, rfl, ⟨neg, e, hN, hne, h1, h2, h3⟩, hB⟩
  refine ⟨v, rfl, ⟨_, ⟨neg, _, e, hN, by omega, ?_, rfl, h3⟩, ?_⟩, hB⟩
  · by_cases hf : Fin u
    · rw [if_pos hf]
      have hv := ofM_val hf
      have := hv.2.2.2.1
      omega
    · rw [if_neg hf, bl_zero]; omega
  · intro hf
    rw [if_pos hf]
    have hv := ofM_val hf
    by_cases h0 : frung u = 0
    · rw [hv.2.2.2.2.2 h0, zv_zero]; unfold fval; rw [h0, rmag_zero]; split <;> rfl
    · obtain ⟨rfl, rfl⟩ := hne hf h0
      unfold zv sv fval
      rw [hE, ← hv.1]
      split
      · rw [Int.natCast_mul, Int.neg_mul]; rfl
      · rw [Int.natCast_mul]; rfl
theorem sizeC_any (v : Value) (s : Nat) (T x : Int) (w : World) (hx : NumC w v s T x) :
    Calls Try.prog 35 #[v] w fun e' w' => ∃ v', e' = .returned v' ∧ NumC w' v' s T (x.natAbs : Int) ∧ Below w.heap.size w w' := by
  obtain ⟨nx, mx, ex, h1, h2, h3, h4, h5⟩ := hx
  refine (size_any v nx mx ex w h1).mono ?_
  rintro e' w' ⟨v', rfl, hN, hB⟩
  refine ⟨v', rfl, ⟨_, mx, ex, hN, h2, h3, ?_, h5⟩, hB⟩
  rw [← h4, zv_abs]; unfold zv sv
  simp only [Bool.false_eq_true, if_false]
  rw [Int.natCast_mul]
end Go.Proofs.Ytoehhnildocihaa

namespace Go.Proofs.Ytoehhnildocihaa
open Go.RowKit Go.Shelf
set_option linter.unusedVariables false
set_option linter.unusedSimpArgs false
end Go.Proofs.Ytoehhnildocihaa

namespace Go.Proofs.Ytoehhnildocihaa
open Go.RowKit Go.Shelf
set_option linter.unusedVariables false
set_option linter.unusedSimpArgs false
/-- append(s, x...), x a slice that came in, nil perhaps. -/
theorem append_gnJ {SE E : TypeId} {z : Value} {size bytes : Nat} (hu : Try.prog.underlying SE = some (.slice E)) (hinfo : (Try.prog.info? E).map (fun i => (i.zero, i.size, i.bytes)) = some (some z, size, bytes)) (hzc : z.cells.size = size) (hsz : 0 < size) (hby : bytes ≤ 64)
    {ops : Array Oper} {rest : List Oper} {o : Oper} {a : Act} {Q : Exit → Act → World → Prop} (W : World) (hgd : o.guard = none) (s x : Operand) (ho : o.op = .call { callee := .builtin .append, args := #[s, x], argTypes := #[SE, SE] })
    (base : Nat) (v : Value) (n : Nat) (xs : List Value) (hs : a.eval s = v) (hown : W.ownsRow base E size v n xs)
    (xo : Option Addr) (m c : Nat) (news : List Value) (hx : a.eval x = .slice xo m c) (hnone : xo = none → m = 0 ∧ c = 0) (hl : news.length = m * size) (hnews : ∀ ad, xo = some ad → ∀ j u, news[j]? = some u → W.cell? (ad.add j) = some u) (h1 : ∀ u ∈ news, u.oneCell' = true)
    (hlen : n + m ≤ 4000000) (hbase : base ≤ W.heap.size)
    (h : ∀ v' w', w'.ownsRow base E size v' (n + m) (xs ++ news) → Grw W w' v.ownBlock v'.ownBlock → wpList Try.prog ops Q rest (a.put o.dst v') w') : wpList Try.prog ops Q (o :: rest) a W := by
  cases xo with
  | some ad => exact append_gsJ hu hinfo hzc hsz hby W hgd s x ho base v n xs hs hown ad m c news hx hl (hnews ad rfl) h1 hlen hbase h
  | none =>
    obtain ⟨rfl, rfl⟩ := hnone rfl
    obtain ⟨i0, hi, hz0, hz1, hz2⟩ := info3' hinfo
    have hn0 : news = [] := List.eq_nil_of_length_eq_zero (by simpa using hl)
    subst hn0
    refine wpList_append_own_none hgd s x SE ho base E i0 size hu hi v n xs hs hown hx (h v W (by rw [List.append_nil]; exact hown) ⟨⟨rfl, rfl, rfl, Nat.le_refl _, fun _ _ _ => rfl⟩, .inl rfl⟩)
end Go.Proofs.Ytoehhnildocihaa

namespace Go.Proofs.Ytoehhnildocihaa
open Go.RowKit Go.Shelf
set_option linter.unusedVariables false
set_option linter.unusedSimpArgs false
def uJ (us : List Nat) : List Value := us.map fun (u : Nat) => Value.int .u64 (u : Int)
theorem uJ_snoc (us : List Nat) (u : Nat) : uJ (us ++ [u]) = uJ us ++ [.int .u64 (u : Int)] := List.map_append
theorem uJ_at (us : List Nat) (j : Nat) (h : j < us.length) : (uJ us)[j]? = some (.int .u64 ((us[j]?.getD 0 : Nat) : Int)) := by
  unfold uJ
  rw [List.getElem?_map, List.getElem?_eq_getElem h]
  rfl
theorem Try.infoUJ : (Try.prog.info? 53).map (fun i => (i.zero, i.size, i.bytes)) = some (some (.int .u64 0), 1, 8) := by kernel_rfl
theorem Try.infoUsJ : (Try.prog.info? 31).map (fun i => (i.zero, i.size, i.bytes)) = some (some (.slice none 0 0), 1, 24) := by kernel_rfl
theorem Try.szUss : (Try.prog.info? 32).map (·.size) = some 1 := by kernel_rfl
theorem Try.infoZu : (Try.prog.info? 39).map (·.size) = some 6 := by kernel_rfl
theorem oneI : ∀ (x : Value), x.oneCell' = true → ∀ u ∈ [x], u.oneCell' = true := by
  intro x hx u hu
  simp only [List.mem_cons, List.not_mem_nil, or_false] at hu
  subst hu
  exact hx
set_option maxRecDepth 100000 in
set_option maxHeartbeats 1000000 in
/-- The document's Bits. -/
theorem bits10_any (ao : Option Addr) (len cap : Nat) (us : List Nat) (w : World) (hr : RdF w ao len cap us) (hl : len ≤ 1050000) :
    Calls Try.prog 8 #[.slice ao len cap] w fun e w' => ∃ v, e = .returned v ∧ w'.ownsRow w.heap.size 53 1 v us.length (uJ us) ∧ Below w.heap.size w w' := by
  have HR : Hid _ := hr
  have HLN : Hid _ := hr.length
  clear hr
  go_enter Try.func8, Try.ntmps8
  go_wp2_with fail
  go_loopg [3, 4] len (fun g v u wx => ∃ (i : Nat), u = .int .i64 i ∧ i + g = len ∧ Hid (wx.ownsRow w.heap.size 53 1 v i (uJ (us.take i))) ∧ Hid (Below w.heap.size w wx))
  case atStart => exact ⟨0, rfl, by omega, World.ownsRow_nil _ _ _ _, Below.refl _ _⟩
  case round =>
    obtain ⟨i, rfl, hi, HO, HB⟩ := hrel
    have hsr := HB.out.size
    by_cases hlt : i < len
    · have hd : decide ((i : Int) < (len : Int)) = true := decide_eq_true (by omega)
      obtain ⟨g, rfl⟩ : ∃ g, gk = g + 1 := ⟨gk - 1, by omega⟩
      rcases (HR.out.later HB.out).cells with h0 | ⟨b, off, rfl, hc⟩
      · omega
      have g0 := hc i hlt
      have HTS : Hid _ := take_snocJ (us := us) (k := i) (by rw [HLN.out]; exact hlt)
      obtain ⟨x, hx⟩ : ∃ x, us[i]?.getD 0 = x := ⟨_, rfl⟩
      rw [hx] at g0 HTS
      have HIG : Hid _ := hi
      clear hc hi hx
      go_wp2_with (first
        | (go_at_call 18; refine Calls.mono (apiBits_any x _) ?_; rintro e w' ⟨rfl, hw⟩; rw [hw]; clear hw)
        | (at_builtin; refine append_gsJ Try.underlying31 Try.infoUJ rfl (by decide) (by decide) _ (by rfl) _ _ (by rfl) w.heap.size _ _ _ (by rfl) (World.ownsRow.alloc HO.out _) ⟨wr.heap.size, 0, none⟩ 1 1 [.int .u64 (x : Int)] (by rfl) rfl (news_oneJ (heap_alloc_new wr _)) (oneI _ rfl) (by omega) (by simp only [alloc_size]; omega) ?_; intro v5 w5 o5 g5))
      have B5 : Hid (Below w.heap.size w w5) := (HB.out.alloc hsr _).trans (g5.below (fun k hk => (World.ownsRow.lt HO.out k hk).1) (by simp only [alloc_size]; omega))
      have O5 : Hid _ := o5
      clear o5 g5
      go_roundg g
      case measure => omega
      case rel =>
        refine ⟨i + 1, by go_num, by have := HIG.out; omega, ?_, B5⟩
        unfold Hid
        rw [HTS.out, uJ_snoc]
        exact O5.out
    · have hd : decide ((i : Int) < (len : Int)) = false := decide_eq_false (by omega)
      have HO2 : Hid (wr.ownsRow w.heap.size 53 1 u3 us.length (uJ us)) := by
        have := HO.out
        rw [List.take_of_length_le (by rw [HLN.out]; omega), show i = us.length by rw [HLN.out]; omega] at this
        exact this
      go_wp2
      go_ret
      exact ⟨_, rfl, HO2.out, HB.out⟩
/-- What came in: nil lists have no room; nothing is longer than the bulk. -/
structure ZW (z : ZD) : Prop where
  c : z.co = none → z.cn = 0 ∧ z.cc = 0
  i : z.io = none → z.dn = 0 ∧ z.dc = 0
  r : z.ro = none → z.rn = 0 ∧ z.rc = 0
  col : ∀ k, k < z.gn → (z.gv k).1 = none → (z.gv k).2.1 = 0 ∧ (z.gv k).2.2 = 0
  cl : z.cn ≤ 1050000
  il : z.dn ≤ 1050000
  gl : z.gn ≤ 1050000
  rl : z.rn ≤ 1050000
  coll : ∀ k, k < z.gn → (z.gv k).2.1 ≤ 1050000
theorem rdI_news {w : World} {ao : Option Addr} {len cap : Nat} {is : List Int} (h : RdIs w ao len cap is) : ∀ ad, ao = some ad → ∀ j u, (is.map (Value.int .i64))[j]? = some u → w.cell? (ad.add j) = some u := by
  intro ad ha j u hj
  have hl : j < is.length := by have := (List.getElem?_eq_some_iff.1 hj).1; rw [List.length_map] at this; exact this
  rw [List.getElem?_map, List.getElem?_eq_getElem hl] at hj
  cases hj
  have hlen := h.length
  rcases h.cells with h0 | ⟨b, off, he, hc⟩
  · omega
  · rw [ha] at he
    cases he
    rw [Addr.add_mid]
    have := hc j (by omega)
    rw [List.getElem?_eq_getElem hl] at this
    exact this
theorem intJ_one (is : List Int) : ∀ u ∈ is.map (Value.int .i64), u.oneCell' = true := by
  intro u hu
  obtain ⟨x, _, rfl⟩ := List.mem_map.1 hu
  rfl
theorem rdU_of {w : World} {base : Nat} {v : Value} {us : List Nat} (h : w.ownsRow base 53 1 v us.length (uJ us)) : ∃ ao cap, v = .slice ao us.length cap ∧ RdUs w ao us.length cap us := by
  obtain ⟨ao, cap, rfl, hm, hc⟩ := owns_slice h
  refine ⟨ao, cap, rfl, rfl, hm, ?_⟩
  rcases hc with h0 | ⟨g, rfl, hc⟩
  · exact .inl h0
  · exact .inr ⟨g, 0, rfl, fun j hj => by rw [Nat.zero_add, hc j hj, uJ_at us j hj]⟩
/-- The lists of the document's zonotope, in memory of their own. -/
structure OfL (w : World) (base : Nat) (cs rs : List Nat) (ids : List Int) (gs : List (List Nat)) (vc vr vi vg : Value) (gl : List Value) : Prop where
  c : w.ownsRow base 53 1 vc cs.length (uJ cs)
  r : w.ownsRow base 53 1 vr rs.length (uJ rs)
  i : w.ownsRow base 3 1 vi ids.length (ids.map (Value.int .i64))
  g : w.ownsRow base 31 1 vg gl.length gl
  len : gl.length = gs.length
  col : ∀ (j : Nat) (u : Value), gl[j]? = some u → w.ownsRow base 53 1 u (gs[j]?.getD []).length (uJ (gs[j]?.getD []))
theorem OfL.keep {w w' : World} {base : Nat} {cs rs : List Nat} {ids : List Int} {gs : List (List Nat)} {vc vr vi vg : Value} {gl : List Value} (h : OfL w base cs rs ids gs vc vr vi vg gl) (hk : ∀ (k : Nat) (cur : Array Value) (t : TypeId), t ≠ 39 → w.heap[k]? = some (.cells cur t) → w'.heap[k]? = w.heap[k]?) : OfL w' base cs rs ids gs vc vr vi vg gl :=
  ⟨owns_keepT h.c fun k cur => hk k cur _ (by decide), owns_keepT h.r fun k cur => hk k cur _ (by decide), owns_keepT h.i fun k cur => hk k cur _ (by decide), owns_keepT h.g fun k cur => hk k cur _ (by decide), h.len, fun j u hj => owns_keepT (h.col j u hj) fun k cur => hk k cur _ (by decide)⟩
theorem OfL.later {w w' : World} {base : Nat} {cs rs : List Nat} {ids : List Int} {gs : List (List Nat)} {vc vr vi vg : Value} {gl : List Value} (h : OfL w base cs rs ids gs vc vr vi vg gl) (hb : Below w.heap.size w w') : OfL w' base cs rs ids gs vc vr vi vg gl :=
  ⟨owns_keepT h.c fun k cur hc => hb.block k (blk_lt hc), owns_keepT h.r fun k cur hc => hb.block k (blk_lt hc), owns_keepT h.i fun k cur hc => hb.block k (blk_lt hc), owns_keepT h.g fun k cur hc => hb.block k (blk_lt hc), h.len, fun j u hj => owns_keepT (h.col j u hj) fun k cur hc => hb.block k (blk_lt hc)⟩
theorem OfL.pushI {w w' : World} {base : Nat} {cs rs : List Nat} {ids : List Int} {gs : List (List Nat)} {vc vr vi vg vi' : Value} {gl : List Value} {is : List Int} (h : OfL w base cs rs ids gs vc vr vi vg gl) (hg : Grw w w' vi.ownBlock vi'.ownBlock)
    (ho : w'.ownsRow base 3 1 vi' is.length (is.map (Value.int .i64))) : OfL w' base cs rs is gs vc vr vi' vg gl := by
  have hk := grw_types h.i hg
  exact ⟨owns_keepT h.c fun k cur => hk k cur _ (by decide), owns_keepT h.r fun k cur => hk k cur _ (by decide), ho, owns_keepT h.g fun k cur => hk k cur _ (by decide), h.len, fun j u hj => owns_keepT (h.col j u hj) fun k cur => hk k cur _ (by decide)⟩
theorem OfL.pushG {w w' : World} {base : Nat} {cs rs us : List Nat} {ids : List Int} {gs : List (List Nat)} {vc vr vi vg vg' v : Value} {gl : List Value} (h : OfL w base cs rs ids gs vc vr vi vg gl) (hg : Grw w w' vg.ownBlock vg'.ownBlock)
    (ho : w'.ownsRow base 31 1 vg' (gl.length + 1) (gl ++ [v])) (hv : w.ownsRow base 53 1 v us.length (uJ us)) : OfL w' base cs rs ids (gs ++ [us]) vc vr vi vg' (gl ++ [v]) := by
  have hk := grw_types h.g hg
  refine ⟨owns_keepT h.c fun k cur => hk k cur _ (by decide), owns_keepT h.r fun k cur => hk k cur _ (by decide), owns_keepT h.i fun k cur => hk k cur _ (by decide), by simpa using ho, by simp [h.len], fun j u hj => ?_⟩
  by_cases e : j < gl.length
  · rw [List.getElem?_append_left e] at hj
    rw [List.getElem?_append_left (by rw [← h.len]; exact e)]
    exact owns_keepT (h.col j u hj) fun k cur => hk k cur _ (by decide)
  · have hl := (List.getElem?_eq_some_iff.1 hj).1
    have ej : j = gl.length := by simp at hl; omega
    subst ej
    rw [List.getElem?_append_right (Nat.le_refl _), Nat.sub_self, List.getElem?_cons_zero] at hj
    cases hj
    rw [List.getElem?_append_right (by rw [h.len]; exact Nat.le_refl _), h.len, Nat.sub_self, List.getElem?_cons_zero]
    exact owns_keepT hv fun k cur => hk k cur _ (by decide)
theorem OfL.zu {w : World} {base : Nat} {cs rs : List Nat} {ids : List Int} {gs : List (List Nat)} {vc vr vi vg : Value} {gl : List Value} (h : OfL w base cs rs ids gs vc vr vi vg gl) (N : Int) (bad : Bool) :
    ∃ u : ZD, (.agg #[.int .i64 N, vc, vi, vg, vr, .bool bad] : Value) = .agg (zRow u) ∧ ZU w u ∧ u.N = N ∧ u.bad = bad ∧ u.cs = cs ∧ u.rs = rs ∧ u.ids = ids ∧ u.gs = gs ∧ u.dn = ids.length ∧ u.gn = gs.length ∧ u.cn = cs.length ∧ u.rn = rs.length := by
  obtain ⟨co, cc, rfl, hc⟩ := rdU_of h.c
  obtain ⟨ro, rc, rfl, hr⟩ := rdU_of h.r
  obtain ⟨io, dc, rfl, hm1, h1⟩ := owns_slice h.i
  obtain ⟨go, gc, rfl, hm2, h2⟩ := owns_slice h.g
  have hx : ∀ j : Nat, ∃ p : Option Addr × Nat × Nat, j < gl.length → gl[j]? = some (.slice p.1 p.2.1 p.2.2) ∧ RdUs w p.1 p.2.1 p.2.2 (gs[j]?.getD []) := fun j => by
    by_cases hj : j < gl.length
    · obtain ⟨ao, cap, hv, hr⟩ := rdU_of (h.col j _ (List.getElem?_eq_getElem hj))
      exact ⟨(ao, _, cap), fun _ => ⟨by rw [List.getElem?_eq_getElem hj, hv], hr⟩⟩
    · exact ⟨(none, 0, 0), fun h => absurd h hj⟩
  have hln := h.len
  refine ⟨⟨N, co, cs.length, cc, io, ids.length, dc, go, gl.length, gc, ro, rs.length, rc, bad, cs, ids, fun j => Classical.choose (hx j), gs, rs⟩, rfl, ⟨hc, ⟨rfl, hm1, ?_⟩, ⟨hln.symm, hm2, ?_, fun j hj => (Classical.choose_spec (hx j) hj).2⟩, hr⟩, rfl, rfl, rfl, rfl, rfl, rfl, rfl, hln, rfl, rfl⟩
  · rcases h1 with h0 | ⟨g, rfl, hc⟩
    · exact .inl h0
    · refine .inr ⟨g, 0, rfl, fun j hj => ?_⟩
      dsimp only at hj ⊢
      rw [Nat.zero_add, hc j hj, List.getElem?_map, List.getElem?_eq_getElem hj]
      rfl
  · rcases h2 with h0 | ⟨g, rfl, hc⟩
    · exact .inl h0
    · refine .inr ⟨g, 0, rfl, fun j hj => ?_⟩
      rw [Nat.zero_add, hc j hj, (Classical.choose_spec (hx j) hj).1]
theorem allocUJ (w : World) : (Instr.alloc 39 true (.tuple #[])).run Try.prog w = .ok (.pointer (some ⟨w.heap.size, 0, none⟩)) (w.alloc (.cells #[.int .i64 0, .slice none 0 0, .slice none 0 0, .slice none 0 0, .slice none 0 0, .bool false] 39)) := by kernel_rfl
end Go.Proofs.Ytoehhnildocihaa

namespace Go.Proofs.Ytoehhnildocihaa
open Go.RowKit Go.Shelf
set_option linter.unusedVariables false
set_option linter.unusedSimpArgs false
theorem take_snocG {us : List (List Nat)} {k : Nat} (h : k < us.length) : us.take (k + 1) = us.take k ++ [us[k]?.getD []] := by
  rw [List.take_succ_eq_append_getElem h, List.getElem?_eq_getElem h]; rfl
theorem rdGs_at {w : World} {b off len cap : Nat} {gv : Nat → Option Addr × Nat × Nat} {gs : List (List Nat)} (h : RdGs w (some ⟨b, off, none⟩) len cap gv gs) {k : Nat} (hk : k < len) : w.cell? ⟨b, off + k, none⟩ = some (.slice (gv k).1 (gv k).2.1 (gv k).2.2) := by
  rcases h.cells with h0 | ⟨b', off', e, hc⟩
  · omega
  · cases e
    exact hc k hk
set_option maxRecDepth 100000 in
set_option maxHeartbeats 4000000 in
/-- The document's Of. -/
theorem of10_any (z : ZD) (w : World) (hz : ZR w z) (hw : ZW z) :
    Calls Try.prog 7 #[.agg (zRow z)] w fun e w' => ∃ u : ZD, e = .returned (.agg (zRow u)) ∧ ZU w' u ∧ u.N = z.N ∧ u.bad = z.bad ∧ u.cs = z.cs ∧ u.rs = z.rs ∧ u.ids = z.ids ∧ u.gs = z.gs ∧ u.dn = z.dn ∧ u.gn = z.gn ∧ u.cn = z.cn ∧ u.rn = z.rn ∧ Below w.heap.size w w' := by
  obtain ⟨N, co, cn, cc, io, dn, dc, go, gn, gc, ro, rn, rc, bad, cs, ids, gv, gs, rs⟩ := z
  have HC : Hid (∀ W', Below w.heap.size w W' → Calls Try.prog 8 #[.slice co cn cc] W' fun e w' => ∃ v, e = .returned v ∧ w'.ownsRow W'.heap.size 53 1 v cs.length (uJ cs) ∧ Below W'.heap.size W' w') := fun W' hb => bits10_any co cn cc cs W' (hz.later hb).c hw.cl
  have HR : Hid (∀ W', Below w.heap.size w W' → Calls Try.prog 8 #[.slice ro rn rc] W' fun e w' => ∃ v, e = .returned v ∧ w'.ownsRow W'.heap.size 53 1 v rs.length (uJ rs) ∧ Below W'.heap.size W' w') := fun W' hb => bits10_any ro rn rc rs W' (hz.later hb).r hw.rl
  have HG : Hid (∀ x, x < gn → ∀ W', Below w.heap.size w W' → Calls Try.prog 8 #[.slice (gv x).1 (gv x).2.1 (gv x).2.2] W' fun e w' => ∃ v, e = .returned v ∧ w'.ownsRow W'.heap.size 53 1 v (gs[x]?.getD []).length (uJ (gs[x]?.getD [])) ∧ Below W'.heap.size W' w') := fun x hx W' hb => bits10_any _ _ _ _ W' ((hz.later hb).g.each x hx) (hw.coll x hx)
  have HIR : Hid (∀ W', Below w.heap.size w W' → RdIs W' io dn dc ids) := fun W' hb => (hz.later hb).i
  have HGR : Hid (∀ W', Below w.heap.size w W' → RdGs W' go gn gc gv gs) := fun W' hb => (hz.later hb).g
  have HNI : Hid (io = none → dn = 0 ∧ dc = 0) := hw.i
  have HLN : Hid (ids.length = dn ∧ gs.length = gn) := ⟨hz.i.length, hz.g.length⟩
  have HLC : Hid (cs.length = cn ∧ rs.length = rn) := ⟨hz.c.length, hz.r.length⟩
  have hdl : dn ≤ 1050000 := hw.il
  have hgl : gn ≤ 1050000 := hw.gl
  clear hz hw
  have X0 : Below w.heap.size w ((w.alloc (.cells #[.int .i64 N, .slice co cn cc, .slice io dn dc, .slice go gn gc, .slice ro rn rc, .bool bad] 26)).alloc (.cells #[.int .i64 0, .slice none 0 0, .slice none 0 0, .slice none 0 0, .slice none 0 0, .bool false] 39)) := ((Below.refl _ w).alloc (Nat.le_refl _) _).alloc (by simp only [alloc_size]; omega) _
  have Y0 : ((w.alloc (.cells #[.int .i64 N, .slice co cn cc, .slice io dn dc, .slice go gn gc, .slice ro rn rc, .bool bad] 26)).alloc (.cells #[.int .i64 0, .slice none 0 0, .slice none 0 0, .slice none 0 0, .slice none 0 0, .bool false] 39)).heap[w.heap.size]? = some (.cells #[.int .i64 N, .slice co cn cc, .slice io dn dc, .slice go gn gc, .slice ro rn rc, .bool bad] 26) := alloc_kept (heap_alloc_new w _) _
  have Y1 : ((w.alloc (.cells #[.int .i64 N, .slice co cn cc, .slice io dn dc, .slice go gn gc, .slice ro rn rc, .bool bad] 26)).alloc (.cells #[.int .i64 0, .slice none 0 0, .slice none 0 0, .slice none 0 0, .slice none 0 0, .bool false] 39)).heap[w.heap.size + 1]? = some (.cells #[.int .i64 0, .slice none 0 0, .slice none 0 0, .slice none 0 0, .slice none 0 0, .bool false] 39) := heap_at _ _ (w.heap.size + 1) (by simp only [alloc_size])
  unfold zRow
  dsimp only
  go_enter Try.func7, Try.ntmps7
  go_upto_region 1 with fail
  obtain ⟨X, hX⟩ : ∃ X, ((w.alloc (.cells #[.int .i64 N, .slice co cn cc, .slice io dn dc, .slice go gn gc, .slice ro rn rc, .bool bad] 26)).alloc (.cells #[.int .i64 0, .slice none 0 0, .slice none 0 0, .slice none 0 0, .slice none 0 0, .bool false] 39)) = X := ⟨_, rfl⟩
  rw [hX] at X0 Y0 Y1 ⊢
  clear hX
  have HX : Hid (Below w.heap.size w X ∧ X.heap[w.heap.size]? = some (.cells #[.int .i64 N, .slice co cn cc, .slice io dn dc, .slice go gn gc, .slice ro rn rc, .bool bad] 26) ∧ X.heap[w.heap.size + 1]? = some (.cells #[.int .i64 0, .slice none 0 0, .slice none 0 0, .slice none 0 0, .slice none 0 0, .bool false] 39)) := ⟨X0, Y0, Y1⟩
  clear X0 Y0 Y1
  go_cut [3] (fun v wx => ∃ D vc vr, v = .pointer (some ⟨D, 0, none⟩) ∧ Hid (wx.heap[D]? = some (.cells #[.int .i64 N, vc, .slice none 0 0, .slice none 0 0, vr, .bool bad] 39)) ∧ Hid (OfL wx w.heap.size cs rs [] [] vc vr (.slice none 0 0) (.slice none 0 0) []) ∧ Hid (Below w.heap.size w wx) ∧ Hid (wx.heap[w.heap.size]? = some (.cells #[.int .i64 N, .slice co cn cc, .slice io dn dc, .slice go gn gc, .slice ro rn rc, .bool bad] 26) ∧ wx.heap[w.heap.size + 1]? = some (.cells #[.int .i64 0, .slice none 0 0, .slice none 0 0, .slice none 0 0, .slice none 0 0, .bool false] 39)) ∧ w.heap.size + 1 < D)
  case first =>
    have bX : Below X.heap.size X X.drew := (Below.refl _ _).drew
    refine wp_region_noPanic ?_
    refine wp_region_held_drew (S := (fun W' => Below X.heap.size X W')) (by kernel_rfl) bX (fun _ => ?_)
    refine takeH 5 (i := 0) (v := ?_) rfl rfl (by kernel_rfl) (by kernel_rfl) (by kernel_rfl) (fun _ _ _ h => h) (Or.inl ⟨by kernel_rfl, ?_⟩) bX ?_
    rotate_left
    · intro w' hSw; obtain ⟨c0, c1, c2, c3, c4, c5⟩ := cells6 ((hSw.block _ (blk_lt HX.out.2.1)).trans HX.out.2.1); go_simp; try with_reducible rfl
    try simp only [Act.put, List.setIfInBounds_toArray, List.set_cons_zero, List.set_cons_succ]
    refine takeH 6 (i := 1) (v := ?_) rfl rfl (by kernel_rfl) (by kernel_rfl) (by kernel_rfl) (fun _ _ _ h => h) (Or.inl ⟨by kernel_rfl, ?_⟩) bX ?_
    rotate_left
    · intro w' hSw; obtain ⟨c0, c1, c2, c3, c4, c5⟩ := cells6 ((hSw.block _ (blk_lt HX.out.2.1)).trans HX.out.2.1); go_simp; try with_reducible rfl
    try simp only [Act.put, List.setIfInBounds_toArray, List.set_cons_zero, List.set_cons_succ]
    refine takeH 7 (i := 2) (v := ?_) rfl rfl (by kernel_rfl) (by kernel_rfl) (by kernel_rfl) (fun _ _ _ h => h) (Or.inl ⟨by kernel_rfl, ?_⟩) bX ?_
    rotate_left
    · intro w' hSw; obtain ⟨c0, c1, c2, c3, c4, c5⟩ := cells6 ((hSw.block _ (blk_lt HX.out.2.1)).trans HX.out.2.1); go_simp; try with_reducible rfl
    try simp only [Act.put, List.setIfInBounds_toArray, List.set_cons_zero, List.set_cons_succ]
    refine takeH 8 (i := 3) (v := ?_) rfl rfl (by kernel_rfl) (by kernel_rfl) (by kernel_rfl) (fun _ _ _ h => h) (Or.inl ⟨by kernel_rfl, ?_⟩) bX ?_
    rotate_left
    · intro w' hSw; obtain ⟨c0, c1, c2, c3, c4, c5⟩ := cells6 ((hSw.block _ (blk_lt HX.out.2.1)).trans HX.out.2.1); go_simp; try with_reducible rfl
    try simp only [Act.put, List.setIfInBounds_toArray, List.set_cons_zero, List.set_cons_succ]
    refine takeH 10 (i := 5) (v := ?_) rfl rfl (by kernel_rfl) (by kernel_rfl) (by kernel_rfl) (fun _ _ _ h => h) (Or.inl ⟨by kernel_rfl, ?_⟩) bX ?_
    rotate_left
    · intro w' hSw; obtain ⟨c0, c1, c2, c3, c4, c5⟩ := cells6 ((hSw.block _ (blk_lt HX.out.2.1)).trans HX.out.2.1); go_simp; try with_reducible rfl
    try simp only [Act.put, List.setIfInBounds_toArray, List.set_cons_zero, List.set_cons_succ]
    refine takeH 11 (i := 6) (v := ?_) rfl rfl (by kernel_rfl) (by kernel_rfl) (by kernel_rfl) (fun _ _ _ h => h) (Or.inl ⟨by kernel_rfl, ?_⟩) bX ?_
    rotate_left
    · intro w' hSw; obtain ⟨c0, c1, c2, c3, c4, c5⟩ := cells6 ((hSw.block _ (blk_lt HX.out.2.1)).trans HX.out.2.1); go_simp; try with_reducible rfl
    try simp only [Act.put, List.setIfInBounds_toArray, List.set_cons_zero, List.set_cons_succ]
    refine takeH 13 (i := 8) (v := ?_) rfl rfl (by kernel_rfl) (by kernel_rfl) (by kernel_rfl) (fun _ _ _ h => h) (Or.inl ⟨by kernel_rfl, ?_⟩) bX ?_
    rotate_left
    · intro w' hSw; obtain ⟨c0, c1, c2, c3, c4, c5⟩ := cells6 ((hSw.block _ (blk_lt HX.out.2.1)).trans HX.out.2.1); go_simp; try with_reducible rfl
    try simp only [Act.put, List.setIfInBounds_toArray, List.set_cons_zero, List.set_cons_succ]
    refine takeH 14 (i := 9) (v := ?_) rfl rfl (by kernel_rfl) (by kernel_rfl) (by kernel_rfl) (fun _ _ _ h => h) (Or.inl ⟨by kernel_rfl, ?_⟩) bX ?_
    rotate_left
    · intro w' hSw; obtain ⟨c0, c1, c2, c3, c4, c5⟩ := cells6 ((hSw.block _ (blk_lt HX.out.2.1)).trans HX.out.2.1); go_simp; try with_reducible rfl
    try simp only [Act.put, List.setIfInBounds_toArray, List.set_cons_zero, List.set_cons_succ]
    obtain ⟨V, hV⟩ : ∃ V, X.drew = V := ⟨_, rfl⟩
    have bV : Below X.heap.size X V := hV ▸ bX
    rw [hV]
    clear hV bX
    refine wpAnyH_ready (rs := [4, 11]) (by kernel_rfl) (by simp) ?_
    refine consH _ rfl ?_ (consH _ rfl ?_ AllReadyH.nil)
    · refine hopCd 9 rfl (by kernel_rfl) rfl (by kernel_rfl) (Calls.mono (HC.out _ (HX.out.1.trans (bV.mono HX.out.1.size))) ?_)
      rintro e Vc ⟨vc, rfl, o1, hb⟩
      obtain ⟨avc, pvc, hvc, -⟩ := owns_slice o1
      subst hvc
      have bVc : Below X.heap.size X Vc := bV.trans (hb.mono bV.size)
      have ocVc := owns_monoJ o1 bV.size
      clear o1 hb
      refine ⟨_, rfl, bVc, ?_⟩
      try simp only [Act.put, List.setIfInBounds_toArray, List.set_cons_zero, List.set_cons_succ]
      refine wpAnyH_ready (rs := [7, 11]) (by kernel_rfl) (by simp) ?_
      refine consH _ rfl ?_ (consH _ rfl ?_ AllReadyH.nil)
      · refine hopCd 12 rfl (by kernel_rfl) rfl (by kernel_rfl) (Calls.mono (HR.out _ (HX.out.1.trans (bVc.mono HX.out.1.size))) ?_)
        rintro e Vcr ⟨vr, rfl, o1, hb⟩
        obtain ⟨avr, pvr, hvr, -⟩ := owns_slice o1
        subst hvr
        have bVcr : Below X.heap.size X Vcr := bVc.trans (hb.mono bVc.size)
        have ocVcr := owns_keepT ocVc fun k cur hc => hb.block k (blk_lt hc)
        have orVcr := owns_monoJ o1 bVc.size
        clear o1 hb
        refine ⟨_, rfl, bVcr, ?_⟩
        try simp only [Act.put, List.setIfInBounds_toArray, List.set_cons_zero, List.set_cons_succ]
        refine takeH 15 (i := 10) (v := .agg #[.int .i64 N, (.slice avc cs.length pvc), .slice none 0 0, .slice none 0 0, (.slice avr rs.length pvr), .bool bad]) rfl rfl (by kernel_rfl) (by kernel_rfl) (by kernel_rfl) (fun _ _ _ h => h) (Or.inl ⟨by kernel_rfl, fun w' _ => by kernel_rfl⟩) bVcr ?_
        try simp only [Act.put, List.setIfInBounds_toArray, List.set_cons_zero, List.set_cons_succ]
        refine wpAnyH_ready (rs := [11]) (by kernel_rfl) (by simp) ?_
        refine consH _ rfl ?_ AllReadyH.nil
        · refine hopAJ 3 rfl rfl rfl 39 rfl #[.int .i64 0, .slice none 0 0, .slice none 0 0, .slice none 0 0, .slice none 0 0, .bool false] allocUJ fun D Vcra hDVcra hDl hb => ?_
          have bVcra : Below X.heap.size X Vcra := bVcr.trans (hb.mono bVcr.size)
          have hDX : X.heap.size ≤ D := Nat.le_trans bVcr.size hDl
          have ocVcra := owns_keepT ocVcr fun k cur hc => hb.block k (blk_lt hc)
          have orVcra := owns_keepT orVcr fun k cur hc => hb.block k (blk_lt hc)
          refine ⟨bVcra, ?_⟩
          try simp only [Act.put, List.setIfInBounds_toArray, List.set_cons_zero, List.set_cons_succ]
          refine wpAnyH_ready (rs := [12]) (by kernel_rfl) (by simp) ?_
          refine consH _ rfl (hopL rfl (wpList_store_row (by rfl) 39 _ _ (by rfl) X X.heap.size D #[.int .i64 N, (.slice avc cs.length pvc), .slice none 0 0, .slice none 0 0, (.slice avr rs.length pvr), .bool bad] _ (by kernel_rfl) (by kernel_rfl) hDVcra bVcra hDX 6 Try.infoZu (by rfl) (by rfl) (oneZ _ _ _ _ _ (own_valJ ocVcra).1 rfl rfl (own_valJ orVcra).1 _) fun W9 e9 b9 hs9 ho9 => ?_)) AllReadyH.nil
          refine (And.intro b9 ?_ : _ ∧ _)
          try simp only [Act.put, List.setIfInBounds_toArray, List.set_cons_zero, List.set_cons_succ]
          refine wpAnyH_done (by kernel_rfl) ?_ _
          refine NoPanic.normal ?_
          try simp only [Act.put, List.setIfInBounds_toArray, List.set_cons_zero, List.set_cons_succ]
          go_wp2_with fail
          go_meet
          have hk9 : ∀ (k : Nat) (cur : Array Value), Vcra.heap[k]? = some (.cells cur 53) → W9.heap[k]? = Vcra.heap[k]? := fun k cur hc => ho9 k (by rintro rfl; rw [hDVcra] at hc; cases hc)
          exact ⟨D, .slice avc cs.length pvc, .slice avr rs.length pvr, rfl, e9, ⟨owns_monoJ (owns_keepT ocVcra hk9) HX.out.1.size, owns_monoJ (owns_keepT orVcra hk9) HX.out.1.size, World.ownsRow_nil _ _ _ _, World.ownsRow_nil _ _ _ _, rfl, fun j u hj => (by simp at hj)⟩, HX.out.1.trans (b9.mono HX.out.1.size), ⟨(b9.block _ (blk_lt HX.out.2.1)).trans HX.out.2.1, (b9.block _ (blk_lt HX.out.2.2)).trans HX.out.2.2⟩, Nat.lt_of_lt_of_le (blk_lt HX.out.2.2) hDX⟩
      · refine hopAJ 3 rfl rfl rfl 39 rfl #[.int .i64 0, .slice none 0 0, .slice none 0 0, .slice none 0 0, .slice none 0 0, .bool false] allocUJ fun D Vca hDVca hDl hb => ?_
        have bVca : Below X.heap.size X Vca := bVc.trans (hb.mono bVc.size)
        have hDX : X.heap.size ≤ D := Nat.le_trans bVc.size hDl
        have ocVca := owns_keepT ocVc fun k cur hc => hb.block k (blk_lt hc)
        refine ⟨bVca, ?_⟩
        try simp only [Act.put, List.setIfInBounds_toArray, List.set_cons_zero, List.set_cons_succ]
        refine wpAnyH_ready (rs := [7]) (by kernel_rfl) (by simp) ?_
        refine consH _ rfl ?_ AllReadyH.nil
        · refine hopCd 12 rfl (by kernel_rfl) rfl (by kernel_rfl) (Calls.mono (HR.out _ (HX.out.1.trans (bVca.mono HX.out.1.size))) ?_)
          rintro e Vcar ⟨vr, rfl, o1, hb⟩
          obtain ⟨avr, pvr, hvr, -⟩ := owns_slice o1
          subst hvr
          have bVcar : Below X.heap.size X Vcar := bVca.trans (hb.mono bVca.size)
          have ocVcar := owns_keepT ocVca fun k cur hc => hb.block k (blk_lt hc)
          have hDVcar := kept hb hDVca
          have orVcar := owns_monoJ o1 bVca.size
          clear o1 hb
          refine ⟨_, rfl, bVcar, ?_⟩
          try simp only [Act.put, List.setIfInBounds_toArray, List.set_cons_zero, List.set_cons_succ]
          refine takeH 15 (i := 10) (v := .agg #[.int .i64 N, (.slice avc cs.length pvc), .slice none 0 0, .slice none 0 0, (.slice avr rs.length pvr), .bool bad]) rfl rfl (by kernel_rfl) (by kernel_rfl) (by kernel_rfl) (fun _ _ _ h => h) (Or.inl ⟨by kernel_rfl, fun w' _ => by kernel_rfl⟩) bVcar ?_
          try simp only [Act.put, List.setIfInBounds_toArray, List.set_cons_zero, List.set_cons_succ]
          refine wpAnyH_ready (rs := [12]) (by kernel_rfl) (by simp) ?_
          refine consH _ rfl (hopL rfl (wpList_store_row (by rfl) 39 _ _ (by rfl) X X.heap.size D #[.int .i64 N, (.slice avc cs.length pvc), .slice none 0 0, .slice none 0 0, (.slice avr rs.length pvr), .bool bad] _ (by kernel_rfl) (by kernel_rfl) hDVcar bVcar hDX 6 Try.infoZu (by rfl) (by rfl) (oneZ _ _ _ _ _ (own_valJ ocVcar).1 rfl rfl (own_valJ orVcar).1 _) fun W9 e9 b9 hs9 ho9 => ?_)) AllReadyH.nil
          refine (And.intro b9 ?_ : _ ∧ _)
          try simp only [Act.put, List.setIfInBounds_toArray, List.set_cons_zero, List.set_cons_succ]
          refine wpAnyH_done (by kernel_rfl) ?_ _
          refine NoPanic.normal ?_
          try simp only [Act.put, List.setIfInBounds_toArray, List.set_cons_zero, List.set_cons_succ]
          go_wp2_with fail
          go_meet
          have hk9 : ∀ (k : Nat) (cur : Array Value), Vcar.heap[k]? = some (.cells cur 53) → W9.heap[k]? = Vcar.heap[k]? := fun k cur hc => ho9 k (by rintro rfl; rw [hDVcar] at hc; cases hc)
          exact ⟨D, .slice avc cs.length pvc, .slice avr rs.length pvr, rfl, e9, ⟨owns_monoJ (owns_keepT ocVcar hk9) HX.out.1.size, owns_monoJ (owns_keepT orVcar hk9) HX.out.1.size, World.ownsRow_nil _ _ _ _, World.ownsRow_nil _ _ _ _, rfl, fun j u hj => (by simp at hj)⟩, HX.out.1.trans (b9.mono HX.out.1.size), ⟨(b9.block _ (blk_lt HX.out.2.1)).trans HX.out.2.1, (b9.block _ (blk_lt HX.out.2.2)).trans HX.out.2.2⟩, Nat.lt_of_lt_of_le (blk_lt HX.out.2.2) hDX⟩
    · refine hopAJ 3 rfl rfl rfl 39 rfl #[.int .i64 0, .slice none 0 0, .slice none 0 0, .slice none 0 0, .slice none 0 0, .bool false] allocUJ fun D Va hDVa hDl hb => ?_
      have bVa : Below X.heap.size X Va := bV.trans (hb.mono bV.size)
      have hDX : X.heap.size ≤ D := Nat.le_trans bV.size hDl
      refine ⟨bVa, ?_⟩
      try simp only [Act.put, List.setIfInBounds_toArray, List.set_cons_zero, List.set_cons_succ]
      refine wpAnyH_ready (rs := [4]) (by kernel_rfl) (by simp) ?_
      refine consH _ rfl ?_ AllReadyH.nil
      · refine hopCd 9 rfl (by kernel_rfl) rfl (by kernel_rfl) (Calls.mono (HC.out _ (HX.out.1.trans (bVa.mono HX.out.1.size))) ?_)
        rintro e Vac ⟨vc, rfl, o1, hb⟩
        obtain ⟨avc, pvc, hvc, -⟩ := owns_slice o1
        subst hvc
        have bVac : Below X.heap.size X Vac := bVa.trans (hb.mono bVa.size)
        have hDVac := kept hb hDVa
        have ocVac := owns_monoJ o1 bVa.size
        clear o1 hb
        refine ⟨_, rfl, bVac, ?_⟩
        try simp only [Act.put, List.setIfInBounds_toArray, List.set_cons_zero, List.set_cons_succ]
        refine wpAnyH_ready (rs := [7]) (by kernel_rfl) (by simp) ?_
        refine consH _ rfl ?_ AllReadyH.nil
        · refine hopCd 12 rfl (by kernel_rfl) rfl (by kernel_rfl) (Calls.mono (HR.out _ (HX.out.1.trans (bVac.mono HX.out.1.size))) ?_)
          rintro e Vacr ⟨vr, rfl, o1, hb⟩
          obtain ⟨avr, pvr, hvr, -⟩ := owns_slice o1
          subst hvr
          have bVacr : Below X.heap.size X Vacr := bVac.trans (hb.mono bVac.size)
          have ocVacr := owns_keepT ocVac fun k cur hc => hb.block k (blk_lt hc)
          have hDVacr := kept hb hDVac
          have orVacr := owns_monoJ o1 bVac.size
          clear o1 hb
          refine ⟨_, rfl, bVacr, ?_⟩
          try simp only [Act.put, List.setIfInBounds_toArray, List.set_cons_zero, List.set_cons_succ]
          refine takeH 15 (i := 10) (v := .agg #[.int .i64 N, (.slice avc cs.length pvc), .slice none 0 0, .slice none 0 0, (.slice avr rs.length pvr), .bool bad]) rfl rfl (by kernel_rfl) (by kernel_rfl) (by kernel_rfl) (fun _ _ _ h => h) (Or.inl ⟨by kernel_rfl, fun w' _ => by kernel_rfl⟩) bVacr ?_
          try simp only [Act.put, List.setIfInBounds_toArray, List.set_cons_zero, List.set_cons_succ]
          refine wpAnyH_ready (rs := [12]) (by kernel_rfl) (by simp) ?_
          refine consH _ rfl (hopL rfl (wpList_store_row (by rfl) 39 _ _ (by rfl) X X.heap.size D #[.int .i64 N, (.slice avc cs.length pvc), .slice none 0 0, .slice none 0 0, (.slice avr rs.length pvr), .bool bad] _ (by kernel_rfl) (by kernel_rfl) hDVacr bVacr hDX 6 Try.infoZu (by rfl) (by rfl) (oneZ _ _ _ _ _ (own_valJ ocVacr).1 rfl rfl (own_valJ orVacr).1 _) fun W9 e9 b9 hs9 ho9 => ?_)) AllReadyH.nil
          refine (And.intro b9 ?_ : _ ∧ _)
          try simp only [Act.put, List.setIfInBounds_toArray, List.set_cons_zero, List.set_cons_succ]
          refine wpAnyH_done (by kernel_rfl) ?_ _
          refine NoPanic.normal ?_
          try simp only [Act.put, List.setIfInBounds_toArray, List.set_cons_zero, List.set_cons_succ]
          go_wp2_with fail
          go_meet
          have hk9 : ∀ (k : Nat) (cur : Array Value), Vacr.heap[k]? = some (.cells cur 53) → W9.heap[k]? = Vacr.heap[k]? := fun k cur hc => ho9 k (by rintro rfl; rw [hDVacr] at hc; cases hc)
          exact ⟨D, .slice avc cs.length pvc, .slice avr rs.length pvr, rfl, e9, ⟨owns_monoJ (owns_keepT ocVacr hk9) HX.out.1.size, owns_monoJ (owns_keepT orVacr hk9) HX.out.1.size, World.ownsRow_nil _ _ _ _, World.ownsRow_nil _ _ _ _, rfl, fun j u hj => (by simp at hj)⟩, HX.out.1.trans (b9.mono HX.out.1.size), ⟨(b9.block _ (blk_lt HX.out.2.1)).trans HX.out.2.1, (b9.block _ (blk_lt HX.out.2.2)).trans HX.out.2.2⟩, Nat.lt_of_lt_of_le (blk_lt HX.out.2.2) hDX⟩
  case rest =>
  obtain ⟨D, vc, vr, rfl, ED, EL, EB, EK, hDl'⟩ := hcut
  have hDl : w.heap.size ≤ D := by omega
  have hDz : w.heap.size ≠ D := by omega
  have hD1 : w.heap.size + 1 ≠ D := by omega
  clear HX HC HR
  obtain ⟨d0, d1, d2, d3, d4, d5⟩ := cells6 ED.out
  obtain ⟨z0, z1, z2, z3, z4, z5⟩ := cells6 EK.out.1
  go_upto_region 3 with (first
    | (at_builtin; refine append_gnJ Try.underlying23 Try.infoIJ rfl (by decide) (by decide) wc (by rfl) _ _ (by rfl) w.heap.size (.slice none 0 0) 0 [] (by rfl) (World.ownsRow_nil _ _ _ _) io dn dc (ids.map (Value.int .i64)) (by rfl) HNI.out (by rw [List.length_map, HLN.out.1]; omega) (rdI_news (HIR.out _ EB.out)) (intJ_one ids) (by omega) EB.out.size ?_; intro vi w1 o1 g1; rw [List.nil_append, Nat.zero_add, ← HLN.out.1] at o1; have s1D : w1.heap[D]? = _ := (g1.by'.block D (blk_lt ED.out) (by intro e; cases e)).trans ED.out; have q1 : Below w.heap.size w w1 := EB.out.trans (g1.below (fun k hk => by cases hk) EB.out.size))
    | (refine wpList_store_at (by rfl) 23 _ _ (by rfl) w w.heap.size D 2 vi _ #[.int .i64 N, vc, vi, .slice none 0 0, vr, .bool bad] 39 (by rfl) (by rfl) s1D q1 hDl 1 Try.szIs (by rw [(own_valJ o1).2]; rfl) (Nat.le_of_ble_eq_true rfl) (by intro u hu; rw [(own_valJ o1).2] at hu; simp only [List.mem_cons, List.not_mem_nil, or_false] at hu; subst hu; exact (own_valJ o1).1) (by rw [(own_valJ o1).2]; rfl) ?_; intro w2 e2 b2 s2 k2))
  have L2 : OfL w2 w.heap.size cs rs ids [] vc vr vi (.slice none 0 0) [] := (EL.out.pushI (vi' := vi) g1 o1).keep fun k cur t ht hc => k2 k (by rintro rfl; rw [s1D] at hc; cases hc; exact ht rfl)
  have Z2 : w2.heap[w.heap.size]? = some (.cells #[.int .i64 N, .slice co cn cc, .slice io dn dc, .slice go gn gc, .slice ro rn rc, .bool bad] 26) := (k2 _ hDz).trans ((g1.by'.block _ (blk_lt EK.out.1) (by intro e; cases e)).trans EK.out.1)
  have R2 : w2.heap[w.heap.size + 1]? = some (.cells #[.int .i64 0, .slice none 0 0, .slice none 0 0, .slice none 0 0, .slice none 0 0, .bool false] 39) := (k2 _ hD1).trans ((g1.by'.block _ (blk_lt EK.out.2) (by intro e; cases e)).trans EK.out.2)
  have H2 : Hid _ := And.intro e2 (And.intro L2 (And.intro b2 (And.intro Z2 R2)))
  clear e2 L2 b2 Z2 R2 s2 k2 o1 g1 s1D q1 ED EL EB EK d0 d1 d2 d3 d4 d5 z0 z1 z2 z3 z4 z5 HIR HNI
  go_wp2_with fail
  go_loopg [4] gn (fun g u wx => ∃ (k : Nat) (vg : Value) (gl : List Value), u = .int .i64 k ∧ k + g = gn ∧ Hid (OfL wx w.heap.size cs rs ids (gs.take k) vc vr vi vg gl) ∧ Hid (wx.heap[D]? = some (.cells #[.int .i64 N, vc, vi, vg, vr, .bool bad] 39)) ∧ Hid (Below w.heap.size w wx) ∧ Hid (wx.heap[w.heap.size]? = some (.cells #[.int .i64 N, .slice co cn cc, .slice io dn dc, .slice go gn gc, .slice ro rn rc, .bool bad] 26) ∧ wx.heap[w.heap.size + 1]? = some (.cells #[.int .i64 0, .slice none 0 0, .slice none 0 0, .slice none 0 0, .slice none 0 0, .bool false] 39)))
  case atStart =>
    obtain ⟨e2, L2, b2, z2, r2⟩ := H2.out
    exact ⟨0, _, [], rfl, by omega, L2, e2, b2, ⟨z2, r2⟩⟩
  case round =>
    obtain ⟨k, vg, gl, rfl, hk, HL, HD, HB, HK⟩ := hrel
    clear H2
    obtain ⟨z0, z1, z2, z3, z4, z5⟩ := cells6 HK.out.1
    by_cases hlt : k < gn
    · have hd : decide ((k : Int) < (gn : Int)) = true := decide_eq_true (by omega)
      obtain ⟨g, rfl⟩ : ∃ g, gk = g + 1 := ⟨gk - 1, by omega⟩
      have HIG : Hid _ := hk
      obtain ⟨gb, goff, rfl⟩ : ∃ gb goff, go = some ⟨gb, goff, none⟩ := by
        rcases (HGR.out wr HB.out).cells with h0 | ⟨b, off, e, _⟩
        · omega
        · exact ⟨b, off, e⟩
      go_upto_region 6 with fail
      have HLG : Hid (gl.length + 1 ≤ 4000000) := by unfold Hid; have := HL.out.len; rw [List.length_take] at this; omega
      have sV : wr.drew.heap[D]? = some (.cells #[.int .i64 N, vc, vi, vg, vr, .bool bad] 39) ∧ wr.drew.heap[w.heap.size]? = some (.cells #[.int .i64 N, .slice co cn cc, .slice io dn dc, .slice (some ⟨gb, goff, none⟩) gn gc, .slice ro rn rc, .bool bad] 26) ∧ RdGs wr.drew (some ⟨gb, goff, none⟩) gn gc gv gs := ⟨HD.out, HK.out.1, HGR.out _ HB.out.drew⟩
      have rV : wr.drew.heap[w.heap.size + 1]? = some (.cells #[.int .i64 0, .slice none 0 0, .slice none 0 0, .slice none 0 0, .slice none 0 0, .bool false] 39) := HK.out.2
      have LV := HL.out.keep (w' := wr.drew) fun _ _ _ _ _ => rfl
      have qV : Below w.heap.size w wr.drew := HB.out.drew
      clear z0 z1 z2 z3 z4 z5 hk
      refine wp_region_noPanic ?_
      refine wp_region_P (fun V => V.heap[D]? = some (.cells #[.int .i64 N, vc, vi, vg, vr, .bool bad] 39) ∧ V.heap[w.heap.size]? = some (.cells #[.int .i64 N, .slice co cn cc, .slice io dn dc, .slice (some ⟨gb, goff, none⟩) gn gc, .slice ro rn rc, .bool bad] 26) ∧ RdGs V (some ⟨gb, goff, none⟩) gn gc gv gs) 11 (by kernel_rfl) ?_
      refine takeP0 29 (i := 0) (v := ?_) rfl rfl (by kernel_rfl) (by kernel_rfl) (by kernel_rfl) rfl (fun _ _ _ h => h) (Or.inl ⟨by kernel_rfl, ?_⟩) (fun _ => sV) ?_
      rotate_left
      · intro w' hSw; go_simp; try with_reducible rfl
      try simp only [Act.put, List.setIfInBounds_toArray, List.set_cons_zero, List.set_cons_succ]
      refine takeP 30 (i := 1) (v := ?_) rfl rfl (by kernel_rfl) (by kernel_rfl) (by kernel_rfl) (by kernel_rfl) rfl (by kernel_rfl) (fun _ _ _ h => h) (Or.inl ⟨by kernel_rfl, ?_⟩) sV ?_
      rotate_left
      · intro w' hSw; obtain ⟨c0, c1, c2, c3, c4, c5⟩ := cells6 hSw.1; obtain ⟨z0, z1, z2, z3, z4, z5⟩ := cells6 hSw.2.1; go_simp; try with_reducible rfl
      try simp only [Act.put, List.setIfInBounds_toArray, List.set_cons_zero, List.set_cons_succ]
      refine takeP0 31 (i := 2) (v := ?_) rfl rfl (by kernel_rfl) (by kernel_rfl) (by kernel_rfl) rfl (fun _ _ _ h => h) (Or.inl ⟨by kernel_rfl, ?_⟩) (fun _ => sV) ?_
      rotate_left
      · intro w' hSw; go_simp; try with_reducible rfl
      try simp only [Act.put, List.setIfInBounds_toArray, List.set_cons_zero, List.set_cons_succ]
      refine takeP 32 (i := 3) (v := ?_) rfl rfl (by kernel_rfl) (by kernel_rfl) (by kernel_rfl) (by kernel_rfl) rfl (by kernel_rfl) (fun _ _ _ h => h) (Or.inl ⟨by kernel_rfl, ?_⟩) sV ?_
      rotate_left
      · intro w' hSw; obtain ⟨c0, c1, c2, c3, c4, c5⟩ := cells6 hSw.1; obtain ⟨z0, z1, z2, z3, z4, z5⟩ := cells6 hSw.2.1; go_simp; try with_reducible rfl
      try simp only [Act.put, List.setIfInBounds_toArray, List.set_cons_zero, List.set_cons_succ]
      refine takeP0 33 (i := 4) (v := ?_) rfl rfl (by kernel_rfl) (by kernel_rfl) (by kernel_rfl) rfl (fun _ _ _ h => h) (Or.inl ⟨by kernel_rfl, ?_⟩) (fun _ => sV) ?_
      rotate_left
      · intro w' hSw; go_simp; try with_reducible rfl
      try simp only [Act.put, List.setIfInBounds_toArray, List.set_cons_zero, List.set_cons_succ]
      refine takeP0 34 (i := 5) (v := ?_) rfl rfl (by kernel_rfl) (by kernel_rfl) (by kernel_rfl) rfl (fun _ _ _ h => h) (Or.inl ⟨by kernel_rfl, ?_⟩) (fun _ => sV) ?_
      rotate_left
      · intro w' hSw; go_simp; try with_reducible rfl
      try simp only [Act.put, List.setIfInBounds_toArray, List.set_cons_zero, List.set_cons_succ]
      refine takeP 35 (i := 6) (v := ?_) rfl rfl (by kernel_rfl) (by kernel_rfl) (by kernel_rfl) (by kernel_rfl) rfl (by kernel_rfl) (fun _ _ _ h => h) (Or.inl ⟨by kernel_rfl, ?_⟩) sV ?_
      rotate_left
      · intro w' hSw; have q0 := rdGs_at hSw.2.2 hlt; go_simp; try with_reducible rfl
      try simp only [Act.put, List.setIfInBounds_toArray, List.set_cons_zero, List.set_cons_succ]
      refine wpAnyP_ready (rs := [7]) (by kernel_rfl) (by simp) ?_
      refine consP _ rfl (hopCd 36 rfl (by kernel_rfl) rfl (by kernel_rfl) (Calls.mono (HG.out k hlt _ qV) ?_)) AllReadyP.nil
      rintro e V1 ⟨v1, rfl, o1, b1⟩
      obtain ⟨a1, cp1, hv1, -⟩ := owns_slice o1
      subst hv1
      have s1 := And.intro (kept b1 sV.1) (And.intro (kept b1 sV.2.1) (sV.2.2.later b1))
      have L1 := LV.later b1
      have o1' := owns_monoJ o1 qV.size
      have q1 := qV.trans (b1.mono qV.size)
      refine ⟨_, rfl, s1, ?_⟩
      try simp only [Act.put, List.setIfInBounds_toArray, List.set_cons_zero, List.set_cons_succ]
      refine wpAnyP_ready (rs := [8]) (by kernel_rfl) (by simp) ?_
      refine consP _ rfl (hopBJ 37 (Value.slice a1 (gs[k]?.getD []).length cp1) 31 rfl rfl rfl (by kernel_rfl) fun I V2 hI b2 => ?_) AllReadyP.nil
      have s2 := And.intro (kept b2 s1.1) (And.intro (kept b2 s1.2.1) (s1.2.2.later b2))
      have L2 := L1.later b2
      have o2 := owns_keepT o1' fun k cur hc => b2.block k (blk_lt hc)
      have q2 := q1.trans (b2.mono q1.size)
      refine ⟨s2, ?_⟩
      try simp only [Act.put, List.setIfInBounds_toArray, List.set_cons_zero, List.set_cons_succ]
      refine wpAnyP_ready (rs := [9]) (by kernel_rfl) (by simp) ?_
      refine consP _ rfl (hopL rfl (append_gsJ Try.underlying32 Try.infoUsJ rfl (by decide) (by decide) V2 (by rfl) _ _ (by rfl) w.heap.size vg _ _ (by kernel_rfl) L2.g ⟨I, 0, none⟩ 1 1 [(Value.slice a1 (gs[k]?.getD []).length cp1)] (by kernel_rfl) rfl (news_oneJ hI) (oneI _ (own_valJ o2).1) HLG.out q2.size fun v6 w6 o6 g6 => ?_)) AllReadyP.nil
      change QK _ _ Exit.normal (Act.put _ (some 38) v6) w6
      have q6 := q2.trans (g6.below (fun k hk => (World.ownsRow.lt L2.g k hk).1) q2.size)
      have s6D := (grw_types L2.g g6 D _ _ (by decide) s2.1).trans s2.1
      have s6Z := (grw_types L2.g g6 _ _ _ (by decide) s2.2.1).trans s2.2.1
      have s6R : w6.heap[w.heap.size + 1]? = _ := (grw_types L2.g g6 _ _ _ (by decide) (kept b2 (kept b1 rV))).trans (kept b2 (kept b1 rV))
      have s6G := HGR.out w6 q6
      have L6 := L2.pushG g6 o6 o2
      refine (And.intro (And.intro s6D (And.intro s6Z s6G)) ?_ : _ ∧ _)
      try simp only [Act.put, List.setIfInBounds_toArray, List.set_cons_zero, List.set_cons_succ]
      clear g6
      refine takeP0 39 (i := 10) (v := ?_) rfl rfl (by kernel_rfl) (by kernel_rfl) (by kernel_rfl) rfl (fun _ _ _ h => h) (Or.inl ⟨by kernel_rfl, ?_⟩) (fun _ => And.intro s6D (And.intro s6Z s6G)) ?_
      rotate_left
      · intro w' hSw; go_simp; try with_reducible rfl
      try simp only [Act.put, List.setIfInBounds_toArray, List.set_cons_zero, List.set_cons_succ]
      refine wpAnyP_ready (rs := [11]) (by kernel_rfl) (by simp) ?_
      refine consPs _ rfl (by kernel_rfl) (hopL rfl (wpList_store_at (by rfl) 32 _ _ (by rfl) w w.heap.size D 3 v6 _ #[.int .i64 N, vc, vi, v6, vr, .bool bad] 39 (by kernel_rfl) (by kernel_rfl) s6D q6 hDl 1 Try.szUss (by rw [(own_valJ L6.g).2]; rfl) (Nat.le_of_ble_eq_true rfl) (by intro u hu; rw [(own_valJ L6.g).2] at hu; simp only [List.mem_cons, List.not_mem_nil, or_false] at hu; subst hu; exact (own_valJ L6.g).1) (by rw [(own_valJ L6.g).2]; rfl) fun w8 e8 b8 s8 k8 => ?_)) AllReadyP.nil
      refine (And.intro trivial ?_ : _ ∧ _)
      try simp only [Act.put, List.setIfInBounds_toArray, List.set_cons_zero, List.set_cons_succ]
      refine wpAnyP_done (by kernel_rfl) ?_ _
      refine NoPanic.normal ?_
      try simp only [Act.put, List.setIfInBounds_toArray, List.set_cons_zero, List.set_cons_succ]
      have L8 := L6.keep (w' := w8) fun k cur t ht hc => k8 k (by rintro rfl; rw [s6D] at hc; cases hc; exact ht rfl)
      have E8 : Hid _ := And.intro e8 (And.intro L8 (And.intro b8 (And.intro ((k8 _ hDz).trans s6Z) ((k8 _ hD1).trans s6R))))
      clear s6D s6Z s6R s6G L6 q6 e8 b8 s8 k8 L8 o6 o2 o1 o1' L1 L2 q1 q2 b1 b2 hI s1 s2 sV LV qV rV
      go_wp2_with fail
      go_roundg g
      case measure => omega
      case rel =>
        obtain ⟨e8, L8, b8, z8, r8⟩ := E8.out
        refine ⟨k + 1, v6, gl ++ [(Value.slice a1 (gs[k]?.getD []).length cp1)], by go_num, by have := HIG.out; omega, ?_, e8, b8, ⟨z8, r8⟩⟩
        unfold Hid
        rw [take_snocG (by rw [HLN.out.2]; exact hlt)]
        exact L8
    · have hd : decide ((k : Int) < (gn : Int)) = false := decide_eq_false (by omega)
      obtain rfl : k = gn := by omega
      have L9 := HL.out
      rw [List.take_of_length_le (by rw [HLN.out.2]; exact Nat.le_refl _)] at L9
      have HL9 : Hid _ := L9
      clear L9
      go_wp2_with (first
        | (refine wpList_load_row (by rfl) 39 _ (by rfl) D _ (by rfl) HD.out _ Try.underlying39 rfl 6 Try.infoZu (by rfl) ?_)
        | (refine wpList_store_row (by rfl) 39 _ _ (by rfl) w w.heap.size (w.heap.size + 1) _ _ (by rfl) (by rfl) HK.out.2 HB.out (Nat.le_succ _) 6 Try.infoZu (by rfl) (by rfl) (oneZ _ _ _ _ _ (own_valJ HL.out.c).1 (own_valJ HL.out.i).1 (own_valJ HL.out.g).1 (own_valJ HL.out.r).1 _) ?_; intro W9 e9 b9 s9 o9))
      have L10 := HL9.out.keep (w' := W9) fun j cur t ht hc => o9 j (by rintro rfl; rw [HK.out.2] at hc; cases hc; exact ht rfl)
      obtain ⟨u, hu, h1, h2, h3, h4, h5, h6, h7, h8, h9, h10, h11⟩ := L10.zu N bad
      refine bodyPost_ret (res_oneJ _ 2 39 (by kernel_rfl) _ _ (w.heap.size + 1) _ (by rfl) _ Try.underlying39 rfl 6 Try.infoZu rfl e9) rfl ?_
      exact ⟨u, congrArg Ending.returned hu, h1, h2, h3, h4, h5, h6, h7, h8.trans HLN.out.1, h9.trans HLN.out.2, h10.trans HLC.out.1, h11.trans HLC.out.2, b9⟩
end Go.Proofs.Ytoehhnildocihaa

namespace Go.Proofs.Ytoehhnildocihaa
open Go.RowKit Go.Shelf
set_option linter.unusedVariables false
set_option linter.unusedSimpArgs false
/-- A cell that holds no word of a number. -/
def noU : Value → Bool
  | .int .u32 _ => false
  | _ => true
theorem rd4_cl {w w' : World} {B : Nat} (hB : Cl noU w B) (hs : ∀ b, b ≠ B → b < w.heap.size → w'.heap[b]? = w.heap[b]?) {ao : Option Addr} {len cap : Nat} {xs : List Nat} (h : Rd4 w ao len cap xs) : Rd4 w' ao len cap xs := by
  refine ⟨h.length, h.le, h.max, h.lt, h.nil, ?_⟩
  rcases h.cells with h0 | ⟨b, off, ha, hc⟩
  · exact .inl h0
  · refine .inr ⟨b, off, ha, fun j hj => ?_⟩
    have h1 := hc j hj
    have hne : b ≠ B := by
      rintro rfl
      obtain ⟨cur, t, e1, e2⟩ := hB
      rw [cell_of_row _ _ _ _ _ _ e1] at h1
      have := e2 _ _ h1
      cases this
    rw [World.cell?_of_block (w := w) (w' := w') (a := ⟨b, off + j, none⟩) (hs b hne (World.block_lt_of_cell? w _ h1))]
    exact h1
theorem NumZ.cl {w w' : World} {B : Nat} (hB : Cl noU w B) (hs : ∀ b, b ≠ B → b < w.heap.size → w'.heap[b]? = w.heap[b]?) {v : Value} {s : Nat} {T z : Int} (h : NumZ w v s T z) : NumZ w' v s T z := by
  obtain ⟨neg, m, e, ⟨ao, len, cap, xs, h1, h2, h3, h4⟩, h5⟩ := h
  exact ⟨neg, m, e, ⟨ao, len, cap, xs, h1, rd4_cl hB hs h2, h3, h4⟩, h5⟩
theorem NumC.cl {w w' : World} {B : Nat} (hB : Cl noU w B) (hs : ∀ b, b ≠ B → b < w.heap.size → w'.heap[b]? = w.heap[b]?) {v : Value} {s : Nat} {T z : Int} (h : NumC w v s T z) : NumC w' v s T z := by
  obtain ⟨neg, m, e, ⟨ao, len, cap, xs, h1, h2, h3, h4⟩, h5⟩ := h
  exact ⟨neg, m, e, ⟨ao, len, cap, xs, h1, rd4_cl hB hs h2, h3, h4⟩, h5⟩
end Go.Proofs.Ytoehhnildocihaa

namespace Go.Proofs.Ytoehhnildocihaa
open Go.RowKit Go.Shelf
set_option linter.unusedVariables false
set_option linter.unusedSimpArgs false
theorem Try.infoNumJ : (Try.prog.info? 87).map (fun i => (i.zero, i.size, i.bytes)) = some (some (.agg #[.bool false, .slice none 0 0, .int .i64 0]), 3, 40) := by kernel_rfl
/-- A list of the document's reals: those of the numbers us. -/
structure RowN (w : World) (base : Nat) (v : Value) (E : Nat) (us : List Nat) : Prop where
  own : ∃ xs, w.ownsRow base 87 3 v us.length xs ∧ ∀ j, j < us.length → ∃ n o l c e, xs[j * 3]? = some (.bool n) ∧ xs[j * 3 + 1]? = some (.slice o l c) ∧ xs[j * 3 + 2]? = some (.int .i64 e) ∧ NumC w (.agg #[.bool n, .slice o l c, .int .i64 e]) E 1024 (fval (us[j]?.getD 0))
  cl : ∀ g, v.ownBlock = some g → Cl noU w g
theorem RowN.nil (w : World) (base E : Nat) : RowN w base (.slice none 0 0) E [] := ⟨⟨[], World.ownsRow_nil _ _ _ _, fun j hj => absurd hj (Nat.not_lt_zero _)⟩, fun g hg => by cases hg⟩
theorem Cl.later {p : Value → Bool} {w w' : World} {g : Nat} (h : Cl p w g) (hb : Below w.heap.size w w') : Cl p w' g := by
  obtain ⟨cur, t, h1, h2⟩ := h
  exact ⟨cur, t, (hb.block g (blk_lt h1)).trans h1, h2⟩
theorem RowN.later {w w' : World} {base E : Nat} {v : Value} {us : List Nat} (h : RowN w base v E us) (hb : Below w.heap.size w w') : RowN w' base v E us := by
  obtain ⟨xs, h1, h2⟩ := h.own
  exact ⟨⟨xs, owns_keep h1 fun k hk => hb.block k (World.ownsRow.lt h1 k hk).2, fun j hj => by obtain ⟨n, o, l, c, e, a1, a2, a3, a4⟩ := h2 j hj; exact ⟨n, o, l, c, e, a1, a2, a3, a4.later hb⟩⟩, fun g hg => (h.cl g hg).later hb⟩
theorem RowN.mono {w : World} {base base' E : Nat} {v : Value} {us : List Nat} (h : RowN w base v E us) (hb : base' ≤ base) : RowN w base' v E us := by
  obtain ⟨xs, h1, h2⟩ := h.own
  exact ⟨⟨xs, owns_monoJ h1 hb, h2⟩, h.cl⟩
/-- One more real. -/
theorem RowN.push {w w' : World} {base E : Nat} {v v' : Value} {us : List Nat} {u : Nat} {n : Bool} {o : Option Addr} {l c : Nat} {e : Int} {xs : List Value} (hx : w.ownsRow base 87 3 v us.length xs) (h2 : ∀ j, j < us.length → ∃ n o l c e, xs[j * 3]? = some (.bool n) ∧ xs[j * 3 + 1]? = some (.slice o l c) ∧ xs[j * 3 + 2]? = some (.int .i64 e) ∧ NumC w (.agg #[.bool n, .slice o l c, .int .i64 e]) E 1024 (fval (us[j]?.getD 0)))
    (hcl : ∀ g, v.ownBlock = some g → Cl noU w g) (hn : NumC w (.agg #[.bool n, .slice o l c, .int .i64 e]) E 1024 (fval u)) (ho : w'.ownsRow base 87 3 v' (us.length + 1) (xs ++ [.bool n, .slice o l c, .int .i64 e])) (hg : Grw w w' v.ownBlock v'.ownBlock) (hcl' : ∀ g, v'.ownBlock = some g → Cl noU w' g) : RowN w' base v' E (us ++ [u]) := by
  have keep : ∀ (y : Value) (z : Int), NumC w y E 1024 z → NumC w' y E 1024 z := fun y z hy => by
    cases hv : v.ownBlock with
    | none => exact hy.later ⟨hg.by'.os, hg.by'.tape, hg.by'.output, hg.by'.size, fun k hk => hg.by'.block k hk (by rw [hv]; simp)⟩
    | some g => exact hy.cl (hcl g hv) fun b hb hlt => hg.by'.block b hlt (by rw [hv]; intro e; cases e; exact hb rfl)
  have hl : xs.length = us.length * 3 := hx.1
  refine ⟨⟨_, by simpa using ho, fun j hj => ?_⟩, hcl'⟩
  by_cases ej : j < us.length
  · obtain ⟨n1, o1, l1, c1, e1, a1, a2, a3, a4⟩ := h2 j ej
    refine ⟨n1, o1, l1, c1, e1, ?_, ?_, ?_, ?_⟩
    · rw [List.getElem?_append_left (by omega)]; exact a1
    · rw [List.getElem?_append_left (by omega)]; exact a2
    · rw [List.getElem?_append_left (by omega)]; exact a3
    · rw [List.getElem?_append_left ej]; exact keep _ _ a4
  · have e2 : j = us.length := by simp at hj; omega
    subst e2
    refine ⟨n, o, l, c, e, ?_, ?_, ?_, ?_⟩
    · rw [List.getElem?_append_right (by omega), hl, Nat.sub_self]; rfl
    · rw [List.getElem?_append_right (by omega), hl, show us.length * 3 + 1 - us.length * 3 = 1 by omega]; rfl
    · rw [List.getElem?_append_right (by omega), hl, show us.length * 3 + 2 - us.length * 3 = 2 by omega]; rfl
    · rw [List.getElem?_append_right (Nat.le_refl _), Nat.sub_self]; exact keep _ _ hn
theorem news_threeJ {W : World} {I : Nat} {x y z : Value} {E : TypeId} (h : W.heap[I]? = some (.cells #[x, y, z] E)) : ∀ j u, [x, y, z][j]? = some u → W.cell? ((⟨I, 0, none⟩ : Addr).add j) = some u := by
  intro j u hj
  match j, hj with
  | 0, hj => cases hj; rw [Addr.add_lit, cell_of_row _ I _ _ _ _ h]; rfl
  | 1, hj => cases hj; rw [Addr.add_lit, cell_of_row _ I _ _ _ _ h]; rfl
  | 2, hj => cases hj; rw [Addr.add_lit, cell_of_row _ I _ _ _ _ h]; rfl
theorem three_one (n : Bool) (o : Option Addr) (l c : Nat) (e : Int) : ∀ u ∈ [Value.bool n, .slice o l c, .int .i64 e], u.oneCell' = true := by
  intro u hu
  simp only [List.mem_cons, List.not_mem_nil, or_false] at hu
  rcases hu with rfl | rfl | rfl <;> rfl
theorem three_noU (n : Bool) (o : Option Addr) (l c : Nat) (e : Int) : ∀ u ∈ [Value.bool n, .slice o l c, .int .i64 e], noU u = true := by
  intro u hu
  simp only [List.mem_cons, List.not_mem_nil, or_false] at hu
  rcases hu with rfl | rfl | rfl <;> rfl
theorem zero_noU : ∀ v ∈ (Value.agg #[.bool false, .slice none 0 0, .int .i64 0]).cells, noU v = true := by
  intro v hv
  have : v ∈ (#[.bool false, .slice none 0 0, .int .i64 0] : Array Value) := hv
  simp only [List.mem_toArray, List.mem_cons, List.not_mem_nil, or_false] at this
  rcases this with rfl | rfl | rfl <;> rfl
set_option maxRecDepth 100000 in
set_option maxHeartbeats 3000000 in
/-- The document's numbers. -/
theorem numbers10_any (ao : Option Addr) (len cap : Nat) (us : List Nat) (n : Int) (E : Nat) (hE : E = 1074) (w : World) (h : RdUs w ao len cap us) (hlt : ∀ u ∈ us, u < 18446744073709551616) (hl : len ≤ 1050000) :
    Calls Try.prog 56 #[.slice ao len cap, .int .i64 n] w fun e w' => (∃ v, e = .returned (.tuple #[v, .bool (numN us n)]) ∧ (numN us n = true → RowN w' w.heap.size v E us)) ∧ Below w.heap.size w w' := by
  have HR : Hid _ := h
  have hln := h.length
  have HLT : Hid _ := hlt
  clear h hlt
  by_cases hn : (len : Int) = n
  · subst hn
    have HE : Hid (numN us (len : Int) = numsB us) := by unfold Hid numN; rw [hln, decide_eq_true rfl, Bool.true_and]
    obtain ⟨nn, hnn⟩ : ∃ nn, numN us (len : Int) = nn := ⟨_, rfl⟩
    rw [hnn] at HE ⊢
    have HLN : Hid (us.length = len) := hln
    clear hln hnn
    go_enter Try.func56, Try.ntmps56
    go_wp2_with fail
    go_loopg [6, 7] len (fun g v iv wx => ∃ k : Nat, iv = .int .i64 k ∧ k + g = len ∧ Hid (RowN wx w.heap.size v E (us.take k)) ∧ Hid (Below w.heap.size w wx) ∧ Hid (nn = numsB (us.drop k)))
    case atStart => exact ⟨0, rfl, by omega, RowN.nil _ _ _, Below.refl _ _, HE.out⟩
    case round =>
      obtain ⟨k, rfl, hk, HO, HB, HD⟩ := hrel
      clear HE
      have hsr := HB.out.size
      by_cases hlt : k < len
      · have hd : decide ((k : Int) < (len : Int)) = true := decide_eq_true (by omega)
        obtain ⟨g, rfl⟩ : ∃ g, gk = g + 1 := ⟨gk - 1, by omega⟩
        have HIG : Hid _ := hk
        rcases (HR.out.later HB.out).cells with h0 | ⟨ab, aoff, rfl, hca⟩
        · omega
        have ga := hca k hlt
        have hkl : k < us.length := by rw [HLN.out]; exact hlt
        have hux := HLT.out _ (getD_mem (us := us) (j := k) hkl)
        have HTS : Hid _ := take_snocJ (us := us) (k := k) hkl
        have HDS : Hid _ := numsB_drop us hkl
        obtain ⟨x, hx⟩ : ∃ x, us[k]?.getD 0 = x := ⟨_, rfl⟩
        rw [hx] at ga hux HTS HDS
        have HOF : Hid _ := ofC_any x hux wr E hE
        clear hca hx hk hkl
        go_upto_region 8 with (first
          | (go_at_call 55; refine Calls.mono HOF.out ?_; rintro e w1 ⟨v1, rfl, ⟨z1, hz1, hv1⟩, b1⟩; obtain ⟨n1, m1, e1, ⟨o1, l1, c1, xs1, rfl, hr1⟩, hr2⟩ := id hz1; clear hr1 hr2))
        have N1 : Hid (NumC w1 (.agg #[.bool n1, .slice o1 l1 c1, .int .i64 e1]) E 1024 z1 ∧ (Fin x → z1 = fval x)) := ⟨hz1, hv1⟩
        clear hz1 hv1 HOF
        have B1 : Hid (Below wr.heap.size wr w1) := b1
        have s1 := b1.size
        clear b1
        by_cases hf : Fin x
        · have hfd : decide (Fin x) = true := decide_eq_true hf
          rw [hfd] at HDS ⊢
          have HF : Hid _ := hf
          clear hf hfd
          obtain ⟨xs, hxo, hxj⟩ := (HO.out.later B1.out).own
          have HXO : Hid _ := hxo
          have HXJ : Hid _ := hxj
          have hxl : (us.take k).length = k := by rw [List.length_take, HLN.out]; omega
          rw [hxl] at hxo
          have HX2 : Hid _ := hxo
          clear hxo hxj
          have HC2 : Hid (∀ g, u6.ownBlock = some g → Cl noU ((w1.alloc (.cells #[.bool n1, .slice o1 l1 c1, .int .i64 e1] 87)).alloc (.cells #[.bool n1, .slice o1 l1 c1, .int .i64 e1] 87)) g) := fun g hg => ((HO.out.cl g hg).later B1.out).later (((Below.refl _ w1).alloc (Nat.le_refl _) _).alloc (by simp only [alloc_size]; omega) _)
          go_wp2_with (first
            | (at_builtin; refine append_clJ noU Try.underlying77 Try.infoNumJ rfl (by decide) (by decide) zero_noU _ (by rfl) _ _ (by rfl) w.heap.size _ k xs (by rfl) (World.ownsRow.alloc (World.ownsRow.alloc HX2.out _) _) HC2.out ⟨w1.heap.size + 1, 0, none⟩ 1 1 [.bool n1, .slice o1 l1 c1, .int .i64 e1] (by rfl) (by decide) rfl (news_threeJ (heap_at _ _ (w1.heap.size + 1) (by simp only [alloc_size]))) (three_one n1 o1 l1 c1 e1) (three_noU n1 o1 l1 c1 e1) (by omega) (by simp only [alloc_size]; omega) ?_; intro v5 w5 o5 g5 cl5))
          have A1 : Below w1.heap.size w1 ((w1.alloc (.cells #[.bool n1, .slice o1 l1 c1, .int .i64 e1] 87)).alloc (.cells #[.bool n1, .slice o1 l1 c1, .int .i64 e1] 87)) := ((Below.refl _ w1).alloc (Nat.le_refl _) _).alloc (by simp only [alloc_size]; omega) _
          have R5 : Hid (RowN w5 w.heap.size v5 E (us.take k ++ [x])) := by
            have hz := N1.out.2 HF.out
            have h3 := (HO.out.later B1.out).later A1
            obtain ⟨xs', hx', hj'⟩ := h3.own
            refine RowN.push (xs := xs) (by rw [hxl]; exact World.ownsRow.alloc (World.ownsRow.alloc HX2.out _) _) (fun j hj => ?_) HC2.out (hz ▸ N1.out.1.later A1) (by rw [hxl]; exact o5) g5 cl5
            obtain ⟨n2, o2, l2, c2, e2, a1, a2, a3, a4⟩ := HXJ.out j hj
            exact ⟨n2, o2, l2, c2, e2, a1, a2, a3, a4.later A1⟩
          have B5 : Hid (Below w.heap.size w w5) := (to_call (to_call HB.out B1.out) A1).trans (g5.below (fun k hk => (World.ownsRow.lt HX2.out k hk).1) (by simp only [alloc_size]; omega))
          clear o5 g5 cl5 A1 HC2 HX2 HXO HXJ
          go_roundg g
          case measure => omega
          case rel => exact ⟨k + 1, by go_num, by have := HIG.out; omega, by unfold Hid; rw [HTS.out]; exact R5.out, B5, by unfold Hid; rw [HD.out, HDS.out, Bool.true_and]⟩
        · have hfd : decide (Fin x) = false := decide_eq_false hf
          rw [hfd] at HDS ⊢
          have HN0 : Hid (nn = false) := by unfold Hid; rw [HD.out, HDS.out, Bool.false_and]
          have HB9 : Hid (Below w.heap.size w (w1.alloc (.cells #[.bool n1, .slice o1 l1 c1, .int .i64 e1] 87))) := (to_call HB.out B1.out).alloc (to_call HB.out B1.out).size _
          clear hf hfd
          go_wp2_with fail
          refine bodyPost_ret (results_tmp2 rfl _ _ _) rfl ?_
          exact ⟨⟨_, by rw [HN0.out]; rfl, fun h => by rw [HN0.out] at h; cases h⟩, HB9.out⟩
      · have hd : decide ((k : Int) < (len : Int)) = false := decide_eq_false (by omega)
        have HO2 : Hid (RowN wr w.heap.size u6 E us) := by
          have := HO.out
          rw [List.take_of_length_le (by rw [HLN.out]; omega)] at this
          exact this
        have HN1 : Hid (nn = true) := by unfold Hid; rw [HD.out, List.drop_eq_nil_of_le (by rw [HLN.out]; omega)]; rfl
        go_wp2_with fail
        refine bodyPost_ret (results_tmp2 rfl _ _ _) rfl ?_
        exact ⟨⟨_, by rw [HN1.out]; rfl, fun _ => HO2.out⟩, HB.out⟩
  · have HE : Hid (numN us n = false) := by unfold Hid numN; rw [hln, decide_eq_false hn, Bool.false_and]
    have hb : ((len : Int) != n) = true := by simpa using hn
    have hb2 : ((len : Int) == n) = false := by simpa using hn
    go_enter Try.func56, Try.ntmps56
    go_wp2_with fail
    refine bodyPost_ret (results_tmp2 rfl _ _ _) rfl ?_
    exact ⟨⟨_, by rw [HE.out]; rfl, fun h => by rw [HE.out] at h; cases h⟩, Below.refl _ _⟩
end Go.Proofs.Ytoehhnildocihaa

namespace Go.Proofs.Ytoehhnildocihaa
open Go.RowKit Go.Shelf
set_option linter.unusedVariables false
set_option linter.unusedSimpArgs false
theorem NumC.grw {w w' : World} {v v' y : Value} {s : Nat} {T z : Int} (h : NumC w y s T z) (hg : Grw w w' v.ownBlock v'.ownBlock) (hcl : ∀ g, v.ownBlock = some g → Cl noU w g) : NumC w' y s T z := by
  cases hv : v.ownBlock with
  | none => exact h.later ⟨hg.by'.os, hg.by'.tape, hg.by'.output, hg.by'.size, fun k hk => hg.by'.block k hk (by rw [hv]; simp)⟩
  | some g => exact h.cl (hcl g hv) fun b hb hlt => hg.by'.block b hlt (by rw [hv]; intro e; cases e; exact hb rfl)
theorem Cl.same {p : Value → Bool} {w w' : World} {g : Nat} (h : Cl p w g) (hb : w'.heap[g]? = w.heap[g]?) : Cl p w' g := by
  obtain ⟨cur, t, h1, h2⟩ := h
  exact ⟨cur, t, hb.trans h1, h2⟩
/-- A row of reals stays when a row of other things is lengthened. -/
theorem RowN.grw {w w' : World} {base base' E size n : Nat} {t : TypeId} {u v v' : Value} {us : List Nat} {xs : List Value} (h : RowN w base u E us) (ht : t ≠ 87) (ho : w.ownsRow base' t size v n xs) (hg : Grw w w' v.ownBlock v'.ownBlock) (hcl : ∀ g, v.ownBlock = some g → Cl noU w g) : RowN w' base u E us := by
  obtain ⟨ys, h1, h2⟩ := h.own
  have hk := grw_types ho hg
  refine ⟨⟨ys, owns_keepT h1 fun k cur hc => hk k cur _ (fun e => ht e.symm) hc, fun j hj => ?_⟩, fun g hgu => ?_⟩
  · obtain ⟨a, b, c, d, e, a1, a2, a3, a4⟩ := h2 j hj
    exact ⟨a, b, c, d, e, a1, a2, a3, a4.grw hg hcl⟩
  · obtain ⟨cur, hc⟩ := owns_type h1 hgu
    exact (h.cl g hgu).same (hk g cur _ (fun e => ht e.symm) hc)
/-- It stays when one clean block of another type is written. -/
theorem RowN.box {w w' : World} {base E B : Nat} {t : TypeId} {cur : Array Value} {u : Value} {us : List Nat} (h : RowN w base u E us) (ht : t ≠ 87) (hB : w.heap[B]? = some (.cells cur t)) (hcl : Cl noU w B) (hk : ∀ k, k ≠ B → w'.heap[k]? = w.heap[k]?) : RowN w' base u E us := by
  obtain ⟨ys, h1, h2⟩ := h.own
  have hne : ∀ (k : Nat) (c : Array Value), w.heap[k]? = some (.cells c 87) → w'.heap[k]? = w.heap[k]? := fun k c hc => hk k (by rintro rfl; rw [hB] at hc; cases hc; exact ht rfl)
  refine ⟨⟨ys, owns_keepT h1 hne, fun j hj => ?_⟩, fun g hgu => ?_⟩
  · obtain ⟨a, b, c, d, e, a1, a2, a3, a4⟩ := h2 j hj
    exact ⟨a, b, c, d, e, a1, a2, a3, a4.cl hcl fun b hb _ => hk b hb⟩
  · obtain ⟨cur', hc⟩ := owns_type h1 hgu
    exact (h.cl g hgu).same (hne g cur' hc)
/-- The lists of the document's reals of a zonotope. -/
structure RlS (w : World) (base E : Nat) (cs rs : List Nat) (ids : List Int) (gs : List (List Nat)) (vc vr vi vg : Value) (gl : List Value) : Prop where
  c : RowN w base vc E cs
  r : RowN w base vr E rs
  i : w.ownsRow base 3 1 vi ids.length (ids.map (Value.int .i64))
  icl : ∀ g, vi.ownBlock = some g → Cl noU w g
  g : w.ownsRow base 77 1 vg gl.length gl
  gcl : ∀ g, vg.ownBlock = some g → Cl noU w g
  len : gl.length = gs.length
  col : ∀ (j : Nat) (u : Value), gl[j]? = some u → RowN w base u E (gs[j]?.getD [])
theorem RlS.later {w w' : World} {base E : Nat} {cs rs : List Nat} {ids : List Int} {gs : List (List Nat)} {vc vr vi vg : Value} {gl : List Value} (h : RlS w base E cs rs ids gs vc vr vi vg gl) (hb : Below w.heap.size w w') : RlS w' base E cs rs ids gs vc vr vi vg gl :=
  ⟨h.c.later hb, h.r.later hb, owns_keepT h.i fun k cur hc => hb.block k (blk_lt hc), fun g hg => (h.icl g hg).later hb, owns_keepT h.g fun k cur hc => hb.block k (blk_lt hc), fun g hg => (h.gcl g hg).later hb, h.len, fun j u hj => (h.col j u hj).later hb⟩
theorem RlS.box {w w' : World} {base E B : Nat} {t : TypeId} {cur : Array Value} {cs rs : List Nat} {ids : List Int} {gs : List (List Nat)} {vc vr vi vg : Value} {gl : List Value} (h : RlS w base E cs rs ids gs vc vr vi vg gl) (h1 : t ≠ 87) (h2 : t ≠ 3) (h3 : t ≠ 77) (hB : w.heap[B]? = some (.cells cur t)) (hcl : Cl noU w B) (hk : ∀ k, k ≠ B → w'.heap[k]? = w.heap[k]?) : RlS w' base E cs rs ids gs vc vr vi vg gl := by
  have ki : ∀ (k : Nat) (c : Array Value), w.heap[k]? = some (.cells c 3) → w'.heap[k]? = w.heap[k]? := fun k c hc => hk k (by rintro rfl; rw [hB] at hc; cases hc; exact h2 rfl)
  have kg : ∀ (k : Nat) (c : Array Value), w.heap[k]? = some (.cells c 77) → w'.heap[k]? = w.heap[k]? := fun k c hc => hk k (by rintro rfl; rw [hB] at hc; cases hc; exact h3 rfl)
  exact ⟨h.c.box h1 hB hcl hk, h.r.box h1 hB hcl hk, owns_keepT h.i ki, fun g hg => by obtain ⟨c, hc⟩ := owns_type h.i hg; exact (h.icl g hg).same (ki g c hc), owns_keepT h.g kg, fun g hg => by obtain ⟨c, hc⟩ := owns_type h.g hg; exact (h.gcl g hg).same (kg g c hc), h.len, fun j u hj => (h.col j u hj).box h1 hB hcl hk⟩
theorem RlS.pushI {w w' : World} {base E : Nat} {cs rs : List Nat} {ids is : List Int} {gs : List (List Nat)} {vc vr vi vg vi' : Value} {gl : List Value} (h : RlS w base E cs rs ids gs vc vr vi vg gl) (hg : Grw w w' vi.ownBlock vi'.ownBlock) (ho : w'.ownsRow base 3 1 vi' is.length (is.map (Value.int .i64))) (hcl : ∀ g, vi'.ownBlock = some g → Cl noU w' g) : RlS w' base E cs rs is gs vc vr vi' vg gl := by
  have hk := grw_types h.i hg
  exact ⟨h.c.grw (by decide) h.i hg h.icl, h.r.grw (by decide) h.i hg h.icl, ho, hcl, owns_keepT h.g fun k cur hc => hk k cur _ (by decide) hc, fun g hgg => by obtain ⟨c, hc⟩ := owns_type h.g hgg; exact (h.gcl g hgg).same (hk g c _ (by decide) hc), h.len, fun j u hj => (h.col j u hj).grw (by decide) h.i hg h.icl⟩
theorem RlS.pushG {w w' : World} {base E : Nat} {cs rs us : List Nat} {ids : List Int} {gs : List (List Nat)} {vc vr vi vg vg' v : Value} {gl : List Value} (h : RlS w base E cs rs ids gs vc vr vi vg gl) (hg : Grw w w' vg.ownBlock vg'.ownBlock) (ho : w'.ownsRow base 77 1 vg' (gl.length + 1) (gl ++ [v])) (hcl : ∀ g, vg'.ownBlock = some g → Cl noU w' g) (hv : RowN w base v E us) : RlS w' base E cs rs ids (gs ++ [us]) vc vr vi vg' (gl ++ [v]) := by
  have hk := grw_types h.g hg
  refine ⟨h.c.grw (by decide) h.g hg h.gcl, h.r.grw (by decide) h.g hg h.gcl, owns_keepT h.i fun k cur hc => hk k cur _ (by decide) hc, fun g hgg => by obtain ⟨c, hc⟩ := owns_type h.i hgg; exact (h.icl g hgg).same (hk g c _ (by decide) hc), by simpa using ho, hcl, by simp [h.len], fun j u hj => ?_⟩
  by_cases e : j < gl.length
  · rw [List.getElem?_append_left e] at hj
    rw [List.getElem?_append_left (by rw [← h.len]; exact e)]
    exact (h.col j u hj).grw (by decide) h.g hg h.gcl
  · have hl := (List.getElem?_eq_some_iff.1 hj).1
    have ej : j = gl.length := by simp at hl; omega
    subst ej
    rw [List.getElem?_append_right (Nat.le_refl _), Nat.sub_self, List.getElem?_cons_zero] at hj
    cases hj
    rw [List.getElem?_append_right (by rw [h.len]; exact Nat.le_refl _), h.len, Nat.sub_self, List.getElem?_cons_zero]
    exact hv.grw (by decide) h.g hg h.gcl
/-- What a row of reals reads as. -/
theorem RowN.at {w : World} {base E : Nat} {v : Value} {us : List Nat} (h : RowN w base v E us) {k : Nat} (hk : k < us.length) : ∃ b cap, v = .slice (some ⟨b, 0, none⟩) us.length cap ∧ ∃ n o l c e, w.cell? ⟨b, k * 3, none⟩ = some (.bool n) ∧ w.cell? ⟨b, k * 3 + 1, none⟩ = some (.slice o l c) ∧ w.cell? ⟨b, k * 3 + 2, none⟩ = some (.int .i64 e) ∧ NumC w (.agg #[.bool n, .slice o l c, .int .i64 e]) E 1024 (fval (us[k]?.getD 0)) := by
  obtain ⟨xs, h1, h2⟩ := h.own
  obtain ⟨n, o, l, c, e, a1, a2, a3, a4⟩ := h2 k hk
  have h1' := h1
  rcases h1.2 with ⟨_, h0⟩ | ⟨g, cap, cur, rfl, _⟩
  · omega
  · refine ⟨g, cap, rfl, n, o, l, c, e, ?_, ?_, ?_, a4⟩
    · rw [World.ownsRow.cellAt h1' (k * 3) (by omega)]; exact a1
    · rw [World.ownsRow.cellAt h1' (k * 3 + 1) (by omega)]; exact a2
    · rw [World.ownsRow.cellAt h1' (k * 3 + 2) (by omega)]; exact a3
theorem RowN.form {w : World} {base E : Nat} {v : Value} {us : List Nat} (h : RowN w base v E us) : ∃ ao cap, v = .slice ao us.length cap := by
  obtain ⟨xs, h1, h2⟩ := h.own
  rcases h1.2 with ⟨rfl, h0⟩ | ⟨g, cap, cur, rfl, _⟩
  · exact ⟨none, 0, by rw [h0]⟩
  · exact ⟨_, cap, rfl⟩
/-- The document's Sign of a real. -/
theorem signF_any (v : Value) (E : Nat) (u : Nat) (w : World) (h : NumC w v E 1024 (fval u)) : Calls Try.prog 57 #[v] w fun e' w' => (∃ s : Int, e' = .returned (.int .i64 s) ∧ -1 ≤ s ∧ s ≤ 1 ∧ (s < 0 ↔ srung u < 0) ∧ (s = 0 ↔ srung u = 0)) ∧ Below w.heap.size w w' := by
  obtain ⟨neg, m, e, h1, h2, h3, h4, _⟩ := h
  refine Calls.mono (sign_any v neg m e w h1) ?_
  rintro e' w' ⟨rfl, hb⟩
  refine ⟨⟨_, rfl, ?_⟩, hb⟩
  have hz0 : srung 0 = 0 := by decide
  have hpow : (0 : Int) < ((2 ^ (e + E).toNat : Nat) : Int) := by have := Nat.two_pow_pos (e + E).toNat; omega
  have hneg := srung_neg u
  have hpos := srung_pos u
  rw [← h4] at hneg hpos
  unfold zv sv at hneg hpos
  by_cases hm : m = 0
  · subst hm
    simp at hneg hpos
    simp
    omega
  · have hm' : (0 : Int) < (m : Int) := by omega
    rw [if_neg hm]
    cases neg
    · have hp : (0 : Int) < (m : Int) * ((2 ^ (e + E).toNat : Nat) : Int) := Int.mul_pos hm' hpow
      simp only [Bool.false_eq_true, if_false] at hneg hpos ⊢
      have := hpos.2 hp
      omega
    · have hp : (-(m : Int)) * ((2 ^ (e + E).toNat : Nat) : Int) < 0 := Int.mul_neg_of_neg_of_pos (by omega) hpow
      simp only [if_true] at hneg hpos ⊢
      have := hneg.2 hp
      omega
end Go.Proofs.Ytoehhnildocihaa

namespace Go.Proofs.Ytoehhnildocihaa
open Go.RowKit Go.Shelf
set_option linter.unusedVariables false
set_option linter.unusedSimpArgs false
theorem Try.infoRl : (Try.prog.info? 82).map (·.size) = some 5 := by kernel_rfl
theorem Try.szNs : (Try.prog.info? 77).map (·.size) = some 1 := by kernel_rfl
theorem Try.szNss : (Try.prog.info? 80).map (·.size) = some 1 := by kernel_rfl
theorem oneRl (N : Int) (a b c d : Value) (h1 : a.oneCell' = true) (h2 : b.oneCell' = true) (h3 : c.oneCell' = true) (h4 : d.oneCell' = true) : (#[.int .i64 N, a, b, c, d] : Array Value).all (·.oneCell') = true := by
  simp only [Array.all_eq_true_iff_forall_mem]
  intro v hv
  simp only [List.mem_toArray, List.mem_cons, List.not_mem_nil, or_false] at hv
  rcases hv with rfl | rfl | rfl | rfl | rfl <;> first | rfl | assumption
set_option maxRecDepth 100000 in
set_option maxHeartbeats 4000000 in
theorem reals_no (u : ZD) (E : Nat) (w : World) (h : u.bad = true ∨ u.N < 1 ∨ 256 < u.N ∨ u.dn ≠ u.gn) (hmi : u.dn ≤ 1050000) (hmg : u.gn ≤ 1050000) :
    Calls Try.prog 34 #[.agg (zRow u)] w fun e w' => (∃ N' a1 l1 c1 a2 l2 c2 a3 l3 c3 a4 l4 c4, e = .returned (.tuple #[.agg #[.int .i64 N', .slice a1 l1 c1, .slice a2 l2 c2, .slice a3 l3 c3, .slice a4 l4 c4], .bool (!u.bad && wholeB u)]) ∧ ((!u.bad && wholeB u) = true → N' = u.N ∧ ∃ gl, RlS w' w.heap.size E u.cs u.rs u.ids u.gs (.slice a1 l1 c1) (.slice a4 l4 c4) (.slice a2 l2 c2) (.slice a3 l3 c3) gl)) ∧ Below w.heap.size w w' := by
  have HF : Hid ((!u.bad && wholeB u) = false) := by
    unfold Hid wholeB
    rcases h with h | h | h | h
    · rw [h]; rfl
    · rw [decide_eq_false (p := 1 ≤ u.N) (by omega)]; simp
    · rw [decide_eq_false (p := u.N ≤ 256) (by omega)]; simp
    · rw [decide_eq_false h]; simp
  obtain ⟨okv, hok⟩ : ∃ okv, (!u.bad && wholeB u) = okv := ⟨_, rfl⟩
  rw [hok] at HF ⊢
  clear hok
  obtain ⟨N, co, cn, cc, io, dn, dc, go, gn, gc, ro, rn, rc, bad, cs, ids, gv, gs, rs⟩ := u
  unfold zRow
  dsimp only at h hmi hmg ⊢
  have X0 : Below w.heap.size w ((w.alloc (.cells #[.int .i64 N, .slice co cn cc, .slice io dn dc, .slice go gn gc, .slice ro rn rc, .bool bad] 39)).alloc (.cells #[.int .i64 0, .slice none 0 0, .slice none 0 0, .slice none 0 0, .slice none 0 0] 82)) := ((Below.refl _ w).alloc (Nat.le_refl _) _).alloc (by simp only [alloc_size]; omega) _
  have Y0 : ((w.alloc (.cells #[.int .i64 N, .slice co cn cc, .slice io dn dc, .slice go gn gc, .slice ro rn rc, .bool bad] 39)).alloc (.cells #[.int .i64 0, .slice none 0 0, .slice none 0 0, .slice none 0 0, .slice none 0 0] 82)).heap[w.heap.size]? = some (.cells #[.int .i64 N, .slice co cn cc, .slice io dn dc, .slice go gn gc, .slice ro rn rc, .bool bad] 39) := alloc_kept (heap_alloc_new w _) _
  have Y1 : ((w.alloc (.cells #[.int .i64 N, .slice co cn cc, .slice io dn dc, .slice go gn gc, .slice ro rn rc, .bool bad] 39)).alloc (.cells #[.int .i64 0, .slice none 0 0, .slice none 0 0, .slice none 0 0, .slice none 0 0] 82)).heap[w.heap.size + 1]? = some (.cells #[.int .i64 0, .slice none 0 0, .slice none 0 0, .slice none 0 0, .slice none 0 0] 82) := heap_at _ _ (w.heap.size + 1) (by simp only [alloc_size])
  have HK : Hid _ := And.intro X0 Y1
  have H' : Hid _ := h
  clear X0 Y0 Y1 h
  cases bad
  case true =>
    go_enter Try.func34, Try.ntmps34
    go_wp2_with (first | (refine wpList_store_row (by rfl) 82 _ _ (by rfl) w w.heap.size (w.heap.size + 1) #[.int .i64 0, .slice none 0 0, .slice none 0 0, .slice none 0 0, .slice none 0 0] _ (by rfl) (by rfl) HK.out.2 HK.out.1 (Nat.le_succ _) 5 Try.infoRl (by rfl) (by rfl) (oneRl _ _ _ _ _ rfl rfl rfl rfl) ?_; intro W9 e9 b9 s9 o9))
    refine bodyPost_ret (res_ctJ _ 2 3 82 (by kernel_rfl) _ _ (w.heap.size + 1) _ _ (by rfl) (by rfl) _ Try.underlying82 rfl 5 Try.infoRl rfl e9) rfl ?_
    exact ⟨⟨0, none, 0, 0, none, 0, 0, none, 0, 0, none, 0, 0, by rw [HF.out]; rfl, fun h => by rw [HF.out] at h; cases h⟩, b9⟩
  case false =>
  by_cases h1 : N < 1
  · have d1 : decide (N < 1) = true := decide_eq_true h1
    clear h1
    go_enter Try.func34, Try.ntmps34
    go_wp2_with (first | (refine wpList_store_row (by rfl) 82 _ _ (by rfl) w w.heap.size (w.heap.size + 1) #[.int .i64 0, .slice none 0 0, .slice none 0 0, .slice none 0 0, .slice none 0 0] _ (by rfl) (by rfl) HK.out.2 HK.out.1 (Nat.le_succ _) 5 Try.infoRl (by rfl) (by rfl) (oneRl _ _ _ _ _ rfl rfl rfl rfl) ?_; intro W9 e9 b9 s9 o9))
    refine bodyPost_ret (res_ctJ _ 2 3 82 (by kernel_rfl) _ _ (w.heap.size + 1) _ _ (by rfl) (by rfl) _ Try.underlying82 rfl 5 Try.infoRl rfl e9) rfl ?_
    exact ⟨⟨0, none, 0, 0, none, 0, 0, none, 0, 0, none, 0, 0, by rw [HF.out]; rfl, fun h => by rw [HF.out] at h; cases h⟩, b9⟩
  have d1 : decide (N < 1) = false := decide_eq_false h1
  by_cases h2 : 256 < N
  · have d2 : decide (256 < N) = true := decide_eq_true h2
    clear h1 h2
    go_enter Try.func34, Try.ntmps34
    go_wp2_with (first | (refine wpList_store_row (by rfl) 82 _ _ (by rfl) w w.heap.size (w.heap.size + 1) #[.int .i64 0, .slice none 0 0, .slice none 0 0, .slice none 0 0, .slice none 0 0] _ (by rfl) (by rfl) HK.out.2 HK.out.1 (Nat.le_succ _) 5 Try.infoRl (by rfl) (by rfl) (oneRl _ _ _ _ _ rfl rfl rfl rfl) ?_; intro W9 e9 b9 s9 o9))
    refine bodyPost_ret (res_ctJ _ 2 3 82 (by kernel_rfl) _ _ (w.heap.size + 1) _ _ (by rfl) (by rfl) _ Try.underlying82 rfl 5 Try.infoRl rfl e9) rfl ?_
    exact ⟨⟨0, none, 0, 0, none, 0, 0, none, 0, 0, none, 0, 0, by rw [HF.out]; rfl, fun h => by rw [HF.out] at h; cases h⟩, b9⟩
  have d2 : decide (256 < N) = false := decide_eq_false h2
  have hne : dn ≠ gn := by
    rcases H'.out with h | h | h | h
    · cases h
    · omega
    · omega
    · exact h
  have d3 : ((dn : Int) != (gn : Int)) = true := by simp; omega
  have d4 : ((dn : Int) == (gn : Int)) = false := by simp; omega
  have d5 : (dn == gn) = false := by simpa using hne
  clear h1 h2
  go_enter Try.func34, Try.ntmps34
  go_wp2_with (first | (refine wpList_store_row (by rfl) 82 _ _ (by rfl) w w.heap.size (w.heap.size + 1) #[.int .i64 0, .slice none 0 0, .slice none 0 0, .slice none 0 0, .slice none 0 0] _ (by rfl) (by rfl) HK.out.2 HK.out.1 (Nat.le_succ _) 5 Try.infoRl (by rfl) (by rfl) (oneRl _ _ _ _ _ rfl rfl rfl rfl) ?_; intro W9 e9 b9 s9 o9))
  refine bodyPost_ret (res_ctJ _ 2 3 82 (by kernel_rfl) _ _ (w.heap.size + 1) _ _ (by rfl) (by rfl) _ Try.underlying82 rfl 5 Try.infoRl rfl e9) rfl ?_
  exact ⟨⟨0, none, 0, 0, none, 0, 0, none, 0, 0, none, 0, 0, by rw [HF.out]; rfl, fun h => by rw [HF.out] at h; cases h⟩, b9⟩
end Go.Proofs.Ytoehhnildocihaa
