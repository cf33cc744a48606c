import Derived.Test.YtigaggkipmcgeaaNW
import Derived.Test.YtigaggkipmcgeaaNX
namespace Go.Proofs.Ytigaggkipmcgeaa
open Go.RowKit
set_option linter.unusedVariables false

theorem NumZ.set3 {w : World} {B : Nat} (x y z : Value) (hB : NumB w B) {v : Value} {s : Nat} {T r : Int} (h : NumZ w v s T r) : NumZ (((w.setCell ⟨B, 0, none⟩ x).setCell ⟨B, 1, none⟩ y).setCell ⟨B, 2, none⟩ z) v s T r := by
  obtain ⟨neg, m, e, ⟨ao, len, cap, xs, h1, h2, h3⟩, h4⟩ := h
  exact ⟨neg, m, e, ⟨ao, len, cap, xs, h1, rd4_set3 x y z hB h2, h3⟩, h4⟩
theorem below_set3 {w0 w : World} {base B : Nat} (x y z : Value) (h : Below base w0 w) (hB : base ≤ B) : Below base w0 (((w.setCell ⟨B, 0, none⟩ x).setCell ⟨B, 1, none⟩ y).setCell ⟨B, 2, none⟩ z) :=
  ((h.setCell (p := ⟨B, 0, none⟩) hB x).setCell (p := ⟨B, 1, none⟩) hB y).setCell (p := ⟨B, 2, none⟩) hB z
theorem turnedZ_any (v : Value) (s : Nat) (T x : Int) (w : World) (hx : NumZ w v s T x) :
    Calls Try.prog 74 #[v] w fun e' w' => ∃ v', e' = .returned v' ∧ NumZ w' v' s T (-x) ∧ Below w.heap.size w w' := by
  obtain ⟨nx, mx, ex, h1, h2, h3, h4⟩ := hx
  refine (turned_any v nx mx ex w h1).mono ?_
  rintro e' w' ⟨v', rfl, hN, hB⟩
  refine ⟨v', rfl, ⟨_, mx, ex, hN, h2, h3, ?_⟩, hB⟩
  by_cases h0 : mx = 0
  · rw [← h4, h0, zv_zero, zv_zero]; rfl
  · rw [if_neg h0, zv_not, h4]
theorem sizeZ_any (v : Value) (s : Nat) (T x : Int) (w : World) (hx : NumZ w v s T x) :
    Calls Try.prog 28 #[v] w fun e' w' => ∃ v', e' = .returned v' ∧ NumZ w' v' s T (x.natAbs : Int) ∧ Below w.heap.size w w' := by
  obtain ⟨nx, mx, ex, h1, h2, h3, h4⟩ := hx
  refine (size_any v nx mx ex w h1).mono ?_
  rintro e' w' ⟨v', rfl, hN, hB⟩
  refine ⟨v', rfl, ⟨_, mx, ex, hN, h2, h3, ?_⟩, hB⟩
  rw [← h4, zv_abs]; unfold zv sv
  simp only [Bool.false_eq_true, if_false]
  rw [Int.natCast_mul]
theorem signZ_any (v : Value) (s : Nat) (T x : Int) (w : World) (hx : NumZ w v s T x) :
    Calls Try.prog 23 #[v] w fun e' w' => e' = .returned (.int .i64 (sgi x)) ∧ Below w.heap.size w w' := by
  obtain ⟨nx, mx, ex, h1, h2, h3, h4⟩ := hx
  refine (sign_any v nx mx ex w h1).mono ?_
  rintro e' w' ⟨rfl, hB⟩
  exact ⟨by rw [← h4, sgi_zv], hB⟩
set_option maxRecDepth 100000 in
theorem minusZ_any (v u : Value) (s : Nat) (T x y : Int) (w : World) (hx : NumZ w v s T x) (hy : NumZ w u s T y) (hs : s ≤ 20000) (hT : 0 ≤ T ∧ T ≤ 20000) :
    Calls Try.prog 22 #[v, u] w fun e' w' => ∃ v', e' = .returned v' ∧ NumZ w' v' s (T + 1) (x - y) ∧ Below w.heap.size w w' := by
  have HX : Hid (NumZ w v s T x) := hx
  have HY : Hid (NumZ w u s T y) := hy
  obtain ⟨nx, mx, ex, ⟨ao, len, cap, xs, rfl, -⟩, -⟩ := hx
  obtain ⟨ny, my, ey, ⟨bo, blen, bcap, ys, rfl, -⟩, -⟩ := hy
  obtain ⟨p0, p1, p2, pz, pb⟩ := alloc3_facts w (Obj.cells #[Value.bool nx, Value.slice ao len cap, Value.int IntKind.i64 ex] 27) (Obj.cells #[Value.bool ny, Value.slice bo blen bcap, Value.int IntKind.i64 ey] 27) (Obj.cells #[Value.bool false, Value.slice none 0 0, Value.int IntKind.i64 0] 27)
  have PZ : Hid _ := pz
  have PB : Hid _ := pb
  go_enter Try.func22, Try.ntmps22
  go_wp2_with fail
  generalize (((w.alloc (Obj.cells #[Value.bool nx, Value.slice ao len cap, Value.int IntKind.i64 ex] 27)).alloc (Obj.cells #[Value.bool ny, Value.slice bo blen bcap, Value.int IntKind.i64 ey] 27)).alloc (Obj.cells #[Value.bool false, Value.slice none 0 0, Value.int IntKind.i64 0] 27)) = wa at *
  have HY2 : Hid (NumZ wa.drew _ s T y) := NumZ.later HY.out PB.out.drew
  have P2 : Hid _ := p2
  obtain ⟨x0, x1, x2⟩ := three_cells p0
  obtain ⟨y0, y1, y2⟩ := three_cells p1
  have P0 : Hid _ := p0
  have P1 : Hid _ := p1
  clear p0 p1 p2 pz pb
  have hne1 : ¬ (w.heap.size + 1 + 1 = w.heap.size) := by omega
  have hne2 : ¬ (w.heap.size = w.heap.size + 1 + 1) := by omega
  go_region_held3 (fun w' => w'.cell? ⟨w.heap.size, 0, none⟩ = some (.bool nx) ∧ w'.cell? ⟨w.heap.size, 1, none⟩ = some (.slice ao len cap) ∧ w'.cell? ⟨w.heap.size, 2, none⟩ = some (.int .i64 ex) ∧ w'.cell? ⟨w.heap.size + 1, 0, none⟩ = some (.bool ny) ∧ w'.cell? ⟨w.heap.size + 1, 1, none⟩ = some (.slice bo blen bcap) ∧ w'.cell? ⟨w.heap.size + 1, 2, none⟩ = some (.int .i64 ey)) (go_keep)
    (first
      | (go_at_call 74; refine (turnedZ_any _ s T y _ HY2.out).mono ?_; rintro ee ww ⟨v1, rfl, hz1, hb1⟩; have b0 := (hb1.block w.heap.size (by show w.heap.size < wa.heap.size; rw [PZ.out]; omega)).trans P0.out; have b1 := (hb1.block (w.heap.size + 1) (by show w.heap.size + 1 < wa.heap.size; rw [PZ.out]; omega)).trans P1.out; have b2 := (hb1.block (w.heap.size + 1 + 1) (by show w.heap.size + 1 + 1 < wa.heap.size; rw [PZ.out]; omega)).trans P2.out; obtain ⟨a0, a1, a2⟩ := three_cells b0; obtain ⟨a3, a4, a5⟩ := three_cells b1; have HBB : Hid (Below w.heap.size w ww) := PB.out.drew.trans (hb1.mono (by show w.heap.size ≤ wa.heap.size; rw [PZ.out]; omega)); have HSZ : Hid (w.heap.size + 3 ≤ ww.heap.size) := Nat.le_trans (Nat.le_of_eq PZ.out.symm) hb1.size; have HZ1 : Hid (NumZ ww v1 s T (-y)) := hz1; have B0 : Hid _ := b0; have B1 : Hid _ := b1; have B2 : Hid _ := b2; clear hz1 hb1 b0 b1 b2)
      | (go_at_call 15; refine (plusZ_any _ _ s T x (-y) _ (NumZ.later HX.out HBB.out) HZ1.out hs hT).mono ?_; rintro ee ww2 ⟨v2, rfl, hz2, hb2⟩; have d0 := (hb2.block w.heap.size (by have := HSZ.out; omega)).trans B0.out; have d1 := (hb2.block (w.heap.size + 1) (by have := HSZ.out; omega)).trans B1.out; obtain ⟨i0, i1, i2⟩ := three_cells d0; obtain ⟨i3, i4, i5⟩ := three_cells d1; have d2 := (hb2.block (w.heap.size + 1 + 1) (by have := HSZ.out; omega)).trans B2.out; have HB3 : Hid (Below w.heap.size w ww2) := HBB.out.trans (hb2.mono HBB.out.size); obtain ⟨c0, c1, c2⟩ := three_cells d2; have fc := (fun j => frozen_of_row _ _ j _ _ d2); have D2 : Hid _ := d2; have HZ2 : Hid (NumZ ww2 v2 s (T + 1) (x + -y)) := hz2; obtain ⟨n3, m3, e3, ⟨a3, l3, c3, xs3, rfl, -⟩, -⟩ := hz2; clear hb2 d0 d1 d2))
  all_goals go_wp2_with fail
  all_goals
    refine bodyPost_ret (v := .agg #[.bool n3, .slice a3 l3 c3, .int .i64 e3]) (res_num _ 4 (by kernel_rfl) _ _ (w.heap.size + 1 + 1) _ _ _ (by rfl) (set3_heap _ _ _ D2.out)) rfl ⟨_, rfl, ?_, ?_⟩
    · rw [show x - y = x + -y by omega]; exact NumZ.set3 _ _ _ ⟨_, _, _, _, _, D2.out⟩ HZ2.out
    · exact below_set3 _ _ _ HB3.out (by omega)
theorem alloc2_facts (w : World) (o1 o2 : Obj) : ((w.alloc o1).alloc o2).heap[w.heap.size]? = some o1 ∧ ((w.alloc o1).alloc o2).heap[w.heap.size + 1]? = some o2 ∧ ((w.alloc o1).alloc o2).heap.size = w.heap.size + 2 ∧ Below w.heap.size w ((w.alloc o1).alloc o2) := by
  have e1 := heap_alloc_new w o1
  have e2 := heap_alloc_new (w.alloc o1) o2
  rw [show (w.alloc o1).heap.size = w.heap.size + 1 by simp] at e2
  exact ⟨by rw [Below.heap_alloc _ _ _ (by simp), e1], e2, by simp, ((Below.refl _ _).alloc (Nat.le_refl _) _).alloc (by simp) _⟩
set_option maxRecDepth 100000 in
theorem cmpZ_any (v u : Value) (s : Nat) (T x y : Int) (w : World) (hx : NumZ w v s T x) (hy : NumZ w u s T y) (hs : s ≤ 20000) (hT : 0 ≤ T ∧ T ≤ 20000) :
    Calls Try.prog 19 #[v, u] w fun e' w' => e' = .returned (.int .i64 (sgi (x - y))) ∧ Below w.heap.size w w' := by
  have HX : Hid (NumZ w v s T x) := hx
  have HY : Hid (NumZ w u s T y) := hy
  obtain ⟨nx, mx, ex, ⟨ao, len, cap, xs, rfl, -⟩, -⟩ := hx
  obtain ⟨ny, my, ey, ⟨bo, blen, bcap, ys, rfl, -⟩, -⟩ := hy
  obtain ⟨p0, p1, pz, pb⟩ := alloc2_facts w (Obj.cells #[Value.bool nx, Value.slice ao len cap, Value.int IntKind.i64 ex] 27) (Obj.cells #[Value.bool ny, Value.slice bo blen bcap, Value.int IntKind.i64 ey] 27)
  have PZ : Hid _ := pz
  have PB : Hid _ := pb
  go_enter Try.func19, Try.ntmps19
  go_wp2_with fail
  refine (minusZ_any _ _ s T x y _ (NumZ.later HX.out PB.out) (NumZ.later HY.out PB.out) hs hT).mono ?_
  rintro ee ww ⟨v1, rfl, hz1, hb1⟩
  have HB1 : Hid (Below w.heap.size w ww) := PB.out.trans (hb1.mono (by rw [PZ.out]; omega))
  have HZ1 : Hid (NumZ ww v1 s (T + 1) (x - y)) := hz1
  clear hz1 hb1
  go_wp2_with fail
  refine (signZ_any _ s (T + 1) (x - y) _ HZ1.out).mono ?_
  rintro ee w2 ⟨rfl, hb2⟩
  have HB2 : Hid (Below w.heap.size w w2) := HB1.out.trans (hb2.mono HB1.out.size)
  clear hb2
  go_wp2_with fail
  go_ret
  exact ⟨rfl, HB2.out⟩
def TimesRes (nx ny : Bool) (mx my : Nat) (ex ey : Int) (w : World) (e' : Ending) (w' : World) : Prop := ∃ v' neg e, e' = .returned v' ∧ NumV w' v' neg (mx * my) e ∧ (mx * my = 0 → e = 0) ∧ (mx * my ≠ 0 → neg = (nx != ny) ∧ e = ex + ey) ∧ Below w.heap.size w w'
set_option maxRecDepth 100000 in
set_option maxHeartbeats 1000000 in
theorem timesV_any (v u : Value) (nx ny : Bool) (mx my : Nat) (ex ey : Int) (w : World) (hx : NumV w v nx mx ex) (hy : NumV w u ny my ey) (hex : -20000 ≤ ex ∧ ex ≤ 20000) (hey : -20000 ≤ ey ∧ ey ≤ 20000) (hbx : bl mx ≤ 40000) (hby : bl my ≤ 40000) :
    Calls Try.prog 17 #[v, u] w fun e' w' => TimesRes nx ny mx my ex ey w e' w' := by
  obtain ⟨ao, len, cap, xs, rfl, hr, hnm, hm⟩ := hx
  obtain ⟨bo, blen, bcap, ys, rfl, hr2, hnm2, hm2⟩ := hy
  have lz1 := len_zero hr.length hr.lt hnm
  have lz2 := len_zero hr2.length hr2.lt hnm2
  have hl1 : len ≤ 10000 := by have := len_bl hr.length hr.lt hnm; rw [hm] at this; omega
  have hl2 : blen ≤ 10000 := by have := len_bl hr2.length hr2.lt hnm2; rw [hm2] at this; omega
  rw [hm] at lz1
  rw [hm2] at lz2
  obtain ⟨p0, p1, p2, pz, pb⟩ := alloc3_facts w (Obj.cells #[Value.bool nx, Value.slice ao len cap, Value.int IntKind.i64 ex] 27) (Obj.cells #[Value.bool ny, Value.slice bo blen bcap, Value.int IntKind.i64 ey] 27) (Obj.cells #[Value.bool false, Value.slice none 0 0, Value.int IntKind.i64 0] 27)
  have PZ : Hid _ := pz
  have PB : Hid _ := pb
  have HR : Hid _ := hr
  have HR2 : Hid _ := hr2
  clear hr hr2
  have P0 : Hid _ := p0
  have P1 : Hid _ := p1
  have P2 : Hid _ := p2
  have LZ1 : Hid (len = 0 ↔ mx = 0) := lz1
  have LZ2 : Hid (blen = 0 ↔ my = 0) := lz2
  have HM : Hid (dig xs = mx) := hm
  have HM2 : Hid (dig ys = my) := hm2
  clear p0 p1 p2 pz pb lz1 lz2 hm hm2
  by_cases h0 : mx = 0
  · have hl0 : len = 0 := LZ1.out.2 h0
    subst hl0
    go_enter Try.func17, Try.ntmps17
    go_wp2_with fail
    refine bodyPost_ret (v := .agg #[.bool false, .slice none 0 0, .int .i64 0]) (res_num _ 4 (by kernel_rfl) _ _ (w.heap.size + 1 + 1) _ _ _ (by rfl) P2.out) rfl ⟨_, false, 0, rfl, ⟨none, 0, 0, [], rfl, rd4_none' _, .inl rfl, by simp [dig]⟩, fun _ => rfl, fun c => absurd (by simp) c, PB.out⟩
  have hb0 : ((len : Int) == 0) = false := by rw [beq_eq_false_iff_ne]; have := LZ1.out; omega
  by_cases h1 : my = 0
  · have hl0 : blen = 0 := LZ2.out.2 h1
    subst hl0
    go_enter Try.func17, Try.ntmps17
    go_wp2_with fail
    refine bodyPost_ret (v := .agg #[.bool false, .slice none 0 0, .int .i64 0]) (res_num _ 4 (by kernel_rfl) _ _ (w.heap.size + 1 + 1) _ _ _ (by rfl) P2.out) rfl ⟨_, false, 0, rfl, ⟨none, 0, 0, [], rfl, rd4_none' _, .inl rfl, by simp [dig]⟩, fun _ => rfl, fun c => absurd (by simp) c, PB.out⟩
  have hb1 : ((blen : Int) == 0) = false := by rw [beq_eq_false_iff_ne]; have := LZ2.out; omega
  have hmn : mx * my ≠ 0 := Nat.mul_ne_zero h0 h1
  have hwr : IntKind.i64.wrap (ex + ey) = ex + ey := by rw [IntKind.wrap_i64]; omega
  have HMN : Hid (mx * my ≠ 0) := hmn
  go_enter Try.func17, Try.ntmps17
  go_wp2_with fail
  generalize (((w.alloc (Obj.cells #[Value.bool nx, Value.slice ao len cap, Value.int IntKind.i64 ex] 27)).alloc (Obj.cells #[Value.bool ny, Value.slice bo blen bcap, Value.int IntKind.i64 ey] 27)).alloc (Obj.cells #[Value.bool false, Value.slice none 0 0, Value.int IntKind.i64 0] 27)) = wa at *
  obtain ⟨x0, x1, x2⟩ := three_cells P0.out
  obtain ⟨y0, y1, y2⟩ := three_cells P1.out
  have hne1 : ¬ (w.heap.size + 1 + 1 = w.heap.size) := by omega
  have hne2 : ¬ (w.heap.size = w.heap.size + 1 + 1) := by omega
  have R1 : Hid _ := HR.out.later PB.out.drew
  have R2 : Hid _ := HR2.out.later PB.out.drew
  clear h0 h1 hmn
  go_region_held3 (fun w' => w'.cell? ⟨w.heap.size, 0, none⟩ = some (.bool nx) ∧ w'.cell? ⟨w.heap.size, 1, none⟩ = some (.slice ao len cap) ∧ w'.cell? ⟨w.heap.size, 2, none⟩ = some (.int .i64 ex) ∧ w'.cell? ⟨w.heap.size + 1, 0, none⟩ = some (.bool ny) ∧ w'.cell? ⟨w.heap.size + 1, 1, none⟩ = some (.slice bo blen bcap) ∧ w'.cell? ⟨w.heap.size + 1, 2, none⟩ = some (.int .i64 ey)) (go_keep)
    (first
      | (go_at_call 69; refine (times_any ao len cap xs bo blen bcap ys _ R1.out R2.out hl1 hl2).mono ?_; rintro ee ww ⟨ao', k, cap', zs, rfl, hr3, hn3, hd3, hb3, hk3⟩; have b0 := (hb3.block w.heap.size (by show w.heap.size < wa.heap.size; rw [PZ.out]; omega)).trans P0.out; have b1 := (hb3.block (w.heap.size + 1) (by show w.heap.size + 1 < wa.heap.size; rw [PZ.out]; omega)).trans P1.out; have b2 := (hb3.block (w.heap.size + 1 + 1) (by show w.heap.size + 1 + 1 < wa.heap.size; rw [PZ.out]; omega)).trans P2.out; obtain ⟨a0, a1, a2⟩ := three_cells b0; obtain ⟨a3, a4, a5⟩ := three_cells b1; obtain ⟨c0, c1, c2⟩ := three_cells b2; have fc := (fun j => frozen_of_row _ _ j _ _ b2); have HBB : Hid (Below w.heap.size w ww) := PB.out.drew.trans (hb3.mono (by show w.heap.size ≤ wa.heap.size; rw [PZ.out]; omega)); have R3 : Hid _ := hr3; have B2 : Hid _ := b2; clear hr3 hb3 b0 b1 b2))
  all_goals go_wp2_with fail
  all_goals
    refine bodyPost_ret (v := .agg #[.bool (nx != ny), .slice ao' k cap', .int .i64 (ex + ey)]) (res_num _ 4 (by kernel_rfl) _ _ (w.heap.size + 1 + 1) _ _ _ (by rfl) (set3_heap _ _ _ B2.out)) rfl ⟨_, (nx != ny), ex + ey, rfl, ?_, ?_, ?_, ?_⟩
    · exact ⟨ao', k, cap', zs, rfl, rd4_set3 _ _ _ ⟨_, _, _, _, _, B2.out⟩ R3.out, hn3, by rw [hd3, HM.out, HM2.out]⟩
    · exact fun c => absurd c HMN.out
    · exact fun _ => ⟨rfl, rfl⟩
    · exact below_set3 _ _ _ HBB.out (by omega)
theorem timesZ_any (v u : Value) (s : Nat) (T T' x y : Int) (w : World) (hx : NumZ w v s T x) (hy : NumZ w u s T' y) (hs : s ≤ 10000) (hT : 0 ≤ T ∧ T ≤ 10000) (hT' : 0 ≤ T' ∧ T' ≤ 10000) :
    Calls Try.prog 17 #[v, u] w fun e' w' => ∃ v', e' = .returned v' ∧ NumZ w' v' (s + s) (T + T') (x * y) ∧ Below w.heap.size w w' := by
  obtain ⟨nx, mx, ex, h1, h2, h3, h4⟩ := hx
  obtain ⟨ny, my, ey, k1, k2, k3, k4⟩ := hy
  refine (timesV_any v u nx ny mx my ex ey w h1 k1 (by omega) (by omega) (by omega) (by omega)).mono ?_
  rintro e' w' ⟨v', neg, e, rfl, hN, hz, hnz, hB⟩
  refine ⟨v', rfl, ⟨neg, mx * my, e, hN, ?_, ?_, ?_⟩, hB⟩
  · by_cases h : mx * my = 0
    · rw [hz h]; omega
    · rw [(hnz h).2]; omega
  · by_cases h : mx * my = 0
    · rw [hz h, h, bl_zero]; omega
    · have := bl_mul mx my
      rw [(hnz h).2]; omega
  · rw [← h4, ← k4, ← zv_mul nx ny mx my h2 k2]
    by_cases h : mx * my = 0
    · rw [h, zv_zero, zv_zero]
    · rw [(hnz h).1, (hnz h).2]
end Go.Proofs.Ytigaggkipmcgeaa
