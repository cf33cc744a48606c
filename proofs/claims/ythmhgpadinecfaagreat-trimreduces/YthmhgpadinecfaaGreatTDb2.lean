import Derived.Test.YthmhgpadinecfaaGreatTDb1
set_option maxRecDepth 100000
set_option maxHeartbeats 4000000
set_option linter.unusedVariables false
set_option linter.unusedSimpArgs false
namespace Go.Proofs.YthmhgpadinecfaaGreat
open Go.RowKit
theorem turned_any (v : Value) (neg : Bool) (m : Nat) (e : Int) (w : World) (h : NumV w v neg m e) :
  Calls Tryz.prog 94 #[v] w fun e' w' => ∃ v', e' = .returned v' /\ NumV w' v' (if m = 0 then neg else !neg) m e /\ Below w.heap.size w w' := by
 obtain ⟨ao, len, cap, xs, rfl, hr, hnm, hm⟩ := h
 have hz := len_zero hr.length hr.lt hnm
 rw [hm] at hz
 have hbel : ∀ c1 c2 : Obj, Below w.heap.size w ((w.alloc c1).alloc c2) := fun c1 c2 => ((Below.refl _ _).alloc (Nat.le_refl _) _).alloc (by simp) _
 have HR : Hid _ := hr
 have HB : Hid _ := hbel
 clear hr hbel
 by_cases h0 : 0 < len
 ·rw [if_neg (by omega)]
  go_enter Tryz.func94, Tryz.ntmps94
  go_wp2_with fail
  refine bodyPost_ret (v := .agg #[.bool (!neg), .slice ao len cap, .int .i64 e]) (res_num _ 2 (by kernel_rfl) _ _ (w.heap.size + 1) _ _ _ (by rfl) (by have := heap_alloc_new (w.alloc (Obj.cells #[Value.bool (!neg), Value.slice ao len cap, Value.int IntKind.i64 e] 65)) (Obj.cells #[Value.bool (!neg), Value.slice ao len cap, Value.int IntKind.i64 e] 65); simpa using this)) rfl ⟨_, rfl, ?_, HB.out _ _⟩
  exact ⟨ao, len, cap, xs, rfl, HR.out.later (HB.out _ _), hnm, hm⟩
 ·rw [if_pos (by omega)]
  go_enter Tryz.func94, Tryz.ntmps94
  go_wp2_with fail
  refine bodyPost_ret (v := .agg #[.bool neg, .slice ao len cap, .int .i64 e]) (res_num _ 2 (by kernel_rfl) _ _ (w.heap.size + 1) _ _ _ (by rfl) (by have := heap_alloc_new (w.alloc (Obj.cells #[Value.bool neg, Value.slice ao len cap, Value.int IntKind.i64 e] 65)) (Obj.cells #[Value.bool neg, Value.slice ao len cap, Value.int IntKind.i64 e] 65); simpa using this)) rfl ⟨_, rfl, ?_, HB.out _ _⟩
  exact ⟨ao, len, cap, xs, rfl, HR.out.later (HB.out _ _), hnm, hm⟩
theorem sign_any (v : Value) (neg : Bool) (m : Nat) (e : Int) (w : World) (h : NumV w v neg m e) :
  Calls Tryz.prog 74 #[v] w fun e' w' => e' = .returned (.int .i64 (if m = 0 then 0 else if neg then -1 else 1)) /\ Below w.heap.size w w' := by
 obtain ⟨ao, len, cap, xs, rfl, hr, hnm, hm⟩ := h
 have hz := len_zero hr.length hr.lt hnm
 rw [hm] at hz
 clear hr
 by_cases h0 : m = 0
 ·have hl : len = 0 := hz.2 h0
  subst hl
  rw [if_pos h0]
  clear hz
  go_enter Tryz.func74, Tryz.ntmps74
  go_wp2_with fail
  go_ret
  exact ⟨rfl, (Below.refl _ _).alloc (Nat.le_refl _) _⟩
 ·have hl : 0 < len := by omega
  have hb : ((len : Int) == 0) = false := by rw [beq_eq_false_iff_ne]; omega
  rw [if_neg h0]
  clear hz
  cases neg
  ·go_enter Tryz.func74, Tryz.ntmps74
   go_wp2_with fail
   go_ret
   exact ⟨rfl, (Below.refl _ _).alloc (Nat.le_refl _) _⟩
  ·go_enter Tryz.func74, Tryz.ntmps74
   go_wp2_with fail
   go_ret
   exact ⟨rfl, (Below.refl _ _).alloc (Nat.le_refl _) _⟩
theorem rd4_none' (w : World) : Rd4 w none 0 0 [] := Rd4.none w
def LevelOf (mx : Nat) (ex : Int) (my : Nat) (ey : Int) (A B : Nat) (e : Int) : Prop :=
 (mx = 0 /\ A = 0 /\ B = my /\ e = ey) \/ (mx ≠ 0 /\ my = 0 /\ A = mx /\ B = 0 /\ e = ex) \/ (mx ≠ 0 /\ my ≠ 0 /\ e = min ex ey /\ A = mx * 2 ^ (ex - e).toNat /\ B = my * 2 ^ (ey - e).toNat)
def LevelRes (mx : Nat) (ex : Int) (my : Nat) (ey : Int) (w : World) (e' : Ending) (w' : World) : Prop :=
 ∃ a1 l1 c1 xs a2 l2 c2 ys A B e, e' = .returned (.tuple #[.slice a1 l1 c1, .slice a2 l2 c2, .int .i64 e]) /\ Rd4 w' a1 l1 c1 xs /\ Rd4 w' a2 l2 c2 ys /\ Nm xs /\ Nm ys /\ dig xs = A /\ dig ys = B /\ LevelOf mx ex my ey A B e /\ Below w.heap.size w w'
theorem level_any (v u : Value) (nx ny : Bool) (mx my : Nat) (ex ey : Int) (w : World) (hx : NumV w v nx mx ex) (hy : NumV w u ny my ey) (hex : -20000 <= ex /\ ex <= 20000) (hey : -20000 <= ey /\ ey <= 20000) (hbx : bl mx <= 100000) (hby : bl my <= 100000) :
  Calls Tryz.prog 48 #[v, u] w fun e' w' => LevelRes mx ex my ey w e' w' := by
 obtain ⟨ao, len, cap, xs, rfl, hr, hnm, hm⟩ := hx
 obtain ⟨bo, blen, bcap, ys, rfl, hr2, hnm2, hm2⟩ := hy
 have hz := len_zero hr.length hr.lt hnm
 have hz2 := len_zero hr2.length hr2.lt hnm2
 rw [hm] at hz
 rw [hm2] at hz2
 have hl : len <= 10000 := by have := len_bl hr.length hr.lt hnm; rw [hm] at this; omega
 have hl2 : blen <= 10000 := by have := len_bl hr2.length hr2.lt hnm2; rw [hm2] at this; omega
 have hbel : ∀ o1 o2 : Obj, Below w.heap.size w ((w.alloc o1).alloc o2) := fun o1 o2 => ((Below.refl _ _).alloc (Nat.le_refl _) _).alloc (by simp) _
 have HR : Hid _ := hr
 have HR2 : Hid _ := hr2
 have HB : Hid _ := hbel
 clear hr hr2 hbel
 by_cases h0 : mx = 0
 ·have hl0 : len = 0 := hz.2 h0
  subst hl0
  clear hz hz2
  go_enter Tryz.func48, Tryz.ntmps48
  go_wp2_with fail
  go_region
  go_wp2_with fail
  go_ret3
  exact ⟨none, 0, 0, [], bo, blen, bcap, ys, 0, my, ey, rfl, rd4_none' _, HR2.out.later (HB.out _ _).drew, .inl rfl, hnm2, rfl, hm2, .inl ⟨h0, rfl, rfl, rfl⟩, (HB.out _ _).drew⟩
 ·have hb0 : ((len : Int) == 0) = false := by rw [beq_eq_false_iff_ne]; omega
  by_cases h1 : my = 0
  ·have hl0 : blen = 0 := hz2.2 h1
   subst hl0
   clear hz hz2
   go_enter Tryz.func48, Tryz.ntmps48
   go_wp2_with fail
   go_region
   go_wp2_with fail
   go_ret3
   exact ⟨ao, len, cap, xs, none, 0, 0, [], mx, 0, ex, rfl, HR.out.later (HB.out _ _).drew, rd4_none' _, hnm, .inl rfl, hm, rfl, .inr (.inl ⟨h0, h1, rfl, rfl, rfl⟩), (HB.out _ _).drew⟩
  ·have hb1 : ((blen : Int) == 0) = false := by rw [beq_eq_false_iff_ne]; omega
   clear hz hz2
   have q0 : ((w.alloc (Obj.cells #[Value.bool nx, Value.slice ao len cap, Value.int IntKind.i64 ex] 65)).alloc (Obj.cells #[Value.bool ny, Value.slice bo blen bcap, Value.int IntKind.i64 ey] 65)).heap[w.heap.size]? = some (Obj.cells #[Value.bool nx, Value.slice ao len cap, Value.int IntKind.i64 ex] 65) := by rw [Below.heap_alloc _ _ _ (by simp)]; exact heap_alloc_new w _
   have q1 : ((w.alloc (Obj.cells #[Value.bool nx, Value.slice ao len cap, Value.int IntKind.i64 ex] 65)).alloc (Obj.cells #[Value.bool ny, Value.slice bo blen bcap, Value.int IntKind.i64 ey] 65)).heap[w.heap.size + 1]? = some (Obj.cells #[Value.bool ny, Value.slice bo blen bcap, Value.int IntKind.i64 ey] 65) := by
    have h := heap_alloc_new (w.alloc (Obj.cells #[Value.bool nx, Value.slice ao len cap, Value.int IntKind.i64 ex] 65)) (Obj.cells #[Value.bool ny, Value.slice bo blen bcap, Value.int IntKind.i64 ey] 65)
    rw [show (w.alloc (Obj.cells #[Value.bool nx, Value.slice ao len cap, Value.int IntKind.i64 ex] 65)).heap.size = w.heap.size + 1 by simp] at h
    exact h
   have HBW : Hid (Below w.heap.size w ((w.alloc (Obj.cells #[Value.bool nx, Value.slice ao len cap, Value.int IntKind.i64 ex] 65)).alloc (Obj.cells #[Value.bool ny, Value.slice bo blen bcap, Value.int IntKind.i64 ey] 65))) := HB.out _ _
   have HZ : Hid (((w.alloc (Obj.cells #[Value.bool nx, Value.slice ao len cap, Value.int IntKind.i64 ex] 65)).alloc (Obj.cells #[Value.bool ny, Value.slice bo blen bcap, Value.int IntKind.i64 ey] 65)).heap.size = w.heap.size + 2) := by unfold Hid; simp
   obtain ⟨x0, x1, x2⟩ := three_cells q0
   obtain ⟨y0, y1, y2⟩ := three_cells q1
   clear q0 q1 HB
   by_cases h2 : ey < ex
   ·obtain ⟨d, hd⟩ : ∃ d : Nat, (ex - ey).toNat = d := ⟨_, rfl⟩
    have hdi : ex - ey = (d : Int) := by omega
    have hwr : IntKind.i64.wrap (d : Int) = (d : Int) := by rw [IntKind.wrap_i64]; omega
    go_enter Tryz.func48, Tryz.ntmps48
    go_wp2_with fail
    generalize ((w.alloc (Obj.cells #[Value.bool nx, Value.slice ao len cap, Value.int IntKind.i64 ex] 65)).alloc (Obj.cells #[Value.bool ny, Value.slice bo blen bcap, Value.int IntKind.i64 ey] 65)) = wa at *
    go_region_held3 (fun w' => w'.cell? ⟨w.heap.size, 1, none⟩ = some (.slice ao len cap) /\ w'.cell? ⟨w.heap.size, 2, none⟩ = some (.int .i64 ex) /\ w'.cell? ⟨w.heap.size + 1, 1, none⟩ = some (.slice bo blen bcap) /\ w'.cell? ⟨w.heap.size + 1, 2, none⟩ = some (.int .i64 ey)) (go_keep)
     (first | (go_at_call 77; refine (left_any ao len cap xs d _ ?_ (by omega) hl).mono ?_; exact HR.out.later HBW.out.drew; rintro ee ww ⟨ao', k, cap', zs, rfl, hr3, hn3, hd3, hb3, hk3⟩; have z1 := (hb3.cell (p := ⟨w.heap.size, 1, none⟩) (by show w.heap.size < wa.heap.size; rw [HZ.out]; omega)).trans x1; have z2 := (hb3.cell (p := ⟨w.heap.size, 2, none⟩) (by show w.heap.size < wa.heap.size; rw [HZ.out]; omega)).trans x2; have z3 := (hb3.cell (p := ⟨w.heap.size + 1, 1, none⟩) (by show w.heap.size + 1 < wa.heap.size; rw [HZ.out]; omega)).trans y1; have z4 := (hb3.cell (p := ⟨w.heap.size + 1, 2, none⟩) (by show w.heap.size + 1 < wa.heap.size; rw [HZ.out]; omega)).trans y2; have HB3 : Hid _ := hb3; have HRD : Hid _ := hr3; clear hb3 hr3))
    all_goals go_wp2_with fail
    all_goals
     have HBF : Hid (Below w.heap.size w ww) := HBW.out.drew.trans (HB3.out.mono (by show w.heap.size <= wa.heap.size; rw [HZ.out]; omega))
     go_ret3
     exact ⟨ao', k, cap', zs, bo, blen, bcap, ys, _, my, ey, rfl, HRD.out, HR2.out.later HBF.out, hn3, hnm2, rfl, hm2, .inr (.inr ⟨h0, h1, by omega, by rw [hd3, hm, hd], by rw [show (ey - ey).toNat = 0 by omega, Nat.pow_zero, Nat.mul_one]⟩), HBF.out⟩
   ·obtain ⟨d, hd⟩ : ∃ d : Nat, (ey - ex).toNat = d := ⟨_, rfl⟩
    have hdi : ey - ex = (d : Int) := by omega
    have hwr : IntKind.i64.wrap (d : Int) = (d : Int) := by rw [IntKind.wrap_i64]; omega
    go_enter Tryz.func48, Tryz.ntmps48
    go_wp2_with fail
    generalize ((w.alloc (Obj.cells #[Value.bool nx, Value.slice ao len cap, Value.int IntKind.i64 ex] 65)).alloc (Obj.cells #[Value.bool ny, Value.slice bo blen bcap, Value.int IntKind.i64 ey] 65)) = wa at *
    go_region_held3 (fun w' => w'.cell? ⟨w.heap.size, 1, none⟩ = some (.slice ao len cap) /\ w'.cell? ⟨w.heap.size, 2, none⟩ = some (.int .i64 ex) /\ w'.cell? ⟨w.heap.size + 1, 1, none⟩ = some (.slice bo blen bcap) /\ w'.cell? ⟨w.heap.size + 1, 2, none⟩ = some (.int .i64 ey)) (go_keep)
     (first | (go_at_call 77; refine (left_any bo blen bcap ys d _ ?_ (by omega) hl2).mono ?_; exact HR2.out.later HBW.out.drew; rintro ee ww ⟨ao', k, cap', zs, rfl, hr3, hn3, hd3, hb3, hk3⟩; have z1 := (hb3.cell (p := ⟨w.heap.size, 1, none⟩) (by show w.heap.size < wa.heap.size; rw [HZ.out]; omega)).trans x1; have z2 := (hb3.cell (p := ⟨w.heap.size, 2, none⟩) (by show w.heap.size < wa.heap.size; rw [HZ.out]; omega)).trans x2; have z3 := (hb3.cell (p := ⟨w.heap.size + 1, 1, none⟩) (by show w.heap.size + 1 < wa.heap.size; rw [HZ.out]; omega)).trans y1; have z4 := (hb3.cell (p := ⟨w.heap.size + 1, 2, none⟩) (by show w.heap.size + 1 < wa.heap.size; rw [HZ.out]; omega)).trans y2; have HB3 : Hid _ := hb3; have HRD : Hid _ := hr3; clear hb3 hr3))
    all_goals go_wp2_with fail
    all_goals
     have HBF : Hid (Below w.heap.size w ww) := HBW.out.drew.trans (HB3.out.mono (by show w.heap.size <= wa.heap.size; rw [HZ.out]; omega))
     go_ret3
     exact ⟨ao, len, cap, xs, ao', k, cap', zs, mx, _, ex, rfl, HR.out.later HBF.out, HRD.out, hnm, hn3, hm, rfl, .inr (.inr ⟨h0, h1, by omega, by rw [show (ex - ex).toNat = 0 by omega, Nat.pow_zero, Nat.mul_one], by rw [hd3, hm2, hd]⟩), HBF.out⟩
def NumZ (w : World) (v : Value) (s : Nat) (T : Int) (z : Int) : Prop := ∃ neg m e, NumV w v neg m e /\ -(s : Int) <= e /\ (bl m : Int) + e <= T /\ zv s neg m e = z
theorem NumZ.later {w w' : World} {v : Value} {s : Nat} {T z : Int} (h : NumZ w v s T z) (hb : Below w.heap.size w w') : NumZ w' v s T z := by
 obtain ⟨neg, m, e, h1, h2⟩ := h
 exact ⟨neg, m, e, h1.later hb, h2⟩
theorem NumZ.more {w : World} {v : Value} {s : Nat} {T z : Int} (h : NumZ w v s T z) (k : Nat) : NumZ w v (s + k) T (z * ((2 ^ k : Nat) : Int)) := by
 obtain ⟨neg, m, e, h1, h2, h3, h4⟩ := h
 exact ⟨neg, m, e, h1, by omega, h3, by rw [zv_more k neg m h2, h4]⟩
theorem NumZ.mono {w : World} {v : Value} {s : Nat} {T T' z : Int} (h : NumZ w v s T z) (hT : T <= T') : NumZ w v s T' z := by
 obtain ⟨neg, m, e, h1, h2, h3, h4⟩ := h
 exact ⟨neg, m, e, h1, h2, by omega, h4⟩
def PlusOk (nx : Bool) (mx : Nat) (ex : Int) (ny : Bool) (my : Nat) (ey : Int) (neg : Bool) (m : Nat) (e : Int) : Prop :=
 ∀ (s : Nat) (T : Int), -(s : Int) <= ex -> -(s : Int) <= ey -> (bl mx : Int) + ex <= T -> (bl my : Int) + ey <= T -> 0 <= T -> -(s : Int) <= e /\ (bl m : Int) + e <= T + 1 /\ zv s neg m e = zv s nx mx ex + zv s ny my ey
theorem plus_left {nx : Bool} {mx : Nat} {ex : Int} {ny : Bool} {my : Nat} {ey : Int} (h : mx = 0) : PlusOk nx mx ex ny my ey ny my ey := by
 intro s T h1 h2 h3 h4 h5
 refine ⟨h2, by omega, ?_⟩
 rw [h, zv_zero, Int.zero_add]
theorem plus_right {nx : Bool} {mx : Nat} {ex : Int} {ny : Bool} {my : Nat} {ey : Int} (h : my = 0) : PlusOk nx mx ex ny my ey nx mx ex := by
 intro s T h1 h2 h3 h4 h5
 refine ⟨h1, by omega, ?_⟩
 rw [h, zv_zero, Int.add_zero]
theorem level_zv {mx : Nat} {ex : Int} {my : Nat} {ey : Int} {A B : Nat} {e : Int} (hL : LevelOf mx ex my ey A B e) (hx : mx ≠ 0) (hy : my ≠ 0) (s : Nat) (T : Int) (h1 : -(s : Int) <= ex) (h2 : -(s : Int) <= ey) (h3 : (bl mx : Int) + ex <= T) (h4 : (bl my : Int) + ey <= T) :
  -(s : Int) <= e /\ (∀ g, zv s g mx ex = zv s g A e) /\ (∀ g, zv s g my ey = zv s g B e) /\ (bl A : Int) + e <= T /\ (bl B : Int) + e <= T := by
 rcases hL with ⟨h, -⟩ | ⟨-, h, -⟩ | ⟨-, -, he, hA, hB⟩
 ·exact absurd h hx
 ·exact absurd h hy
 ·have b1 := bl_mul_pow mx (ex - e).toNat
  have b2 := bl_mul_pow my (ey - e).toNat
  rw [<- hA] at b1
  rw [<- hB] at b2
  refine ⟨by omega, fun g => ?_, fun g => ?_, by omega, by omega⟩
  ·rw [hA]; exact zv_down g mx (by omega) (by omega)
  ·rw [hB]; exact zv_down g my (by omega) (by omega)
theorem plus_same {g : Bool} {mx : Nat} {ex : Int} {my : Nat} {ey : Int} {A B : Nat} {e : Int} (hL : LevelOf mx ex my ey A B e) (hx : mx ≠ 0) (hy : my ≠ 0) : PlusOk g mx ex g my ey g (A + B) e := by
 intro s T h1 h2 h3 h4 h5
 obtain ⟨k1, k2, k3, k4, k5⟩ := level_zv hL hx hy s T h1 h2 h3 h4
 have := bl_add A B
 exact ⟨k1, by omega, by rw [k2, k3, zv_add]⟩
theorem plus_ge {g : Bool} {mx : Nat} {ex : Int} {my : Nat} {ey : Int} {A B : Nat} {e : Int} (hL : LevelOf mx ex my ey A B e) (hx : mx ≠ 0) (hy : my ≠ 0) (hB : B <= A) : PlusOk g mx ex (!g) my ey g (A - B) e := by
 intro s T h1 h2 h3 h4 h5
 obtain ⟨k1, k2, k3, k4, k5⟩ := level_zv hL hx hy s T h1 h2 h3 h4
 have := bl_mono (show A - B <= A by omega)
 exact ⟨k1, by omega, by rw [k2, k3, zv_sub _ _ _ hB]⟩
theorem plus_lt {g : Bool} {mx : Nat} {ex : Int} {my : Nat} {ey : Int} {A B : Nat} {e : Int} (hL : LevelOf mx ex my ey A B e) (hx : mx ≠ 0) (hy : my ≠ 0) (hB : A <= B) : PlusOk g mx ex (!g) my ey (!g) (B - A) e := by
 intro s T h1 h2 h3 h4 h5
 obtain ⟨k1, k2, k3, k4, k5⟩ := level_zv hL hx hy s T h1 h2 h3 h4
 have := bl_mono (show B - A <= B by omega)
 exact ⟨k1, by omega, by rw [k2, k3, zv_sub _ _ _ hB, Bool.not_not, Int.add_comm]⟩
theorem plus_eq {g : Bool} {mx : Nat} {ex : Int} {my : Nat} {ey : Int} {A B : Nat} {e : Int} (hL : LevelOf mx ex my ey A B e) (hx : mx ≠ 0) (hy : my ≠ 0) (hB : A = B) : PlusOk g mx ex (!g) my ey false 0 0 := by
 intro s T h1 h2 h3 h4 h5
 obtain ⟨k1, k2, k3, k4, k5⟩ := level_zv hL hx hy s T h1 h2 h3 h4
 refine ⟨by omega, by rw [bl_zero]; omega, ?_⟩
 rw [k2, k3, hB, zv_zero, zv_not]; omega
theorem level_ne {mx : Nat} {ex : Int} {my : Nat} {ey : Int} {A B : Nat} {e : Int} (hL : LevelOf mx ex my ey A B e) (hx : mx ≠ 0) (hy : my ≠ 0) : 0 < A /\ 0 < B := by
 rcases hL with ⟨h, -⟩ | ⟨-, h, -⟩ | ⟨-, -, he, hA, hB⟩
 ·exact absurd h hx
 ·exact absurd h hy
 ·rw [hA, hB]; exact ⟨Nat.mul_pos (by omega) (Nat.two_pow_pos _), Nat.mul_pos (by omega) (Nat.two_pow_pos _)⟩
def PlusRes (nx : Bool) (mx : Nat) (ex : Int) (ny : Bool) (my : Nat) (ey : Int) (w : World) (e' : Ending) (w' : World) : Prop :=
 ∃ v' neg m e, e' = .returned v' /\ NumV w' v' neg m e /\ (PlusOk nx mx ex ny my ey neg m e /\ (m = 0 -> (mx = 0 -> ex = 0) -> (my = 0 -> ey = 0) -> e = 0)) /\ Below w.heap.size w w'
theorem alloc3_facts (w : World) (o1 o2 o3 : Obj) : (((w.alloc o1).alloc o2).alloc o3).heap[w.heap.size]? = some o1 /\ (((w.alloc o1).alloc o2).alloc o3).heap[w.heap.size + 1]? = some o2 /\ (((w.alloc o1).alloc o2).alloc o3).heap[w.heap.size + 1 + 1]? = some o3 /\ (((w.alloc o1).alloc o2).alloc o3).heap.size = w.heap.size + 3 /\ Below w.heap.size w (((w.alloc o1).alloc o2).alloc o3) := by
 have e1 := heap_alloc_new w o1
 have e2 := heap_alloc_new (w.alloc o1) o2
 have e3 := heap_alloc_new ((w.alloc o1).alloc o2) o3
 rw [show (w.alloc o1).heap.size = w.heap.size + 1 by simp] at e2
 rw [show ((w.alloc o1).alloc o2).heap.size = w.heap.size + 1 + 1 by simp] at e3
 refine ⟨?_, ?_, e3, by simp, (((Below.refl _ _).alloc (Nat.le_refl _) _).alloc (by simp) _).alloc (by simp; omega) _⟩
 ·rw [Below.heap_alloc _ _ _ (by simp; omega), Below.heap_alloc _ _ _ (by simp), e1]
 ·rw [Below.heap_alloc _ _ _ (by simp), e2]
theorem level_bounds {mx : Nat} {ex : Int} {my : Nat} {ey : Int} {A B : Nat} {e : Int} (hL : LevelOf mx ex my ey A B e) (hex : -20000 <= ex /\ ex <= 20000) (hey : -20000 <= ey /\ ey <= 20000) (hbx : bl mx <= 40000) (hby : bl my <= 40000) :
  bl A <= 80000 /\ bl B <= 80000 /\ (mx = 0 -> A = 0) /\ (mx ≠ 0 -> A ≠ 0) /\ (mx ≠ 0 -> my = 0 -> B = 0) /\ (mx ≠ 0 -> my ≠ 0 -> B ≠ 0) := by
 rcases hL with ⟨h, hA, hB, he⟩ | ⟨h, h2, hA, hB, he⟩ | ⟨h1, h2, he, hA, hB⟩
 ·subst hA hB
  exact ⟨by rw [bl_zero]; omega, by omega, fun _ => rfl, fun c => absurd h c, fun c => absurd h c, fun c => absurd h c⟩
 ·subst hA hB
  exact ⟨by omega, by rw [bl_zero]; omega, fun c => c, fun c => c, fun _ _ => rfl, fun _ c => absurd h2 c⟩
 ·have b1 := bl_mul_pow mx (ex - e).toNat
  have b2 := bl_mul_pow my (ey - e).toNat
  rw [<- hA] at b1
  rw [<- hB] at b2
  refine ⟨by omega, by omega, fun c => absurd c h1, fun _ => ?_, fun _ c => absurd c h2, fun _ _ => ?_⟩
  ·rw [hA]; exact Nat.mul_ne_zero h1 (by have := Nat.two_pow_pos (ex - e).toNat; omega)
  ·rw [hB]; exact Nat.mul_ne_zero h2 (by have := Nat.two_pow_pos (ey - e).toNat; omega)
theorem out_facts {w w2 w4 : World} {nx : Bool} {e : Int} (M : Value) (hsz : w.heap.size + 3 <= w2.heap.size) (q2 : w2.heap[w.heap.size + 1 + 1]? = some (Obj.cells #[Value.bool false, Value.slice none 0 0, Value.int IntKind.i64 0] 65)) (hb4 : Below (w2.alloc (Obj.cells #[Value.bool nx, Value.slice none 0 0, Value.int IntKind.i64 e] 65)).heap.size (w2.alloc (Obj.cells #[Value.bool nx, Value.slice none 0 0, Value.int IntKind.i64 e] 65)) w4) :
  w4.heap[w2.heap.size]? = some (Obj.cells #[Value.bool nx, Value.slice none 0 0, Value.int IntKind.i64 e] 65) /\ w4.heap[w.heap.size + 1 + 1]? = some (Obj.cells #[Value.bool false, Value.slice none 0 0, Value.int IntKind.i64 0] 65) ∧
  (w4.setCell ⟨w2.heap.size, 1, none⟩ M).heap[w2.heap.size]? = some (Obj.cells #[Value.bool nx, M, Value.int IntKind.i64 e] 65) /\ (w4.setCell ⟨w2.heap.size, 1, none⟩ M).heap[w.heap.size + 1 + 1]? = some (Obj.cells #[Value.bool false, Value.slice none 0 0, Value.int IntKind.i64 0] 65) := by
 have h1 : w4.heap[w2.heap.size]? = some (Obj.cells #[Value.bool nx, Value.slice none 0 0, Value.int IntKind.i64 e] 65) := (hb4.block w2.heap.size (by simp)).trans (heap_alloc_new w2 _)
 have h2 : w4.heap[w.heap.size + 1 + 1]? = some (Obj.cells #[Value.bool false, Value.slice none 0 0, Value.int IntKind.i64 0] 65) := by
  rw [hb4.block (w.heap.size + 1 + 1) (by simp; omega), Below.heap_alloc _ _ _ (by omega)]; exact q2
 refine ⟨h1, h2, heap_setCell_same _ _ 1 _ _ M h1, ?_⟩
 rw [heap_setCell_other _ _ _ _ (by show w.heap.size + 1 + 1 ≠ w2.heap.size; omega)]; exact h2
theorem plusV_any (v u : Value) (nx ny : Bool) (mx my : Nat) (ex ey : Int) (w : World) (hx : NumV w v nx mx ex) (hy : NumV w u ny my ey) (hex : -20000 <= ex /\ ex <= 20000) (hey : -20000 <= ey /\ ey <= 20000) (hbx : bl mx <= 40000) (hby : bl my <= 40000) :
  Calls Tryz.prog 28 #[v, u] w fun e' w' => PlusRes nx mx ex ny my ey w e' w' := by
 obtain ⟨ao, len, cap, xs, rfl, hr, hnm, hm⟩ := hx
 obtain ⟨bo, blen, bcap, ys, rfl, hr2, hnm2, hm2⟩ := hy
 obtain ⟨p0, p1, p2, pz, pb⟩ := alloc3_facts w (Obj.cells #[Value.bool nx, Value.slice ao len cap, Value.int IntKind.i64 ex] 65) (Obj.cells #[Value.bool ny, Value.slice bo blen bcap, Value.int IntKind.i64 ey] 65) (Obj.cells #[Value.bool false, Value.slice none 0 0, Value.int IntKind.i64 0] 65)
 have P0 : Hid _ := p0
 have P1 : Hid _ := p1
 have P2 : Hid _ := p2
 have PZ : Hid _ := pz
 have PB : Hid _ := pb
 have HR : Hid _ := hr
 have HR2 : Hid _ := hr2
 clear p0 p1 p2 pz pb hr hr2
 go_enter Tryz.func28, Tryz.ntmps28
 go_wp2_with fail
 refine (level_any _ _ nx ny mx my ex ey _ ⟨ao, len, cap, xs, rfl, HR.out.later PB.out, hnm, hm⟩ ⟨bo, blen, bcap, ys, rfl, HR2.out.later PB.out, hnm2, hm2⟩ hex hey (by omega) (by omega)).mono ?_
 rintro e2 w2 ⟨a1, l1, c1, xs1, a2, l2, c2, ys1, A, B, e, rfl, r1, r2, n1, n2, d1, d2, hL, hb2⟩
 have q0 := (hb2.block w.heap.size (by rw [PZ.out]; omega)).trans P0.out
 have q1 := (hb2.block (w.heap.size + 1) (by rw [PZ.out]; omega)).trans P1.out
 have q2 := (hb2.block (w.heap.size + 1 + 1) (by rw [PZ.out]; omega)).trans P2.out
 have hsz : w.heap.size + 3 <= w2.heap.size := by have := hb2.size; rw [PZ.out] at this; exact this
 have HB2 : Hid (Below w.heap.size w w2) := PB.out.trans (hb2.mono (by rw [PZ.out]; omega))
 have R1 : Hid _ := r1
 have R2 : Hid _ := r2
 have HL : Hid (LevelOf mx ex my ey A B e) := hL
 obtain ⟨bA, bB, zA, nA, zB, nB⟩ := level_bounds hL hex hey hbx hby
 have hl1 : l1 <= 10000 := by have := len_bl r1.length r1.lt n1; rw [d1] at this; omega
 have hl2 : l2 <= 10000 := by have := len_bl r2.length r2.lt n2; rw [d2] at this; omega
 have lz1 := len_zero r1.length r1.lt n1
 have lz2 := len_zero r2.length r2.lt n2
 rw [d1] at lz1
 rw [d2] at lz2
 clear r1 r2 hL hb2
 have x0 := (three_cells q0).1
 have HB3 : Hid (Below w.heap.size w (w2.alloc (Obj.cells #[Value.bool nx, Value.slice none 0 0, Value.int IntKind.i64 e] 65))) := HB2.out.alloc HB2.out.size _
 have o0 : (w2.alloc (Obj.cells #[Value.bool nx, Value.slice none 0 0, Value.int IntKind.i64 e] 65)).heap[w.heap.size]? = some (Obj.cells #[Value.bool nx, Value.slice ao len cap, Value.int IntKind.i64 ex] 65) := by rw [Below.heap_alloc _ _ _ (by omega)]; exact q0
 have o1 : (w2.alloc (Obj.cells #[Value.bool nx, Value.slice none 0 0, Value.int IntKind.i64 e] 65)).heap[w.heap.size + 1]? = some (Obj.cells #[Value.bool ny, Value.slice bo blen bcap, Value.int IntKind.i64 ey] 65) := by rw [Below.heap_alloc _ _ _ (by omega)]; exact q1
 have o2 : (w2.alloc (Obj.cells #[Value.bool nx, Value.slice none 0 0, Value.int IntKind.i64 e] 65)).heap[w.heap.size + 1 + 1]? = some (Obj.cells #[Value.bool false, Value.slice none 0 0, Value.int IntKind.i64 0] 65) := by rw [Below.heap_alloc _ _ _ (by omega)]; exact q2
 obtain ⟨u0, u1, u2⟩ := three_cells o0
 obtain ⟨y0, y1, y2⟩ := three_cells o1
 obtain ⟨z0, z1, z2⟩ := three_cells o2
 have fz := fun j => frozen_of_row _ _ j _ _ o2
 have O2 : Hid _ := o2
 have hw2 : (w2.alloc (Obj.cells #[Value.bool nx, Value.slice none 0 0, Value.int IntKind.i64 e] 65)).heap.size = w2.heap.size + 1 := by simp
 have Q0 : Hid _ := q0
 have Q1 : Hid _ := q1
 have Q2 : Hid _ := q2
 clear q0 q1 q2 o0 o1 o2 P0 P1 P2 PZ PB
 by_cases h0 : mx = 0
 ·have t1 : ((l1 : Int) == 0) = true := by rw [beq_iff_eq]; have := lz1.2 (zA h0); omega
  go_wp2_with fail
  refine bodyPost_ret (v := .agg #[.bool ny, .slice bo blen bcap, .int .i64 ey]) (res_num _ 4 (by kernel_rfl) _ _ (w.heap.size + 1 + 1) _ _ _ (by rfl) (set3_heap _ _ _ O2.out)) rfl ⟨_, ny, my, ey, rfl, ?_, ⟨plus_left h0, fun c _ hy => hy c⟩, ?_⟩
  ·exact ⟨bo, blen, bcap, ys, rfl, rd4_set3 _ _ _ ⟨_, _, _, _, _, O2.out⟩ (HR2.out.later HB3.out), hnm2, hm2⟩
  ·exact ((HB3.out.setCell (by show w.heap.size <= w.heap.size + 1 + 1; omega) _).setCell (by show w.heap.size <= w.heap.size + 1 + 1; omega) _).setCell (by show w.heap.size <= w.heap.size + 1 + 1; omega) _
 by_cases h1 : my = 0
 ·have t1 : ((l1 : Int) == 0) = false := by rw [beq_eq_false_iff_ne]; have := nA h0; omega
  have t2 : ((l2 : Int) == 0) = true := by rw [beq_iff_eq]; have := lz2.2 (zB h0 h1); omega
  go_wp2_with fail
  refine bodyPost_ret (v := .agg #[.bool nx, .slice ao len cap, .int .i64 ex]) (res_num _ 4 (by kernel_rfl) _ _ (w.heap.size + 1 + 1) _ _ _ (by rfl) (set3_heap _ _ _ O2.out)) rfl ⟨_, nx, mx, ex, rfl, ?_, ⟨plus_right h1, fun c hx _ => hx c⟩, ?_⟩
  ·exact ⟨ao, len, cap, xs, rfl, rd4_set3 _ _ _ ⟨_, _, _, _, _, O2.out⟩ (HR.out.later HB3.out), hnm, hm⟩
  ·exact ((HB3.out.setCell (by show w.heap.size <= w.heap.size + 1 + 1; omega) _).setCell (by show w.heap.size <= w.heap.size + 1 + 1; omega) _).setCell (by show w.heap.size <= w.heap.size + 1 + 1; omega) _
 have t1 : ((l1 : Int) == 0) = false := by rw [beq_eq_false_iff_ne]; have := nA h0; omega
 have t2 : ((l2 : Int) == 0) = false := by rw [beq_eq_false_iff_ne]; have := nB h0 h1; omega
 have R1' : Hid _ := R1.out.later ((Below.refl _ _).alloc (Nat.le_refl _) (Obj.cells #[Value.bool nx, Value.slice none 0 0, Value.int IntKind.i64 e] 65))
 have R2' : Hid _ := R2.out.later ((Below.refl _ _).alloc (Nat.le_refl _) (Obj.cells #[Value.bool nx, Value.slice none 0 0, Value.int IntKind.i64 e] 65))
 by_cases hs : nx = ny
 ·subst hs
  have t3 : (nx == nx) = true := by simp
  go_wp2_with fail
  refine (plus_any a1 l1 c1 xs1 a2 l2 c2 ys1 _ R1'.out R2'.out hl1 hl2).mono ?_
  rintro e4 w4 ⟨ao', k, cap', zs, rfl, r4, n4, d4, hb4, k4⟩
  have hk : ((k : Int) == 0) = false := by
   rw [beq_eq_false_iff_ne]; have := len_zero r4.length r4.lt n4; rw [d4, d1] at this; have := nA h0; omega
  obtain ⟨g1, g2, g3, g4⟩ := out_facts (Value.slice ao' k cap') hsz Q2.out hb4
  obtain ⟨c10, c11, c12⟩ := three_cells g1
  obtain ⟨c40, c41, c42⟩ := three_cells g4
  have f1 := fun j => frozen_of_row _ _ j _ _ g1
  obtain ⟨c30, c31, c32⟩ := three_cells g3
  have f4 := fun j => frozen_of_row _ _ j _ _ g4
  have HB5 : Hid (Below w.heap.size w (w4.setCell ⟨w2.heap.size, 1, none⟩ (Value.slice ao' k cap'))) := (HB3.out.trans (hb4.mono (by rw [hw2]; have := HB2.out.size; omega))).setCell (by show w.heap.size <= w2.heap.size; omega) _
  have R5 : Hid (Rd4 (w4.setCell ⟨w2.heap.size, 1, none⟩ (Value.slice ao' k cap')) ao' k cap' zs) := rd4_other (w := w4) (B := w2.heap.size) ⟨_, _, _, _, _, g1⟩ (fun b hb => heap_setCell_other _ _ _ _ hb) r4
  have G4 : Hid _ := g4
  clear g1 g2 g3 g4 r4 hb4
  go_wp2_with fail
  refine bodyPost_ret (v := .agg #[.bool nx, .slice ao' k cap', .int .i64 e]) (res_num _ 4 (by kernel_rfl) _ _ (w.heap.size + 1 + 1) _ _ _ (by rfl) (set3_heap _ _ _ G4.out)) rfl ⟨_, nx, A + B, e, rfl, ?_, ⟨plus_same HL.out h0 h1, fun c _ _ => absurd c (by have := level_ne HL.out h0 h1; omega)⟩, ?_⟩
  ·exact ⟨ao', k, cap', zs, rfl, rd4_set3 _ _ _ ⟨_, _, _, _, _, G4.out⟩ R5.out, n4, by rw [d4, d1, d2]⟩
  ·exact ((HB5.out.setCell (by show w.heap.size <= w.heap.size + 1 + 1; omega) _).setCell (by show w.heap.size <= w.heap.size + 1 + 1; omega) _).setCell (by show w.heap.size <= w.heap.size + 1 + 1; omega) _
 have hny : ny = !nx := by cases nx <;> cases ny <;> simp at hs ⊢
 subst hny
 have t3 : (nx == !nx) = false := by cases nx <;> rfl
 by_cases hAB : B <= A
 ·have hc4 : 0 <= cmpN A B := by unfold cmpN; rw [if_neg (by omega)]; split <;> omega
  have hll : l2 <= l1 := by
   rcases Nat.lt_or_ge l1 l2 with h | h
   ·have := shorter_lt R1.out.lt R2.out.lt n2 (by rw [R1.out.length, R2.out.length]; exact h); omega
   ·exact h
  go_wp2_with fail
  refine (cmp_any a1 l1 c1 xs1 a2 l2 c2 ys1 _ R1'.out R2'.out n1 n2).mono ?_
  rintro e3 w3 ⟨rfl, hb3⟩
  rw [d1, d2]
  have R1'' : Hid _ := R1'.out.later hb3
  have R2'' : Hid _ := R2'.out.later hb3
  have hb3z := hb3.size
  have HBW : Hid _ := hb3
  clear hb3
  go_wp2_with fail
  refine (minus_any a1 l1 c1 xs1 a2 l2 c2 ys1 _ R1''.out R2''.out hl1 hll (by rw [d1, d2]; exact hAB)).mono ?_
  rintro e4 w4 ⟨ao', k, cap', zs, rfl, r4, n4, d4, hb4', k4⟩
  have hb4 : Below (w2.alloc (Obj.cells #[Value.bool nx, Value.slice none 0 0, Value.int IntKind.i64 e] 65)).heap.size (w2.alloc (Obj.cells #[Value.bool nx, Value.slice none 0 0, Value.int IntKind.i64 e] 65)) w4 := HBW.out.trans (hb4'.mono hb3z)
  clear hb4'
  have lz4 := len_zero r4.length r4.lt n4
  rw [d4, d1, d2] at lz4
  obtain ⟨g1, g2, g3, g4⟩ := out_facts (Value.slice ao' k cap') hsz Q2.out hb4
  obtain ⟨c10, c11, c12⟩ := three_cells g1
  obtain ⟨c40, c41, c42⟩ := three_cells g4
  have f1 := fun j => frozen_of_row _ _ j _ _ g1
  obtain ⟨c30, c31, c32⟩ := three_cells g3
  have f4 := fun j => frozen_of_row _ _ j _ _ g4
  have HB5 : Hid (Below w.heap.size w (w4.setCell ⟨w2.heap.size, 1, none⟩ (Value.slice ao' k cap'))) := (HB3.out.trans (hb4.mono (by rw [hw2]; have := HB2.out.size; omega))).setCell (by show w.heap.size <= w2.heap.size; omega) _
  have R5 : Hid (Rd4 (w4.setCell ⟨w2.heap.size, 1, none⟩ (Value.slice ao' k cap')) ao' k cap' zs) := rd4_other (w := w4) (B := w2.heap.size) ⟨_, _, _, _, _, g1⟩ (fun b hb => heap_setCell_other _ _ _ _ hb) r4
  have G4 : Hid _ := g4
  clear g1 g2 g3 g4 r4 hb4
  by_cases heq : A = B
  ·have hk : ((k : Int) == 0) = true := by rw [beq_iff_eq]; omega
   go_wp2_with fail
   refine bodyPost_ret (v := .agg #[.bool false, .slice none 0 0, .int .i64 0]) (res_num _ 4 (by kernel_rfl) _ _ (w.heap.size + 1 + 1) _ _ _ (by rfl) (set3_heap _ _ _ G4.out)) rfl ⟨_, false, 0, 0, rfl, ?_, ⟨plus_eq HL.out h0 h1 heq, fun _ _ _ => rfl⟩, ?_⟩
   ·exact ⟨none, 0, 0, [], rfl, rd4_none' _, .inl rfl, rfl⟩
   ·exact ((HB5.out.setCell (by show w.heap.size <= w.heap.size + 1 + 1; omega) _).setCell (by show w.heap.size <= w.heap.size + 1 + 1; omega) _).setCell (by show w.heap.size <= w.heap.size + 1 + 1; omega) _
  ·have hk : ((k : Int) == 0) = false := by rw [beq_eq_false_iff_ne]; omega
   go_wp2_with fail
   refine bodyPost_ret (v := .agg #[.bool nx, .slice ao' k cap', .int .i64 e]) (res_num _ 4 (by kernel_rfl) _ _ (w.heap.size + 1 + 1) _ _ _ (by rfl) (set3_heap _ _ _ G4.out)) rfl ⟨_, nx, A - B, e, rfl, ?_, ⟨plus_ge HL.out h0 h1 hAB, fun c _ _ => absurd c (by omega)⟩, ?_⟩
   ·exact ⟨ao', k, cap', zs, rfl, rd4_set3 _ _ _ ⟨_, _, _, _, _, G4.out⟩ R5.out, n4, by rw [d4, d1, d2]⟩
   ·exact ((HB5.out.setCell (by show w.heap.size <= w.heap.size + 1 + 1; omega) _).setCell (by show w.heap.size <= w.heap.size + 1 + 1; omega) _).setCell (by show w.heap.size <= w.heap.size + 1 + 1; omega) _
 ·have hc4 : cmpN A B = -1 := by unfold cmpN; rw [if_pos (by omega)]
  have hll : l1 <= l2 := by
   rcases Nat.lt_or_ge l2 l1 with h | h
   ·have := shorter_lt R2.out.lt R1.out.lt n1 (by rw [R1.out.length, R2.out.length]; exact h); omega
   ·exact h
  go_wp2_with fail
  refine (cmp_any a1 l1 c1 xs1 a2 l2 c2 ys1 _ R1'.out R2'.out n1 n2).mono ?_
  rintro e3 w3 ⟨rfl, hb3⟩
  rw [d1, d2, hc4]
  have R1'' : Hid _ := R1'.out.later hb3
  have R2'' : Hid _ := R2'.out.later hb3
  have hb3z := hb3.size
  have HBW : Hid _ := hb3
  have s1 := (hb3.block w2.heap.size (by simp)).trans (heap_alloc_new w2 _)
  have s2 := (hb3.block (w.heap.size + 1) (by simp; omega)).trans ((Below.heap_alloc w2 _ _ (by omega)).trans Q1.out)
  obtain ⟨s10, s11, s12⟩ := three_cells s1
  obtain ⟨s20, s21, s22⟩ := three_cells s2
  have fs := fun j => frozen_of_row _ _ j _ _ s1
  have S3 : Hid ((w3.setCell ⟨w2.heap.size, 0, none⟩ (Value.bool (!nx))).heap[w2.heap.size]? = some (Obj.cells #[Value.bool (!nx), Value.slice none 0 0, Value.int IntKind.i64 e] 65)) := heap_setCell_same _ _ 0 _ _ _ s1
  have S1 : Hid _ := s1
  clear hb3 s1 s2
  have SB : Hid (Below w.heap.size w (w3.setCell ⟨w2.heap.size, 0, none⟩ (Value.bool (!nx)))) := (HB3.out.trans (HBW.out.mono (by rw [hw2]; have := HB2.out.size; omega))).setCell (by show w.heap.size <= w2.heap.size; omega) _
  have S4 : Hid ((w3.setCell ⟨w2.heap.size, 0, none⟩ (Value.bool (!nx))).heap[w.heap.size + 1 + 1]? = some (Obj.cells #[Value.bool false, Value.slice none 0 0, Value.int IntKind.i64 0] 65)) := by
   unfold Hid
   rw [heap_setCell_other _ _ _ _ (by show w.heap.size + 1 + 1 ≠ w2.heap.size; omega), HBW.out.block (w.heap.size + 1 + 1) (by simp; omega), Below.heap_alloc _ _ _ (by omega)]; exact Q2.out
  have T1 : Hid _ := rd4_other (w := w3) (w' := w3.setCell ⟨w2.heap.size, 0, none⟩ (Value.bool (!nx))) (B := w2.heap.size) ⟨_, _, _, _, _, S1.out⟩ (fun b hb => heap_setCell_other _ _ _ _ hb) R1''.out
  have T2 : Hid _ := rd4_other (w := w3) (w' := w3.setCell ⟨w2.heap.size, 0, none⟩ (Value.bool (!nx))) (B := w2.heap.size) ⟨_, _, _, _, _, S1.out⟩ (fun b hb => heap_setCell_other _ _ _ _ hb) R2''.out
  have hsz3 : (w3.setCell ⟨w2.heap.size, 0, none⟩ (Value.bool (!nx))).heap.size = w3.heap.size := by simp
  rw [hw2] at hb3z
  go_wp2_with fail
  refine (minus_any a2 l2 c2 ys1 a1 l1 c1 xs1 _ T2.out T1.out hl2 hll (by rw [d1, d2]; omega)).mono ?_
  rintro e4 w4 ⟨ao', k, cap', zs, rfl, r4, n4, d4, hb4, k4⟩
  have lz4 := len_zero r4.length r4.lt n4
  rw [d4, d1, d2] at lz4
  have hk : ((k : Int) == 0) = false := by rw [beq_eq_false_iff_ne]; omega
  have g1 := (hb4.block w2.heap.size (by rw [hsz3]; omega)).trans S3.out
  have g2 := (hb4.block (w.heap.size + 1 + 1) (by rw [hsz3]; omega)).trans S4.out
  have g3 := heap_setCell_same _ _ 1 _ _ (Value.slice ao' k cap') g1
  have g4 : (w4.setCell ⟨w2.heap.size, 1, none⟩ (Value.slice ao' k cap')).heap[w.heap.size + 1 + 1]? = _ := (heap_setCell_other w4 ⟨w2.heap.size, 1, none⟩ (w.heap.size + 1 + 1) (Value.slice ao' k cap') (by show w.heap.size + 1 + 1 ≠ w2.heap.size; omega)).trans g2
  obtain ⟨c10, c11, c12⟩ := three_cells g1
  obtain ⟨c40, c41, c42⟩ := three_cells g4
  have f1 := fun j => frozen_of_row _ _ j _ _ g1
  have g3' : (w4.setCell ⟨w2.heap.size, 1, none⟩ (Value.slice ao' k cap')).heap[w2.heap.size]? = some (Obj.cells #[Value.bool (!nx), Value.slice ao' k cap', Value.int IntKind.i64 e] 65) := g3
  obtain ⟨c30, c31, c32⟩ := three_cells g3'
  have f4 := fun j => frozen_of_row _ _ j _ _ g4
  have HB5 : Hid (Below w.heap.size w (w4.setCell ⟨w2.heap.size, 1, none⟩ (Value.slice ao' k cap'))) := (SB.out.trans (hb4.mono (by rw [hsz3]; omega))).setCell (by show w.heap.size <= w2.heap.size; omega) _
  have R5 : Hid (Rd4 (w4.setCell ⟨w2.heap.size, 1, none⟩ (Value.slice ao' k cap')) ao' k cap' zs) := rd4_other (w := w4) (B := w2.heap.size) ⟨_, _, _, _, _, g1⟩ (fun b hb => heap_setCell_other _ _ _ _ hb) r4
  have G4 : Hid _ := g4
  clear g1 g2 g3 g3' g4 r4 hb4
  go_wp2_with fail
  refine bodyPost_ret (v := .agg #[.bool (!nx), .slice ao' k cap', .int .i64 e]) (res_num _ 4 (by kernel_rfl) _ _ (w.heap.size + 1 + 1) _ _ _ (by rfl) (set3_heap _ _ _ G4.out)) rfl ⟨_, !nx, B - A, e, rfl, ?_, ⟨plus_lt HL.out h0 h1 (by omega), fun c _ _ => absurd c (by omega)⟩, ?_⟩
  ·exact ⟨ao', k, cap', zs, rfl, rd4_set3 _ _ _ ⟨_, _, _, _, _, G4.out⟩ R5.out, n4, by rw [d4, d1, d2]⟩
  ·exact ((HB5.out.setCell (by show w.heap.size <= w.heap.size + 1 + 1; omega) _).setCell (by show w.heap.size <= w.heap.size + 1 + 1; omega) _).setCell (by show w.heap.size <= w.heap.size + 1 + 1; omega) _
theorem plusZ_any (v u : Value) (s : Nat) (T x y : Int) (w : World) (hx : NumZ w v s T x) (hy : NumZ w u s T y) (hs : s <= 20000) (hT : 0 <= T /\ T <= 20000) :
  Calls Tryz.prog 28 #[v, u] w fun e' w' => ∃ v', e' = .returned v' /\ NumZ w' v' s (T + 1) (x + y) /\ Below w.heap.size w w' := by
 obtain ⟨nx, mx, ex, h1, h2, h3, h4⟩ := hx
 obtain ⟨ny, my, ey, k1, k2, k3, k4⟩ := hy
 refine (plusV_any v u nx ny mx my ex ey w h1 k1 (by omega) (by omega) (by omega) (by omega)).mono ?_
 rintro e' w' ⟨v', neg, m, e, rfl, hN, hP, hB⟩
 obtain ⟨p1, p2, p3⟩ := hP.1 s T h2 k2 h3 k3 hT.1
 exact ⟨v', rfl, ⟨neg, m, e, hN, p1, p2, by rw [p3, h4, k4]⟩, hB⟩
theorem NumZ.set3 {w : World} {B : Nat} (x y z : Value) (hB : NumB w B) {v : Value} {s : Nat} {T r : Int} (h : NumZ w v s T r) : NumZ (((w.setCell ⟨B, 0, none⟩ x).setCell ⟨B, 1, none⟩ y).setCell ⟨B, 2, none⟩ z) v s T r := by
 obtain ⟨neg, m, e, ⟨ao, len, cap, xs, h1, h2, h3⟩, h4⟩ := h
 exact ⟨neg, m, e, ⟨ao, len, cap, xs, h1, rd4_set3 x y z hB h2, h3⟩, h4⟩
theorem below_set3 {w0 w : World} {base B : Nat} (x y z : Value) (h : Below base w0 w) (hB : base <= B) : Below base w0 (((w.setCell ⟨B, 0, none⟩ x).setCell ⟨B, 1, none⟩ y).setCell ⟨B, 2, none⟩ z) :=
 ((h.setCell (p := ⟨B, 0, none⟩) hB x).setCell (p := ⟨B, 1, none⟩) hB y).setCell (p := ⟨B, 2, none⟩) hB z
theorem turnedZ_any (v : Value) (s : Nat) (T x : Int) (w : World) (hx : NumZ w v s T x) :
  Calls Tryz.prog 94 #[v] w fun e' w' => ∃ v', e' = .returned v' /\ NumZ w' v' s T (-x) /\ Below w.heap.size w w' := by
 obtain ⟨nx, mx, ex, h1, h2, h3, h4⟩ := hx
 refine (turned_any v nx mx ex w h1).mono ?_
 rintro e' w' ⟨v', rfl, hN, hB⟩
 refine ⟨v', rfl, ⟨_, mx, ex, hN, h2, h3, ?_⟩, hB⟩
 by_cases h0 : mx = 0
 ·rw [<- h4, h0, zv_zero, zv_zero]; rfl
 ·rw [if_neg h0, zv_not, h4]
theorem signZ_any (v : Value) (s : Nat) (T x : Int) (w : World) (hx : NumZ w v s T x) :
  Calls Tryz.prog 74 #[v] w fun e' w' => e' = .returned (.int .i64 (sgi x)) /\ Below w.heap.size w w' := by
 obtain ⟨nx, mx, ex, h1, h2, h3, h4⟩ := hx
 refine (sign_any v nx mx ex w h1).mono ?_
 rintro e' w' ⟨rfl, hB⟩
 exact ⟨by rw [<- h4, sgi_zv], hB⟩
theorem minusZ_any (v u : Value) (s : Nat) (T x y : Int) (w : World) (hx : NumZ w v s T x) (hy : NumZ w u s T y) (hs : s <= 20000) (hT : 0 <= T /\ T <= 20000) :
  Calls Tryz.prog 73 #[v, u] w fun e' w' => ∃ v', e' = .returned v' /\ NumZ w' v' s (T + 1) (x - y) /\ Below w.heap.size w w' := by
 have HX : Hid (NumZ w v s T x) := hx
 have HY : Hid (NumZ w u s T y) := hy
 obtain ⟨nx, mx, ex, ⟨ao, len, cap, xs, rfl, -⟩, -⟩ := hx
 obtain ⟨ny, my, ey, ⟨bo, blen, bcap, ys, rfl, -⟩, -⟩ := hy
 obtain ⟨p0, p1, p2, pz, pb⟩ := alloc3_facts w (Obj.cells #[Value.bool nx, Value.slice ao len cap, Value.int IntKind.i64 ex] 65) (Obj.cells #[Value.bool ny, Value.slice bo blen bcap, Value.int IntKind.i64 ey] 65) (Obj.cells #[Value.bool false, Value.slice none 0 0, Value.int IntKind.i64 0] 65)
 have PZ : Hid _ := pz
 have PB : Hid _ := pb
 go_enter Tryz.func73, Tryz.ntmps73
 go_wp2_with fail
 generalize (((w.alloc (Obj.cells #[Value.bool nx, Value.slice ao len cap, Value.int IntKind.i64 ex] 65)).alloc (Obj.cells #[Value.bool ny, Value.slice bo blen bcap, Value.int IntKind.i64 ey] 65)).alloc (Obj.cells #[Value.bool false, Value.slice none 0 0, Value.int IntKind.i64 0] 65)) = wa at *
 have HY2 : Hid (NumZ wa.drew _ s T y) := NumZ.later HY.out PB.out.drew
 have P2 : Hid _ := p2
 obtain ⟨x0, x1, x2⟩ := three_cells p0
 obtain ⟨y0, y1, y2⟩ := three_cells p1
 have P0 : Hid _ := p0
 have P1 : Hid _ := p1
 clear p0 p1 p2 pz pb
 have hne1 : ¬ (w.heap.size + 1 + 1 = w.heap.size) := by omega
 have hne2 : ¬ (w.heap.size = w.heap.size + 1 + 1) := by omega
 go_region_held3 (fun w' => w'.cell? ⟨w.heap.size, 0, none⟩ = some (.bool nx) /\ w'.cell? ⟨w.heap.size, 1, none⟩ = some (.slice ao len cap) /\ w'.cell? ⟨w.heap.size, 2, none⟩ = some (.int .i64 ex) /\ w'.cell? ⟨w.heap.size + 1, 0, none⟩ = some (.bool ny) /\ w'.cell? ⟨w.heap.size + 1, 1, none⟩ = some (.slice bo blen bcap) /\ w'.cell? ⟨w.heap.size + 1, 2, none⟩ = some (.int .i64 ey)) (go_keep)
  (first
   | (go_at_call 94; refine (turnedZ_any _ s T y _ HY2.out).mono ?_; rintro ee ww ⟨v1, rfl, hz1, hb1⟩; have b0 := (hb1.block w.heap.size (by show w.heap.size < wa.heap.size; rw [PZ.out]; omega)).trans P0.out; have b1 := (hb1.block (w.heap.size + 1) (by show w.heap.size + 1 < wa.heap.size; rw [PZ.out]; omega)).trans P1.out; have b2 := (hb1.block (w.heap.size + 1 + 1) (by show w.heap.size + 1 + 1 < wa.heap.size; rw [PZ.out]; omega)).trans P2.out; obtain ⟨a0, a1, a2⟩ := three_cells b0; obtain ⟨a3, a4, a5⟩ := three_cells b1; have HBB : Hid (Below w.heap.size w ww) := PB.out.drew.trans (hb1.mono (by show w.heap.size <= wa.heap.size; rw [PZ.out]; omega)); have HSZ : Hid (w.heap.size + 3 <= ww.heap.size) := Nat.le_trans (Nat.le_of_eq PZ.out.symm) hb1.size; have HZ1 : Hid (NumZ ww v1 s T (-y)) := hz1; have B0 : Hid _ := b0; have B1 : Hid _ := b1; have B2 : Hid _ := b2; clear hz1 hb1 b0 b1 b2)
   | (go_at_call 28; refine (plusZ_any _ _ s T x (-y) _ (NumZ.later HX.out HBB.out) HZ1.out hs hT).mono ?_; rintro ee ww2 ⟨v2, rfl, hz2, hb2⟩; have d0 := (hb2.block w.heap.size (by have := HSZ.out; omega)).trans B0.out; have d1 := (hb2.block (w.heap.size + 1) (by have := HSZ.out; omega)).trans B1.out; obtain ⟨i0, i1, i2⟩ := three_cells d0; obtain ⟨i3, i4, i5⟩ := three_cells d1; have d2 := (hb2.block (w.heap.size + 1 + 1) (by have := HSZ.out; omega)).trans B2.out; have HB3 : Hid (Below w.heap.size w ww2) := HBB.out.trans (hb2.mono HBB.out.size); obtain ⟨c0, c1, c2⟩ := three_cells d2; have fc := (fun j => frozen_of_row _ _ j _ _ d2); have D2 : Hid _ := d2; have HZ2 : Hid (NumZ ww2 v2 s (T + 1) (x + -y)) := hz2; obtain ⟨n3, m3, e3, ⟨a3, l3, c3, xs3, rfl, -⟩, -⟩ := hz2; clear hb2 d0 d1 d2))
 all_goals go_wp2_with fail
 all_goals
  refine bodyPost_ret (v := .agg #[.bool n3, .slice a3 l3 c3, .int .i64 e3]) (res_num _ 4 (by kernel_rfl) _ _ (w.heap.size + 1 + 1) _ _ _ (by rfl) (set3_heap _ _ _ D2.out)) rfl ⟨_, rfl, ?_, ?_⟩
  ·rw [show x - y = x + -y by omega]; exact NumZ.set3 _ _ _ ⟨_, _, _, _, _, D2.out⟩ HZ2.out
  ·exact below_set3 _ _ _ HB3.out (by omega)
theorem alloc2_facts (w : World) (o1 o2 : Obj) : ((w.alloc o1).alloc o2).heap[w.heap.size]? = some o1 /\ ((w.alloc o1).alloc o2).heap[w.heap.size + 1]? = some o2 /\ ((w.alloc o1).alloc o2).heap.size = w.heap.size + 2 /\ Below w.heap.size w ((w.alloc o1).alloc o2) := by
 have e1 := heap_alloc_new w o1
 have e2 := heap_alloc_new (w.alloc o1) o2
 rw [show (w.alloc o1).heap.size = w.heap.size + 1 by simp] at e2
 exact ⟨by rw [Below.heap_alloc _ _ _ (by simp), e1], e2, by simp, ((Below.refl _ _).alloc (Nat.le_refl _) _).alloc (by simp) _⟩
theorem cmpZ_any (v u : Value) (s : Nat) (T x y : Int) (w : World) (hx : NumZ w v s T x) (hy : NumZ w u s T y) (hs : s <= 20000) (hT : 0 <= T /\ T <= 20000) :
  Calls Tryz.prog 43 #[v, u] w fun e' w' => e' = .returned (.int .i64 (sgi (x - y))) /\ Below w.heap.size w w' := by
 have HX : Hid (NumZ w v s T x) := hx
 have HY : Hid (NumZ w u s T y) := hy
 obtain ⟨nx, mx, ex, ⟨ao, len, cap, xs, rfl, -⟩, -⟩ := hx
 obtain ⟨ny, my, ey, ⟨bo, blen, bcap, ys, rfl, -⟩, -⟩ := hy
 obtain ⟨p0, p1, pz, pb⟩ := alloc2_facts w (Obj.cells #[Value.bool nx, Value.slice ao len cap, Value.int IntKind.i64 ex] 65) (Obj.cells #[Value.bool ny, Value.slice bo blen bcap, Value.int IntKind.i64 ey] 65)
 have PZ : Hid _ := pz
 have PB : Hid _ := pb
 go_enter Tryz.func43, Tryz.ntmps43
 go_wp2_with fail
 refine (minusZ_any _ _ s T x y _ (NumZ.later HX.out PB.out) (NumZ.later HY.out PB.out) hs hT).mono ?_
 rintro ee ww ⟨v1, rfl, hz1, hb1⟩
 have HB1 : Hid (Below w.heap.size w ww) := PB.out.trans (hb1.mono (by rw [PZ.out]; omega))
 have HZ1 : Hid (NumZ ww v1 s (T + 1) (x - y)) := hz1
 clear hz1 hb1
 go_wp2_with fail
 refine (signZ_any _ s (T + 1) (x - y) _ HZ1.out).mono ?_
 rintro ee w2 ⟨rfl, hb2⟩
 have HB2 : Hid (Below w.heap.size w w2) := HB1.out.trans (hb2.mono HB1.out.size)
 clear hb2
 go_wp2_with fail
 go_ret
 exact ⟨rfl, HB2.out⟩
def two (a b : Nat × Nat × Bool) (j : Nat) : Nat × Nat × Bool := if j = 0 then a else b
open Go.RowKit Go.Shelf
open Ieee
theorem fval_zeroJ : fval 0 = 0 := by decide +kernel
theorem fval_absJ (u : Nat) : (fval u).natAbs = rmag (frung u) := by unfold fval; split <;> omega
theorem fval_ltJ {u E : Nat} (hu : Fin u) (hE : E = 2098) : rmag (frung u) < 2 ^ E := by
 obtain ⟨F, hF⟩ : ∃ F : Nat, F = 2046 := ⟨_, rfl⟩
 have h1 := rmag_lt hu
 rw [rmag_inf hF] at h1
 have h3 : (2 : Nat) ^ E = 4503599627370496 * 2 ^ F := by
  rw [show (4503599627370496 : Nat) = 2 ^ 52 by decide, <- Nat.pow_add, show 52 + F = E by omega]
 rw [h3]; exact h1
end Go.Proofs.YthmhgpadinecfaaGreat
namespace Go.Proofs.YthmhgpadinecfaaGreat
open Go.RowKit
def sumK (us : List Nat) : Nat -> Nat
 | 0 => 0
 | k + 1 => sumK us k + rmag (frung (us[k]?.getD 0))
def grK (us : List Nat) : Nat -> Nat
 | 0 => 0
 | k + 1 => max (grK us k) (frung (us[k]?.getD 0))
def lossV (us : List Nat) : Int := (sumK us us.length : Int) - (rmag (grK us us.length) : Int)
theorem sumK_lt {us : List Nat} {F : Nat} (hF : F = 2098) (hf : ∀ j : Nat, Fin (us[j]?.getD 0)) : ∀ k, sumK us k <= k * 2 ^ F
 | 0 => by simp [sumK]
 | k + 1 => by
  have h1 := sumK_lt hF hf k
  have h2 := fval_ltJ (hf k) hF
  rw [sumK, Nat.succ_mul]
  omega
theorem rmag_le_sum {us : List Nat} : ∀ k, rmag (grK us k) <= sumK us k
 | 0 => by simp [grK, sumK]; decide
 | k + 1 => by
  have h1 := rmag_le_sum (us := us) k
  rw [grK, sumK]
  by_cases h : grK us k <= frung (us[k]?.getD 0)
  ·rw [Nat.max_eq_right h]; omega
  ·rw [Nat.max_eq_left (by omega)]; omega
theorem sumK_bound {us : List Nat} {E : Nat} (hE : E = 2140) (hf : ∀ j : Nat, Fin (us[j]?.getD 0)) {k : Nat} (hk : k <= 1050000) : sumK us k < 2 ^ E := by
 obtain ⟨F, hF⟩ : ∃ F : Nat, F = 2098 := ⟨_, rfl⟩
 have h1 := sumK_lt hF hf k
 have h2 : (2 : Nat) ^ E = 4398046511104 * 2 ^ F := by rw [show (4398046511104 : Nat) = 2 ^ 42 by decide, <- Nat.pow_add, show 42 + F = E by omega]
 have h3 : k * 2 ^ F <= 1050000 * 2 ^ F := Nat.mul_le_mul_right _ hk
 have h4 := Nat.two_pow_pos F
 rw [h2]
 generalize 2 ^ F = Q at *
 omega
open Go.RowKit Go.Shelf
def zRow (z : ZD) : Array Value := #[.int .i64 z.N, .slice z.co z.cn z.cc, .slice z.io z.dn z.dc, .slice z.go z.gn z.gc, .slice z.ro z.rn z.rc, .bool z.bad]
structure RdUs (w : World) (ao : Option Addr) (len cap : Nat) (us : List Nat) : Prop where
 length : us.length = len
 max : len <= maxLen
 cells : len = 0 \/ ∃ b off, ao = some ⟨b, off, none⟩ /\ ∀ j, j < len -> w.cell? ⟨b, off + j, none⟩ = some (.int .u64 ((us[j]?.getD 0 : Nat) : Int))
theorem RdUs.later {w w' : World} {ao : Option Addr} {len cap : Nat} {us : List Nat} (h : RdUs w ao len cap us) (hb : Below w.heap.size w w') : RdUs w' ao len cap us := by
 refine ⟨h.length, h.max, ?_⟩
 rcases h.cells with h0 | ⟨b, off, ha, hc⟩
 ·exact .inl h0
 ·refine .inr ⟨b, off, ha, fun j hj => ?_⟩
  rw [hb.cell (p := ⟨b, off + j, none⟩) (World.block_lt_of_cell? w _ (hc j hj))]
  exact hc j hj
theorem apiBits_any (u : Nat) (w : World) : Calls Tryz.prog 41 #[.float .f64 u] w fun e w' => e = .returned (.int .u64 u) /\ w' = w := by
 have hcb := call_bits u
 go_enter Tryz.func41, Tryz.ntmps41
 go_wp2_with fail
 go_ret
 exact ⟨rfl, rfl⟩
structure RdGu (w : World) (ao : Option Addr) (len cap : Nat) (gv : Nat -> Option Addr × Nat × Nat) (gs : List (List Nat)) : Prop where
 length : gs.length = len
 max : len <= maxLen
 cells : len = 0 \/ ∃ b off, ao = some ⟨b, off, none⟩ /\ ∀ j, j < len -> w.cell? ⟨b, off + j, none⟩ = some (.slice (gv j).1 (gv j).2.1 (gv j).2.2)
 each : ∀ j, j < len -> RdUs w (gv j).1 (gv j).2.1 (gv j).2.2 (gs[j]?.getD [])
theorem RdGu.later {w w' : World} {ao : Option Addr} {len cap : Nat} {gv : Nat -> Option Addr × Nat × Nat} {gs : List (List Nat)} (h : RdGu w ao len cap gv gs) (hb : Below w.heap.size w w') : RdGu w' ao len cap gv gs := by
 refine ⟨h.length, h.max, ?_, fun j hj => (h.each j hj).later hb⟩
 rcases h.cells with h0 | ⟨b, off, ha, hc⟩
 ·exact .inl h0
 ·refine .inr ⟨b, off, ha, fun j hj => ?_⟩
  rw [hb.cell (p := ⟨b, off + j, none⟩) (World.block_lt_of_cell? w _ (hc j hj))]
  exact hc j hj
structure ZU (w : World) (z : ZD) : Prop where
 c : RdUs w z.co z.cn z.cc z.cs
 i : RdIs w z.io z.dn z.dc z.ids
 g : RdGu w z.go z.gn z.gc z.gv z.gs
 r : RdUs w z.ro z.rn z.rc z.rs
theorem ZU.later {w w' : World} {z : ZD} (h : ZU w z) (hb : Below w.heap.size w w') : ZU w' z := ⟨h.c.later hb, h.i.later hb, h.g.later hb, h.r.later hb⟩
def bitsB (a b : ZD) : Bool := decide (a.N = b.N) && decide (a.bad = b.bad) && decide (a.cs = b.cs) && decide (a.rs = b.rs) && decide (a.ids = b.ids) && decide (a.gs = b.gs)
end Go.Proofs.YthmhgpadinecfaaGreat
namespace Go.Proofs.YthmhgpadinecfaaGreat
open Go.RowKit
theorem owns_keep {w w' : World} {E : TypeId} {base size : Nat} {v : Value} {n : Nat} {xs : List Value} (h : w.ownsRow base E size v n xs) (hb : ∀ k, v.ownBlock = some k -> w'.heap[k]? = w.heap[k]?) : w'.ownsRow base E size v n xs := by
 refine ⟨h.1, ?_⟩
 rcases h.2 with h2 | ⟨g, cap, cur, hv, hg, hh, r⟩
 ·exact .inl h2
 ·exact .inr ⟨g, cap, cur, hv, hg, by rw [hb g (by rw [hv]; rfl)]; exact hh, r⟩
theorem owns_type {w : World} {E : TypeId} {base size : Nat} {v : Value} {n : Nat} {xs : List Value} (h : w.ownsRow base E size v n xs) {k : Nat} (hk : v.ownBlock = some k) : ∃ cur, w.heap[k]? = some (.cells cur E) := by
 rcases h.2 with ⟨rfl, _⟩ | ⟨g, cap, cur, rfl, hg, hh, r⟩
 ·simp [Value.ownBlock] at hk
 ·simp only [Value.ownBlock, Option.some.injEq] at hk
  subst hk
  exact ⟨cur, hh⟩
structure Grw (w w' : World) (r r' : Option Nat) : Prop where
 by' : w.grownBy w' r
 new : r' = r \/ ∀ k, r' = some k -> w.heap.size <= k
theorem info3' {P : Program} {t : TypeId} {z : Value} {s b : Nat} (h : (P.info? t).map (fun i => (i.zero, i.size, i.bytes)) = some (some z, s, b)) : ∃ i, P.info? t = some i /\ i.zero = some z /\ i.size = s /\ i.bytes = b := by
 cases hi : P.info? t with
 | none => simp [hi] at h
 | some i =>
  simp [hi] at h
  exact ⟨i, rfl, h.1, h.2.1, h.2.2⟩
theorem Grw.refl (w : World) (r : Option Nat) : Grw w w r r := ⟨⟨rfl, rfl, rfl, Nat.le_refl _, fun _ _ _ => rfl⟩, .inl rfl⟩
theorem Grw.trans {w w1 w2 : World} {r r1 r2 : Option Nat} (h : Grw w w1 r r1) (k : Grw w1 w2 r1 r2) : Grw w w2 r r2 := by
 have hs := h.by'.size
 refine ⟨⟨k.by'.os.trans h.by'.os, k.by'.tape.trans h.by'.tape, k.by'.output.trans h.by'.output, Nat.le_trans hs k.by'.size, fun j hj hne => ?_⟩, ?_⟩
 ·rw [k.by'.block j (by omega) ?_, h.by'.block j hj hne]
  intro c
  rcases h.new with h1 | h1
  ·exact hne (by rw [c, h1])
  ·have := h1 j c.symm
   omega
 ·rcases k.new with k1 | k1
  ·rw [k1]; exact h.new
  ·exact .inr fun j hj => Nat.le_trans hs (k1 j hj)
theorem Grw.below {w w' : World} {r r' : Option Nat} {base : Nat} (h : Grw w w' r r') (hb : ∀ k, r = some k -> base <= k) (hw : base <= w.heap.size) : Below base w w' :=
 ⟨h.by'.os, h.by'.tape, h.by'.output, h.by'.size, fun k hk => h.by'.block k (by omega) (fun c => by have := hb k c.symm; omega)⟩
open Go.RowKit Go.Shelf
theorem append_grM {SE E : TypeId} {z : Value} {bytes : Nat} (hu : Tryz.prog.underlying SE = some (.slice E)) (hinfo : (Tryz.prog.info? E).map (fun i => (i.zero, i.size, i.bytes)) = some (some z, 1, bytes)) (hzc : z.cells.size = 1) (hby : bytes <= 24)
  {ops : Array Oper} {rest : List Oper} {o : Oper} {a : Act} {Q : Exit -> Act -> World -> Prop} (W : World) (hgd : o.guard = none) (s x : Operand) (ho : o.op = .call { callee := .builtin .append, args := #[s, x], argTypes := #[SE, SE] })
  (base : Nat) (v : Value) (xs : List Value) (hs : a.eval s = v) (hown : W.ownsRow base E 1 v xs.length xs)
  (ad : Addr) (m c : Nat) (news : List Value) (hx : a.eval x = .slice (some ad) m c) (hl : news.length = m) (hm : 0 < m) (hnews : ∀ j u, news[j]? = some u -> W.cell? (ad.add j) = some u) (h1 : ∀ u ∈ news, u.oneCell' = true)
  (hlen : xs.length + m <= 4000000) (hbase : base <= W.heap.size)
  (h : ∀ v' w', w'.ownsRow base E 1 v' (xs ++ news).length (xs ++ news) -> Grw W w' v.ownBlock v'.ownBlock -> wpList Tryz.prog ops Q rest (a.put o.dst v') w') : wpList Tryz.prog ops Q (o :: rest) a W := by
 obtain ⟨i0, hi, hz0, hz1, hz2⟩ := info3' hinfo
 have hb2 : (xs.length + m) * bytes <= 140737488355328 := Nat.le_trans (Nat.mul_le_mul hlen hby) (by decide)
 have grow : ∀ (w' : World) (v' : Value), w'.ownsRow W.heap.size E 1 v' (xs.length + m) (xs ++ news) -> W.grownBy w' none -> wpList Tryz.prog ops Q rest (a.put o.dst v') w' := by
  intro w' v' g1 g2
  refine h v' w' ?_ ⟨⟨g2.os, g2.tape, g2.output, g2.size, fun k hk _ => g2.block k hk (by simp)⟩, .inr fun k hk => (World.ownsRow.lt g1 k hk).1⟩
  rw [List.length_append, hl]
  refine ⟨g1.1, ?_⟩
  rcases g1.2 with g3 | ⟨g, cap, cur, hv, hg, r⟩
  ·exact .inl g3
  ·exact .inr ⟨g, cap, cur, hv, Nat.le_trans hbase hg, r⟩
 rcases hown.2 with ⟨rfl, h0⟩ | ⟨g, cap, cur, hv, hg, hh, k1, k2, k3, k4⟩
 ·have hx0 : xs = [] := List.eq_nil_of_length_eq_zero h0
  subst hx0
  refine wpList_append_grows W hgd s x SE ho E i0 z 1 bytes hu hi hz0 hz1 hz2 hzc (by decide) none 0 0 [] hs (fun _ => ⟨rfl, rfl⟩) rfl (fun b hb => by cases hb) ad m c news hx (by omega) hnews h1 (by omega) (by simp only [maxLen]; simp at hlen; omega) (by simpa using hb2) ?_
  intro v' w' r1 r2
  exact grow w' v' (by simpa using r1) r2
 ·by_cases hr : xs.length + m <= cap
  ·subst hv
   refine wpList_append_fits W hgd s x SE ho base E i0 1 hu hi hz1 g xs.length cap xs hs hown ad m c news hx (by omega) hnews h1 hr ?_
   intro w' r1 r2
   exact h _ w' (by rw [List.length_append, hl]; exact r1) ⟨r2, .inl rfl⟩
  ·refine wpList_append_grows W hgd s x SE ho E i0 z 1 bytes hu hi hz0 hz1 hz2 hzc (by decide) (some ⟨g, 0, none⟩) xs.length cap xs (by rw [hs, hv]) (fun c => by cases c) (by omega) ?_ ad m c news hx (by omega) hnews h1 (by omega) (by simp only [maxLen]; omega) hb2 ?_
   ·intro b hb j u hj
    cases hb
    exact World.ownsRow.cells hown (by rw [hv]; rfl) j u hj
   ·intro v' w' r1 r2
    exact grow w' v' r1 r2
theorem append_gr1M {SE E : TypeId} {z : Value} {bytes : Nat} (hu : Tryz.prog.underlying SE = some (.slice E)) (hinfo : (Tryz.prog.info? E).map (fun i => (i.zero, i.size, i.bytes)) = some (some z, 1, bytes)) (hzc : z.cells.size = 1) (hby : bytes <= 24)
  {ops : Array Oper} {rest : List Oper} {o : Oper} {a : Act} {Q : Exit -> Act -> World -> Prop} (W : World) (hgd : o.guard = none) (s x : Operand) (ho : o.op = .call { callee := .builtin .append, args := #[s, x], argTypes := #[SE, SE] })
  (base : Nat) (v : Value) (xs : List Value) (hs : a.eval s = v) (hown : W.ownsRow base E 1 v xs.length xs)
  (y : Value) (hx : a.eval x = .slice (some ⟨W.heap.size, 0, none⟩) 1 1) (h1 : y.oneCell' = true)
  (hlen : xs.length + 1 <= 4000000) (hbase : base <= W.heap.size)
  (h : ∀ v' w', w'.ownsRow base E 1 v' (xs ++ [y]).length (xs ++ [y]) -> Grw W w' v.ownBlock v'.ownBlock -> wpList Tryz.prog ops Q rest (a.put o.dst v') w') : wpList Tryz.prog ops Q (o :: rest) a (W.alloc (.cells #[y] E)) := by
 have hsz : (W.alloc (.cells #[y] E)).heap.size = W.heap.size + 1 := Array.size_push ..
 refine append_grM hu hinfo hzc hby (W.alloc (.cells #[y] E)) hgd s x ho base v xs hs (World.ownsRow.alloc hown _) ⟨W.heap.size, 0, none⟩ 1 1 [y] hx rfl (by decide) ?_ (by intro u hu; simp at hu; subst hu; exact h1) hlen (by omega) ?_
 ·intro j u hj
  match j, hj with
  | 0, hj =>
   simp only [List.getElem?_cons_zero, Option.some.injEq] at hj
   subst hj
   rw [Addr.add_lit, cell_of_row _ W.heap.size _ _ _ _ (heap_alloc_new W _)]
   rfl
 ·intro v' w' o2 g2
  refine h v' w' o2 ⟨⟨g2.by'.os, g2.by'.tape, g2.by'.output, by have := g2.by'.size; omega, fun j hj hne => ?_⟩, ?_⟩
  ·rw [g2.by'.block j (by omega) hne, Below.heap_alloc W _ j hj]
  ·rcases g2.new with e | e
   ·exact .inl e
   ·exact .inr fun k hk => by have := e k hk; omega
theorem own_valJ {w : World} {E : TypeId} {base size n : Nat} {v : Value} {xs : List Value} (h : w.ownsRow base E size v n xs) : v.oneCell' = true /\ v.cells = #[v] := by
 rcases h.2 with ⟨rfl, _⟩ | ⟨g, cap, cur, rfl, _⟩ <;> exact ⟨rfl, rfl⟩
theorem Tryz.infoIJ : (Tryz.prog.info? 3).map (fun i => (i.zero, i.size, i.bytes)) = some (some (.int .i64 0), 1, 8) := by kernel_rfl
theorem Tryz.szIs : (Tryz.prog.info? 23).map (·.size) = some 1 := by kernel_rfl
theorem owns_keepT {w w' : World} {E : TypeId} {base size : Nat} {v : Value} {n : Nat} {xs : List Value} (h : w.ownsRow base E size v n xs) (hb : ∀ (k : Nat) (cur : Array Value), w.heap[k]? = some (.cells cur E) -> w'.heap[k]? = w.heap[k]?) : w'.ownsRow base E size v n xs :=
 owns_keep h fun k hk => by obtain ⟨cur, hc⟩ := owns_type h hk; exact hb k cur hc
theorem grw_types {w w' : World} {E : TypeId} {base size n : Nat} {v v' : Value} {xs : List Value} (h : w.ownsRow base E size v n xs) (hg : Grw w w' v.ownBlock v'.ownBlock) : ∀ (k : Nat) (cur : Array Value) (t : TypeId), t ≠ E -> w.heap[k]? = some (.cells cur t) -> w'.heap[k]? = w.heap[k]? := by
 intro k cur t ht hc
 refine hg.by'.block k (blk_lt hc) fun e => ?_
 obtain ⟨cur', hc'⟩ := owns_type h e.symm
 rw [hc] at hc'
 cases hc'
 exact ht rfl
theorem owns_slice {w : World} {E : TypeId} {base : Nat} {v : Value} {n : Nat} {xs : List Value} (h : w.ownsRow base E 1 v n xs) : ∃ ao cap, v = .slice ao n cap /\ n <= maxLen /\ (n = 0 \/ ∃ g, ao = some ⟨g, 0, none⟩ /\ ∀ j, j < n -> w.cell? ⟨g, j, none⟩ = xs[j]?) := by
 have hs := h
 rcases h.2 with ⟨rfl, rfl⟩ | ⟨g, cap, cur, rfl, hg, hh, h1, h2, h3, h4⟩
 ·exact ⟨none, 0, rfl, Nat.zero_le _, .inl rfl⟩
 ·exact ⟨_, cap, rfl, Nat.le_trans h1 h2, .inr ⟨g, rfl, fun j hj => World.ownsRow.cellAt hs j (by omega)⟩⟩
end Go.Proofs.YthmhgpadinecfaaGreat
namespace Go.Proofs.YthmhgpadinecfaaGreat
open Go.RowKit
def wpAnyP (P : Program) (md : Region.Mode) (ops : Array Oper) (Q : Exit -> Act -> World -> Prop) (S : World -> Prop) (s : Nat) : Nat -> Array Bool -> Act -> World -> Prop
 | 0, listed, a, w => Region.ready md ops listed = [] /\ Q .normal a w
 | fuel + 1, listed, a, w =>
  (Region.ready md ops listed = [] -> Q .normal a w) ∧
  ∀ i ∈ Region.ready md ops listed, wpOp P ops Q i (fun a' w' => ((listed.setIfInBounds i true).getD s true = false -> S w') /\ wpAnyP P md ops Q S s fuel (listed.setIfInBounds i true) a' w') a w
theorem wpAny_of_P {P : Program} {md : Region.Mode} {ops : Array Oper} {Q : Exit -> Act -> World -> Prop} {S : World -> Prop} {s : Nat} : ∀ (fuel : Nat) (listed : Array Bool) (a : Act) (w : World), wpAnyP P md ops Q S s fuel listed a w -> wpAny P md ops Q fuel listed a w
 | 0, _, _, _, h => h
 | fuel + 1, _, _, _, h => ⟨h.1, fun i hi => wpOp_mono (fun a' w' h' => wpAny_of_P fuel _ a' w' h'.2) (h.2 i hi)⟩
def waitsB (md : Region.Mode) (ops : Array Oper) (s i : Nat) : Bool := match ops[s]? with
 | some o => o.after.any (fun e => Region.binds md e && e.on == i)
 | none => false
theorem waitsB_spec {md : Region.Mode} {ops : Array Oper} {s i : Nat} (h : waitsB md ops s i = true) : ∃ os, ops[s]? = some os /\ ∃ e ∈ os.after, Region.binds md e = true /\ e.on = i := by
 unfold waitsB at h
 cases ho : ops[s]? with
 | none => rw [ho] at h; cases h
 | some o =>
  rw [ho] at h
  refine ⟨o, rfl, ?_⟩
  simp only [Array.any_eq_true'] at h
  obtain ⟨e, he, h2⟩ := h
  simp only [Bool.and_eq_true, beq_iff_eq] at h2
  exact ⟨e, he, h2.1, h2.2⟩
theorem wpAnyP_first {P : Program} {md : Region.Mode} {ops : Array Oper} {Q : Exit -> Act -> World -> Prop} {S : World -> Prop} {s : Nat} {i : Nat} {oi : Oper} {v : Value} (hi : ops[i]? = some oi) (hsel : ∀ (j : Nat) (o : Oper) cs b, ops[j]? = some o -> o.op ≠ .select cs b)
  (hQ : ∀ c a w, Q (.panic c) (a.put oi.dst v) w -> Q (.panic c) a w) (hne : i ≠ s) (hwt : ∃ os, ops[s]? = some os /\ ∃ e ∈ os.after, Region.binds md e = true /\ e.on = i) :
  ∀ (fuel : Nat) (listed : Array Bool) (a : Act) (w : World),
   (∀ j oj, ops[j]? = some oj -> j ≠ i -> listed.getD j true = false -> (∀ e ∈ oj.after, Region.binds md e = true -> e.on ≠ i) -> oi.apart ops oj = true) →
   i ∈ Region.ready md ops listed -> listed.getD s true = false -> YieldsIf P ops S oi v a -> S w →
   wpAnyP P md ops Q S s fuel (listed.setIfInBounds i true) (a.put oi.dst v) w -> wpAnyP P md ops Q S s (fuel + 1) listed a w := by
 intro fuel
 induction fuel with
 | zero =>
  intro listed a w _ hr hu hy hS H
  refine ⟨fun h => (by rw [h] at hr; cases hr), fun j hj => ?_⟩
  by_cases hji : j = i
  ·subst hji; exact hy.wpOp hi hS ⟨fun _ => hS, H⟩
  ·have := ready_mono hj hji
   rw [H.1] at this
   cases this
 | succ fuel ih =>
  intro listed a w hfree hr hu hy hS H
  refine ⟨fun h => (by rw [h] at hr; cases hr), fun j hj => ?_⟩
  by_cases hji : j = i
  ·subst hji; exact hy.wpOp hi hS ⟨fun _ => hS, H⟩
  ·have h1 := H.2 j (ready_mono hj hji)
   obtain ⟨hjun, oj, hoj, hall⟩ := mem_ready.1 hj
   have hnot : ∀ e ∈ oj.after, Region.binds md e = true -> e.on ≠ i := fun e he hb heq => by
    have h1 := hall e he hb
    have h0 := (mem_ready.1 hr).1
    rw [heq] at h1
    rcases Nat.lt_or_ge i listed.size with h' | h'
    ·simp [h'] at h0 h1; rw [h0] at h1; cases h1
    ·simp [Array.getElem?_eq_none h'] at h1
   have hjs : j ≠ s := by
    rintro rfl
    obtain ⟨os, ho, e, he, hb, heq⟩ := hwt
    rw [hoj] at ho
    cases ho
    exact hnot e he hb heq
   have hu1 : (listed.setIfInBounds j true).getD s true = false := by rw [getD_set_ne true hjs]; exact hu
   have hu2 : ((listed.setIfInBounds i true).setIfInBounds j true).getD s true = false := by rw [getD_set_ne true hjs, getD_set_ne true hne]; exact hu
   have h2 := wpOp_putIf hoj (hfree j oj hoj hji hjun hnot) (fun cs b => hsel i oi cs b hi) (fun cs b => hsel j oj cs b hoj) hQ hy h1
   have hfree' : ∀ k ok, ops[k]? = some ok -> k ≠ i -> (listed.setIfInBounds j true).getD k true = false →
     (∀ e ∈ ok.after, Region.binds md e = true -> e.on ≠ i) -> oi.apart ops ok = true := fun k ok hk hki hun hno => by
    refine hfree k ok hk hki ?_ hno
    by_cases hjk : j = k
    ·subst hjk; exact hjun
    ·rw [getD_set_ne true hjk] at hun; exact hun
   refine wpOp_mono (fun a' w' h3 => ⟨fun _ => h3.2.1 hu2, ih (listed.setIfInBounds j true) a' w' hfree' (ready_mono hr (Ne.symm hji)) hu1 h3.1 (h3.2.1 hu2) ?_⟩) h2
   rw [Array.setIfInBounds_comm _ _ hji]
   exact h3.2.2
theorem wpAnyP_first0 {P : Program} {md : Region.Mode} {ops : Array Oper} {Q : Exit -> Act -> World -> Prop} {S : World -> Prop} {s : Nat} {i : Nat} {oi : Oper} {v : Value} (hi : ops[i]? = some oi) (hsel : ∀ (j : Nat) (o : Oper) cs b, ops[j]? = some o -> o.op ≠ .select cs b)
  (hQ : ∀ c a w, Q (.panic c) (a.put oi.dst v) w -> Q (.panic c) a w) (hne : i ≠ s) :
  ∀ (fuel : Nat) (listed : Array Bool) (a : Act) (w : World),
   (∀ j oj, ops[j]? = some oj -> j ≠ i -> listed.getD j true = false -> (∀ e ∈ oj.after, Region.binds md e = true -> e.on ≠ i) -> oi.apart ops oj = true) →
   i ∈ Region.ready md ops listed -> YieldsIf P ops (fun _ => True) oi v a -> (listed.getD s true = false -> S w) →
   wpAnyP P md ops Q S s fuel (listed.setIfInBounds i true) (a.put oi.dst v) w -> wpAnyP P md ops Q S s (fuel + 1) listed a w := by
 intro fuel
 induction fuel with
 | zero =>
  intro listed a w _ hr hy hS H
  refine ⟨fun h => (by rw [h] at hr; cases hr), fun j hj => ?_⟩
  by_cases hji : j = i
  ·subst hji; exact hy.wpOp hi trivial ⟨fun e => hS (by rw [getD_set_ne true hne] at e; exact e), H⟩
  ·have := ready_mono hj hji
   rw [H.1] at this
   cases this
 | succ fuel ih =>
  intro listed a w hfree hr hy hS H
  refine ⟨fun h => (by rw [h] at hr; cases hr), fun j hj => ?_⟩
  by_cases hji : j = i
  ·subst hji; exact hy.wpOp hi trivial ⟨fun e => hS (by rw [getD_set_ne true hne] at e; exact e), H⟩
  ·have h1 := H.2 j (ready_mono hj hji)
   obtain ⟨hjun, oj, hoj, hall⟩ := mem_ready.1 hj
   have hnot : ∀ e ∈ oj.after, Region.binds md e = true -> e.on ≠ i := fun e he hb heq => by
    have h1 := hall e he hb
    have h0 := (mem_ready.1 hr).1
    rw [heq] at h1
    rcases Nat.lt_or_ge i listed.size with h' | h'
    ·simp [h'] at h0 h1; rw [h0] at h1; cases h1
    ·simp [Array.getElem?_eq_none h'] at h1
   have hu2 : (listed.setIfInBounds j true).getD s true = false -> ((listed.setIfInBounds i true).setIfInBounds j true).getD s true = false := by
    rw [Array.setIfInBounds_comm _ _ (Ne.symm hji), getD_set_ne true hne]
    exact fun h => h
   have h2 := wpOp_putIf hoj (hfree j oj hoj hji hjun hnot) (fun cs b => hsel i oi cs b hi) (fun cs b => hsel j oj cs b hoj) hQ hy h1
   have hfree' : ∀ k ok, ops[k]? = some ok -> k ≠ i -> (listed.setIfInBounds j true).getD k true = false →
     (∀ e ∈ ok.after, Region.binds md e = true -> e.on ≠ i) -> oi.apart ops ok = true := fun k ok hk hki hun hno => by
    refine hfree k ok hk hki ?_ hno
    by_cases hjk : j = k
    ·subst hjk; exact hjun
    ·rw [getD_set_ne true hjk] at hun; exact hun
   refine wpOp_mono (fun a' w' h3 => ⟨fun e => h3.2.1 (hu2 e), ih (listed.setIfInBounds j true) a' w' hfree' (ready_mono hr (Ne.symm hji)) h3.1 (fun e => h3.2.1 (hu2 e)) ?_⟩) h2
   rw [Array.setIfInBounds_comm _ _ hji]
   exact h3.2.2
theorem takeP0 {P : Program} {md : Region.Mode} {ops : Array Oper} {Q : Exit -> Act -> World -> Prop} {S : World -> Prop} {s : Nat} (d : Nat) {i : Nat} {oi : Oper} {v : Value} {fuel : Nat} {listed : Array Bool} {a : Act} {w : World} (hi : ops[i]? = some oi) (hd : oi.dst = some d)
  (hs : Region.noSelect ops = true) (hf : Region.free md ops listed i = true) (hr : (Region.ready md ops listed).contains i = true) (hne : (i == s) = false)
  (hQ : ∀ c a w, Q (.panic c) (a.put (some d) v) w -> Q (.panic c) a w) (hy : YieldsIf P ops (fun _ => True) oi v a) (hS : listed.getD s true = false -> S w)
  (h : wpAnyP P md ops Q S s fuel (listed.setIfInBounds i true) (a.put (some d) v) w) : wpAnyP P md ops Q S s (fuel + 1) listed a w :=
 wpAnyP_first0 hi (Region.noSelect_spec hs) (by rw [hd]; exact hQ) (by simpa using hne) fuel listed a w (Region.free_spec hi hf) (by simpa using hr) hy hS (by rw [hd]; exact h)
theorem takeP {P : Program} {md : Region.Mode} {ops : Array Oper} {Q : Exit -> Act -> World -> Prop} {S : World -> Prop} {s : Nat} (d : Nat) {i : Nat} {oi : Oper} {v : Value} {fuel : Nat} {listed : Array Bool} {a : Act} {w : World} (hi : ops[i]? = some oi) (hd : oi.dst = some d)
  (hs : Region.noSelect ops = true) (hf : Region.free md ops listed i = true) (hr : (Region.ready md ops listed).contains i = true) (hw : waitsB md ops s i = true) (hne : (i == s) = false) (hu : listed.getD s true = false)
  (hQ : ∀ c a w, Q (.panic c) (a.put (some d) v) w -> Q (.panic c) a w) (hy : YieldsIf P ops S oi v a) (hS : S w)
  (h : wpAnyP P md ops Q S s fuel (listed.setIfInBounds i true) (a.put (some d) v) w) : wpAnyP P md ops Q S s (fuel + 1) listed a w :=
 wpAnyP_first hi (Region.noSelect_spec hs) (by rw [hd]; exact hQ) (by simpa using hne) (waitsB_spec hw) fuel listed a w (Region.free_spec hi hf) (by simpa using hr) hu hy hS (by rw [hd]; exact h)
theorem tzQ {P : Program} {md : Region.Mode} {ops : Array Oper} {Q : Exit -> Act -> World -> Prop} {S : World -> Prop} {s : Nat} (d i : Nat) (v : Value) {oi : Oper} {fuel : Nat} {listed : Array Bool} {a : Act} {w : World} (hz : ∀ w, True -> (execOp a.eval oi).run P w = .ok (.value v) w) (hS : listed.getD s true = false -> S w) (h : wpAnyP P md ops Q S s fuel (listed.setIfInBounds i true) (a.put (some d) v) w)
    (hi : ops[i]? = some oi := by rfl) (hd : oi.dst = some d := by rfl) (hs : Region.noSelect ops = true := by kernel_rfl) (hf : Region.free md ops listed i = true := by kernel_rfl) (hr : (Region.ready md ops listed).contains i = true := by kernel_rfl) (hne : (i == s) = false := by rfl) (hQ : ∀ c a w, Q (.panic c) (a.put (some d) v) w -> Q (.panic c) a w := by exact fun _ _ _ h => h) (hw : Region.wanted oi (yielded ops a.tmps) = true := by kernel_rfl) : wpAnyP P md ops Q S s (fuel + 1) listed a w := takeP0 d hi hd hs hf hr hne hQ (Or.inl ⟨hw, hz⟩) hS h
theorem tzP {P : Program} {md : Region.Mode} {ops : Array Oper} {Q : Exit -> Act -> World -> Prop} {S : World -> Prop} {s : Nat} (d i : Nat) (v : Value) {oi : Oper} {fuel : Nat} {listed : Array Bool} {a : Act} {w : World} (hy : YieldsIf P ops S oi v a) (hS : S w) (h : wpAnyP P md ops Q S s fuel (listed.setIfInBounds i true) (a.put (some d) v) w)
    (hi : ops[i]? = some oi := by rfl) (hd : oi.dst = some d := by rfl) (hs : Region.noSelect ops = true := by kernel_rfl) (hf : Region.free md ops listed i = true := by kernel_rfl) (hr : (Region.ready md ops listed).contains i = true := by kernel_rfl) (hw : waitsB md ops s i = true := by kernel_rfl) (hne : (i == s) = false := by rfl) (hu : listed.getD s true = false := by kernel_rfl) (hQ : ∀ c a w, Q (.panic c) (a.put (some d) v) w -> Q (.panic c) a w := by exact fun _ _ _ h => h) : wpAnyP P md ops Q S s (fuel + 1) listed a w := takeP d hi hd hs hf hr hw hne hu hQ hy hS h
def AllReadyP (P : Program) (md : Region.Mode) (ops : Array Oper) (Q : Exit -> Act -> World -> Prop) (S : World -> Prop) (s : Nat) (fuel : Nat) (listed : Array Bool) (a : Act) (w : World) (rs : List Nat) : Prop :=
 ∀ i ∈ rs, wpOp P ops Q i (fun a' w' => ((listed.setIfInBounds i true).getD s true = false -> S w') /\ wpAnyP P md ops Q S s fuel (listed.setIfInBounds i true) a' w') a w
theorem AllReadyP.nil {P : Program} {md : Region.Mode} {ops : Array Oper} {Q : Exit -> Act -> World -> Prop} {S : World -> Prop} {s : Nat} {fuel : Nat} {listed : Array Bool} {a : Act} {w : World} : AllReadyP P md ops Q S s fuel listed a w [] := fun _ h => by cases h
theorem consP {P : Program} {md : Region.Mode} {ops : Array Oper} {Q : Exit -> Act -> World -> Prop} {S : World -> Prop} {s : Nat} {fuel : Nat} {listed : Array Bool} {a : Act} {w : World} {i : Nat} {rs : List Nat} (l' : Array Bool) (hl : listed.setIfInBounds i true = l')
  (h : wpOp P ops Q i (fun a' w' => S w' /\ wpAnyP P md ops Q S s fuel l' a' w') a w) (hs : AllReadyP P md ops Q S s fuel listed a w rs) : AllReadyP P md ops Q S s fuel listed a w (i :: rs) := by
 subst hl
 intro j hj
 rcases List.mem_cons.1 hj with rfl | hj
 ·exact wpOp_mono (fun a' w' h' => ⟨fun _ => h'.1, h'.2⟩) h
 ·exact hs j hj
theorem consPs {P : Program} {md : Region.Mode} {ops : Array Oper} {Q : Exit -> Act -> World -> Prop} {S : World -> Prop} {s : Nat} {fuel : Nat} {listed : Array Bool} {a : Act} {w : World} {i : Nat} {rs : List Nat} (l' : Array Bool) (hl : listed.setIfInBounds i true = l') (ht : l'.getD s true = true)
  (h : wpOp P ops Q i (fun a' w' => True /\ wpAnyP P md ops Q S s fuel l' a' w') a w) (hs : AllReadyP P md ops Q S s fuel listed a w rs) : AllReadyP P md ops Q S s fuel listed a w (i :: rs) := by
 subst hl
 intro j hj
 rcases List.mem_cons.1 hj with rfl | hj
 ·exact wpOp_mono (fun a' w' h' => ⟨fun e => (by rw [ht] at e; cases e), h'.2⟩) h
 ·exact hs j hj
theorem wpAnyP_ready {P : Program} {md : Region.Mode} {ops : Array Oper} {Q : Exit -> Act -> World -> Prop} {S : World -> Prop} {s : Nat} {rs : List Nat} {fuel : Nat} {listed : Array Bool} {a : Act} {w : World} (hr : Region.ready md ops listed = rs) (hne : rs ≠ [])
  (h : AllReadyP P md ops Q S s fuel listed a w rs) : wpAnyP P md ops Q S s (fuel + 1) listed a w := ⟨fun h0 => absurd (hr ▸ h0) hne, hr ▸ h⟩
theorem rzP {P : Program} {md : Region.Mode} {ops : Array Oper} {Q : Exit -> Act -> World -> Prop} {S : World -> Prop} {s : Nat} (rs : List Nat) {fuel : Nat} {listed : Array Bool} {a : Act} {w : World} (h : AllReadyP P md ops Q S s fuel listed a w rs) (hr : Region.ready md ops listed = rs := by kernel_rfl) (hne : rs ≠ [] := by simp) : wpAnyP P md ops Q S s (fuel + 1) listed a w := wpAnyP_ready hr hne h
theorem wpAnyP_done {P : Program} {md : Region.Mode} {ops : Array Oper} {Q : Exit -> Act -> World -> Prop} {S : World -> Prop} {s : Nat} {listed : Array Bool} {a : Act} {w : World} (hr : Region.ready md ops listed = []) (h : Q .normal a w) : ∀ fuel, wpAnyP P md ops Q S s fuel listed a w
 | 0 => ⟨hr, h⟩
 | _ + 1 => ⟨fun _ => h, by rw [hr]; simp⟩
theorem wp_region_P {id : Nat} {P : Program} {ops : Array Oper} {Q : Exit -> Act -> World -> Prop} {a : Act} {w : World} (S : World -> Prop) (s : Nat) (hm : P.follows .mixedOrders = true)
  (h : wpAnyP P .any ops Q S s ops.size (Array.replicate ops.size false) a w.drew) : (Code.region id ops true).wp P Q a w := wp_region_any hm (wpAny_of_P _ _ _ _ h)
open Go.RowKit Go.Shelf
attribute [local go_sem] Oper.semAt_some
theorem hopAJ {P : Program} {ops : Array Oper} {Q : Exit -> Act -> World -> Prop} {i : Nat} {o : Oper} {K : Act -> World -> Prop} {a : Act} {w : World} (d : Nat) (ho : ops[i]? = some o) (hg : o.guard = none) (hd : o.dst = some d) (t : TypeId) (hop : o.op = .alloc t) (z : Array Value)
  (hz : ∀ w, (Instr.alloc t true (.tuple #[])).run P w = .ok (.pointer (some ⟨w.heap.size, 0, none⟩)) (w.alloc (.cells z t)))
  (h : ∀ D W', W'.heap[D]? = some (.cells z t) -> w.heap.size <= D -> Below w.heap.size w W' -> K (a.put (some d) (.pointer (some ⟨D, 0, none⟩))) W') : wpOp P ops Q i K a w :=
 hopV d ho hg hd (ex_alloc _ t hop _ _ _ (hz w)) (h _ _ (heap_alloc_new w _) (Nat.le_refl _) ((Below.refl _ w).alloc (Nat.le_refl _) _))
theorem hopBJ {P : Program} {ops : Array Oper} {Q : Exit -> Act -> World -> Prop} {i : Nat} {o : Oper} {K : Act -> World -> Prop} {a : Act} {w : World} (d : Nat) (y : Value) (E : TypeId) (ho : ops[i]? = some o) (hg : o.guard = none) (hd : o.dst = some d)
  (hr : (execOp a.eval o).run P w = .ok (.value (.slice (some ⟨w.heap.size, 0, none⟩) 1 1)) (w.alloc (.cells #[y] E)))
  (h : ∀ I W', W'.heap[I]? = some (.cells #[y] E) -> Below w.heap.size w W' -> K (a.put (some d) (.slice (some ⟨I, 0, none⟩) 1 1)) W') : wpOp P ops Q i K a w :=
 hopV d ho hg hd hr (h _ _ (heap_alloc_new w _) ((Below.refl _ w).alloc (Nat.le_refl _) _))
theorem news_oneJ {W : World} {I : Nat} {y : Value} {E : TypeId} (h : W.heap[I]? = some (.cells #[y] E)) : ∀ j u, [y][j]? = some u -> W.cell? ((⟨I, 0, none⟩ : Addr).add j) = some u := by
 intro j u hj
 match j, hj with
 | 0, hj =>
  simp only [List.getElem?_cons_zero, Option.some.injEq] at hj
  subst hj
  rw [Addr.add_lit, cell_of_row _ I _ _ _ _ h]
  rfl
theorem owns_monoJ {w : World} {E : TypeId} {base b size n : Nat} {v : Value} {xs : List Value} (h : w.ownsRow base E size v n xs) (hb : b <= base) : w.ownsRow b E size v n xs := by
 refine ⟨h.1, ?_⟩
 rcases h.2 with h2 | ⟨g, cap, cur, hv, hg, r⟩
 ·exact .inl h2
 ·exact .inr ⟨g, cap, cur, hv, Nat.le_trans hb hg, r⟩
theorem append_gsJ {SE E : TypeId} {z : Value} {size bytes : Nat} (hu : Tryz.prog.underlying SE = some (.slice E)) (hinfo : (Tryz.prog.info? E).map (fun i => (i.zero, i.size, i.bytes)) = some (some z, size, bytes)) (hzc : z.cells.size = size) (hsz : 0 < size) (hby : bytes <= 64)
  {ops : Array Oper} {rest : List Oper} {o : Oper} {a : Act} {Q : Exit -> Act -> World -> Prop} (W : World) (hgd : o.guard = none) (s x : Operand) (ho : o.op = .call { callee := .builtin .append, args := #[s, x], argTypes := #[SE, SE] })
  (base : Nat) (v : Value) (n : Nat) (xs : List Value) (hs : a.eval s = v) (hown : W.ownsRow base E size v n xs)
  (ad : Addr) (m c : Nat) (news : List Value) (hx : a.eval x = .slice (some ad) m c) (hl : news.length = m * size) (hnews : ∀ j u, news[j]? = some u -> W.cell? (ad.add j) = some u) (h1 : ∀ u ∈ news, u.oneCell' = true)
  (hlen : n + m <= 4000000) (hbase : base <= W.heap.size)
  (h : ∀ v' w', w'.ownsRow base E size v' (n + m) (xs ++ news) -> Grw W w' v.ownBlock v'.ownBlock -> wpList Tryz.prog ops Q rest (a.put o.dst v') w') : wpList Tryz.prog ops Q (o :: rest) a W := by
 obtain ⟨i0, hi, hz0, hz1, hz2⟩ := info3' hinfo
 have hb2 : (n + m) * bytes <= 140737488355328 := Nat.le_trans (Nat.mul_le_mul hlen hby) (by decide)
 have grow : ∀ (w' : World) (v' : Value), w'.ownsRow W.heap.size E size v' (n + m) (xs ++ news) -> W.grownBy w' none -> wpList Tryz.prog ops Q rest (a.put o.dst v') w' := by
  intro w' v' g1 g2
  exact h v' w' (owns_monoJ g1 hbase) ⟨⟨g2.os, g2.tape, g2.output, g2.size, fun k hk _ => g2.block k hk (by simp)⟩, .inr fun k hk => (World.ownsRow.lt g1 k hk).1⟩
 rcases hown.2 with ⟨rfl, h0⟩ | ⟨g, cap, cur, hv, hg, hh, k1, k2, k3, k4⟩
 ·subst h0
  have hx0 : xs = [] := List.eq_nil_of_length_eq_zero (by simpa using hown.1)
  subst hx0
  by_cases hm : m = 0
  ·subst hm
   have hn0 : news = [] := List.eq_nil_of_length_eq_zero (by simpa using hl)
   subst hn0
   refine wpList_append_own W hgd s x SE ho base E i0 z size bytes hu hi hz0 hz1 hz2 hzc hsz (.slice none 0 0) 0 [] hs hown ad 0 c [] hx (by simp) hnews h1 (by simp [maxLen]) (by simp) hbase ?_
   intro v' w' r1 r2 r3
   obtain rfl := r3.2 ⟨rfl, rfl⟩
   exact h _ w' r1 ⟨r2, .inl rfl⟩
  ·refine wpList_append_grows W hgd s x SE ho E i0 z size bytes hu hi hz0 hz1 hz2 hzc hsz none 0 0 [] hs (fun _ => ⟨rfl, rfl⟩) (by simp) (fun b hb => by cases hb) ad m c news hx hl hnews h1 (by omega) (by simp only [maxLen]; omega) hb2 ?_
   intro v' w' r1 r2
   exact grow w' v' r1 r2
 ·by_cases hr : n + m <= cap
  ·subst hv
   refine wpList_append_fits W hgd s x SE ho base E i0 size hu hi hz1 g n cap xs hs hown ad m c news hx hl hnews h1 hr ?_
   intro w' r1 r2
   exact h _ w' r1 ⟨r2, .inl rfl⟩
  ·refine wpList_append_grows W hgd s x SE ho E i0 z size bytes hu hi hz0 hz1 hz2 hzc hsz (some ⟨g, 0, none⟩) n cap xs (by rw [hs, hv]) (fun c => by cases c) hown.1 ?_ ad m c news hx hl hnews h1 (by omega) (by simp only [maxLen]; omega) hb2 ?_
   ·intro b hb j u hj
    cases hb
    exact World.ownsRow.cells hown (by rw [hv]; rfl) j u hj
   ·intro v' w' r1 r2
    exact grow w' v' r1 r2
theorem append_gnJ {SE E : TypeId} {z : Value} {size bytes : Nat} (hu : Tryz.prog.underlying SE = some (.slice E)) (hinfo : (Tryz.prog.info? E).map (fun i => (i.zero, i.size, i.bytes)) = some (some z, size, bytes)) (hzc : z.cells.size = size) (hsz : 0 < size) (hby : bytes <= 64)
  {ops : Array Oper} {rest : List Oper} {o : Oper} {a : Act} {Q : Exit -> Act -> World -> Prop} (W : World) (hgd : o.guard = none) (s x : Operand) (ho : o.op = .call { callee := .builtin .append, args := #[s, x], argTypes := #[SE, SE] })
  (base : Nat) (v : Value) (n : Nat) (xs : List Value) (hs : a.eval s = v) (hown : W.ownsRow base E size v n xs)
  (xo : Option Addr) (m c : Nat) (news : List Value) (hx : a.eval x = .slice xo m c) (hnone : xo = none -> m = 0 /\ c = 0) (hl : news.length = m * size) (hnews : ∀ ad, xo = some ad -> ∀ j u, news[j]? = some u -> W.cell? (ad.add j) = some u) (h1 : ∀ u ∈ news, u.oneCell' = true)
  (hlen : n + m <= 4000000) (hbase : base <= W.heap.size)
  (h : ∀ v' w', w'.ownsRow base E size v' (n + m) (xs ++ news) -> Grw W w' v.ownBlock v'.ownBlock -> wpList Tryz.prog ops Q rest (a.put o.dst v') w') : wpList Tryz.prog ops Q (o :: rest) a W := by
 cases xo with
 | some ad => exact append_gsJ hu hinfo hzc hsz hby W hgd s x ho base v n xs hs hown ad m c news hx hl (hnews ad rfl) h1 hlen hbase h
 | none =>
  obtain ⟨rfl, rfl⟩ := hnone rfl
  obtain ⟨i0, hi, hz0, hz1, hz2⟩ := info3' hinfo
  have hn0 : news = [] := List.eq_nil_of_length_eq_zero (by simpa using hl)
  subst hn0
  refine wpList_append_own_none hgd s x SE ho base E i0 size hu hi v n xs hs hown hx (h v W (by rw [List.append_nil]; exact hown) ⟨⟨rfl, rfl, rfl, Nat.le_refl _, fun _ _ _ => rfl⟩, .inl rfl⟩)
def uJ (us : List Nat) : List Value := us.map fun (u : Nat) => Value.int .u64 (u : Int)
theorem uJ_snoc (us : List Nat) (u : Nat) : uJ (us ++ [u]) = uJ us ++ [.int .u64 (u : Int)] := List.map_append
theorem uJ_at (us : List Nat) (j : Nat) (h : j < us.length) : (uJ us)[j]? = some (.int .u64 ((us[j]?.getD 0 : Nat) : Int)) := by
 unfold uJ
 rw [List.getElem?_map, List.getElem?_eq_getElem h]
 rfl
theorem Tryz.infoUJ : (Tryz.prog.info? 50).map (fun i => (i.zero, i.size, i.bytes)) = some (some (.int .u64 0), 1, 8) := by kernel_rfl
theorem Tryz.infoUsJ : (Tryz.prog.info? 29).map (fun i => (i.zero, i.size, i.bytes)) = some (some (.slice none 0 0), 1, 24) := by kernel_rfl
theorem Tryz.szUss : (Tryz.prog.info? 30).map (·.size) = some 1 := by kernel_rfl
theorem Tryz.infoZu : (Tryz.prog.info? 32).map (·.size) = some 6 := by kernel_rfl
theorem take_snocJ {us : List Nat} {k : Nat} (h : k < us.length) : us.take (k + 1) = us.take k ++ [us[k]?.getD 0] := by
 rw [List.take_succ_eq_append_getElem h, List.getElem?_eq_getElem h]; rfl
theorem oneI : ∀ (x : Value), x.oneCell' = true -> ∀ u ∈ [x], u.oneCell' = true := by
 intro x hx u hu
 simp only [List.mem_cons, List.not_mem_nil, or_false] at hu
 subst hu
 exact hx
theorem bits10_any (ao : Option Addr) (len cap : Nat) (us : List Nat) (w : World) (hr : RdF w ao len cap us) (hl : len <= 1050000) :
  Calls Tryz.prog 22 #[.slice ao len cap] w fun e w' => ∃ v, e = .returned v /\ w'.ownsRow w.heap.size 50 1 v us.length (uJ us) /\ Below w.heap.size w w' := by
 have HR : Hid _ := hr
 have HLN : Hid _ := hr.length
 clear hr
 go_enter Tryz.func22, Tryz.ntmps22
 go_wp2_with fail
 go_loopg [3, 4] len (fun g v u wx => ∃ (i : Nat), u = .int .i64 i /\ i + g = len /\ Hid (wx.ownsRow w.heap.size 50 1 v i (uJ (us.take i))) /\ Hid (Below w.heap.size w wx))
 case atStart => exact ⟨0, rfl, by omega, World.ownsRow_nil _ _ _ _, Below.refl _ _⟩
 case round =>
  obtain ⟨i, rfl, hi, HO, HB⟩ := hrel
  have hsr := HB.out.size
  by_cases hlt : i < len
  ·have hd : decide ((i : Int) < (len : Int)) = true := decide_eq_true (by omega)
   obtain ⟨g, rfl⟩ : ∃ g, gk = g + 1 := ⟨gk - 1, by omega⟩
   rcases (HR.out.later HB.out).cells with h0 | ⟨b, off, rfl, hc⟩
   ·omega
   have g0 := hc i hlt
   have HTS : Hid _ := take_snocJ (us := us) (k := i) (by rw [HLN.out]; exact hlt)
   obtain ⟨x, hx⟩ : ∃ x, us[i]?.getD 0 = x := ⟨_, rfl⟩
   rw [hx] at g0 HTS
   have HIG : Hid _ := hi
   clear hc hi hx
   go_wp2_with (first
    | (go_at_call 41; refine Calls.mono (apiBits_any x _) ?_; rintro e w' ⟨rfl, hw⟩; rw [hw]; clear hw)
    | (at_builtin; refine append_gsJ Tryz.underlying29 Tryz.infoUJ rfl (by decide) (by decide) _ (by rfl) _ _ (by rfl) w.heap.size _ _ _ (by rfl) (World.ownsRow.alloc HO.out _) ⟨wr.heap.size, 0, none⟩ 1 1 [.int .u64 (x : Int)] (by rfl) rfl (news_oneJ (heap_alloc_new wr _)) (oneI _ rfl) (by omega) (by simp only [alloc_size]; omega) ?_; intro v5 w5 o5 g5))
   have B5 : Hid (Below w.heap.size w w5) := (HB.out.alloc hsr _).trans (g5.below (fun k hk => (World.ownsRow.lt HO.out k hk).1) (by simp only [alloc_size]; omega))
   have O5 : Hid _ := o5
   clear o5 g5
   go_roundg g
   case measure => omega
   case rel =>
    refine ⟨i + 1, by go_num, by have := HIG.out; omega, ?_, B5⟩
    unfold Hid
    rw [HTS.out, uJ_snoc]
    exact O5.out
  ·have hd : decide ((i : Int) < (len : Int)) = false := decide_eq_false (by omega)
   have HO2 : Hid (wr.ownsRow w.heap.size 50 1 u3 us.length (uJ us)) := by
    have := HO.out
    rw [List.take_of_length_le (by rw [HLN.out]; omega), show i = us.length by rw [HLN.out]; omega] at this
    exact this
   go_wp2
   go_ret
   exact ⟨_, rfl, HO2.out, HB.out⟩
structure ZW (z : ZD) : Prop where
 c : z.co = none -> z.cn = 0 /\ z.cc = 0
 i : z.io = none -> z.dn = 0 /\ z.dc = 0
 r : z.ro = none -> z.rn = 0 /\ z.rc = 0
 col : ∀ k, k < z.gn -> (z.gv k).1 = none -> (z.gv k).2.1 = 0 /\ (z.gv k).2.2 = 0
 cl : z.cn <= 1050000
 il : z.dn <= 1050000
 gl : z.gn <= 1050000
 rl : z.rn <= 1050000
 coll : ∀ k, k < z.gn -> (z.gv k).2.1 <= 1050000
theorem rdI_news {w : World} {ao : Option Addr} {len cap : Nat} {is : List Int} (h : RdIs w ao len cap is) : ∀ ad, ao = some ad -> ∀ j u, (is.map (Value.int .i64))[j]? = some u -> w.cell? (ad.add j) = some u := by
 intro ad ha j u hj
 have hl : j < is.length := by have := (List.getElem?_eq_some_iff.1 hj).1; rw [List.length_map] at this; exact this
 rw [List.getElem?_map, List.getElem?_eq_getElem hl] at hj
 cases hj
 have hlen := h.length
 rcases h.cells with h0 | ⟨b, off, he, hc⟩
 ·omega
 ·rw [ha] at he
  cases he
  rw [Addr.add_mid]
  have := hc j (by omega)
  rw [List.getElem?_eq_getElem hl] at this
  exact this
theorem intJ_one (is : List Int) : ∀ u ∈ is.map (Value.int .i64), u.oneCell' = true := by
 intro u hu
 obtain ⟨x, _, rfl⟩ := List.mem_map.1 hu
 rfl
theorem rdU_of {w : World} {base : Nat} {v : Value} {us : List Nat} (h : w.ownsRow base 50 1 v us.length (uJ us)) : ∃ ao cap, v = .slice ao us.length cap /\ RdUs w ao us.length cap us := by
 obtain ⟨ao, cap, rfl, hm, hc⟩ := owns_slice h
 refine ⟨ao, cap, rfl, rfl, hm, ?_⟩
 rcases hc with h0 | ⟨g, rfl, hc⟩
 ·exact .inl h0
 ·exact .inr ⟨g, 0, rfl, fun j hj => by rw [Nat.zero_add, hc j hj, uJ_at us j hj]⟩
structure OfL (w : World) (base : Nat) (cs rs : List Nat) (ids : List Int) (gs : List (List Nat)) (vc vr vi vg : Value) (gl : List Value) : Prop where
 c : w.ownsRow base 50 1 vc cs.length (uJ cs)
 r : w.ownsRow base 50 1 vr rs.length (uJ rs)
 i : w.ownsRow base 3 1 vi ids.length (ids.map (Value.int .i64))
 g : w.ownsRow base 29 1 vg gl.length gl
 len : gl.length = gs.length
 col : ∀ (j : Nat) (u : Value), gl[j]? = some u -> w.ownsRow base 50 1 u (gs[j]?.getD []).length (uJ (gs[j]?.getD []))
theorem OfL.keep {w w' : World} {base : Nat} {cs rs : List Nat} {ids : List Int} {gs : List (List Nat)} {vc vr vi vg : Value} {gl : List Value} (h : OfL w base cs rs ids gs vc vr vi vg gl) (hk : ∀ (k : Nat) (cur : Array Value) (t : TypeId), t ≠ 32 -> w.heap[k]? = some (.cells cur t) -> w'.heap[k]? = w.heap[k]?) : OfL w' base cs rs ids gs vc vr vi vg gl :=
 ⟨owns_keepT h.c fun k cur => hk k cur _ (by decide), owns_keepT h.r fun k cur => hk k cur _ (by decide), owns_keepT h.i fun k cur => hk k cur _ (by decide), owns_keepT h.g fun k cur => hk k cur _ (by decide), h.len, fun j u hj => owns_keepT (h.col j u hj) fun k cur => hk k cur _ (by decide)⟩
theorem OfL.later {w w' : World} {base : Nat} {cs rs : List Nat} {ids : List Int} {gs : List (List Nat)} {vc vr vi vg : Value} {gl : List Value} (h : OfL w base cs rs ids gs vc vr vi vg gl) (hb : Below w.heap.size w w') : OfL w' base cs rs ids gs vc vr vi vg gl :=
 ⟨owns_keepT h.c fun k cur hc => hb.block k (blk_lt hc), owns_keepT h.r fun k cur hc => hb.block k (blk_lt hc), owns_keepT h.i fun k cur hc => hb.block k (blk_lt hc), owns_keepT h.g fun k cur hc => hb.block k (blk_lt hc), h.len, fun j u hj => owns_keepT (h.col j u hj) fun k cur hc => hb.block k (blk_lt hc)⟩
theorem OfL.pushI {w w' : World} {base : Nat} {cs rs : List Nat} {ids : List Int} {gs : List (List Nat)} {vc vr vi vg vi' : Value} {gl : List Value} {is : List Int} (h : OfL w base cs rs ids gs vc vr vi vg gl) (hg : Grw w w' vi.ownBlock vi'.ownBlock)
  (ho : w'.ownsRow base 3 1 vi' is.length (is.map (Value.int .i64))) : OfL w' base cs rs is gs vc vr vi' vg gl := by
 have hk := grw_types h.i hg
 exact ⟨owns_keepT h.c fun k cur => hk k cur _ (by decide), owns_keepT h.r fun k cur => hk k cur _ (by decide), ho, owns_keepT h.g fun k cur => hk k cur _ (by decide), h.len, fun j u hj => owns_keepT (h.col j u hj) fun k cur => hk k cur _ (by decide)⟩
theorem OfL.pushG {w w' : World} {base : Nat} {cs rs us : List Nat} {ids : List Int} {gs : List (List Nat)} {vc vr vi vg vg' v : Value} {gl : List Value} (h : OfL w base cs rs ids gs vc vr vi vg gl) (hg : Grw w w' vg.ownBlock vg'.ownBlock)
  (ho : w'.ownsRow base 29 1 vg' (gl.length + 1) (gl ++ [v])) (hv : w.ownsRow base 50 1 v us.length (uJ us)) : OfL w' base cs rs ids (gs ++ [us]) vc vr vi vg' (gl ++ [v]) := by
 have hk := grw_types h.g hg
 refine ⟨owns_keepT h.c fun k cur => hk k cur _ (by decide), owns_keepT h.r fun k cur => hk k cur _ (by decide), owns_keepT h.i fun k cur => hk k cur _ (by decide), by simpa using ho, by simp [h.len], fun j u hj => ?_⟩
 by_cases e : j < gl.length
 ·rw [List.getElem?_append_left e] at hj
  rw [List.getElem?_append_left (by rw [<- h.len]; exact e)]
  exact owns_keepT (h.col j u hj) fun k cur => hk k cur _ (by decide)
 ·have hl := (List.getElem?_eq_some_iff.1 hj).1
  have ej : j = gl.length := by simp at hl; omega
  subst ej
  rw [List.getElem?_append_right (Nat.le_refl _), Nat.sub_self, List.getElem?_cons_zero] at hj
  cases hj
  rw [List.getElem?_append_right (by rw [h.len]; exact Nat.le_refl _), h.len, Nat.sub_self, List.getElem?_cons_zero]
  exact owns_keepT hv fun k cur => hk k cur _ (by decide)
theorem OfL.zu {w : World} {base : Nat} {cs rs : List Nat} {ids : List Int} {gs : List (List Nat)} {vc vr vi vg : Value} {gl : List Value} (h : OfL w base cs rs ids gs vc vr vi vg gl) (N : Int) (bad : Bool) :
  ∃ u : ZD, (.agg #[.int .i64 N, vc, vi, vg, vr, .bool bad] : Value) = .agg (zRow u) /\ ZU w u /\ u.N = N /\ u.bad = bad /\ u.cs = cs /\ u.rs = rs /\ u.ids = ids /\ u.gs = gs /\ u.dn = ids.length /\ u.gn = gs.length /\ u.cn = cs.length /\ u.rn = rs.length := by
 obtain ⟨co, cc, rfl, hc⟩ := rdU_of h.c
 obtain ⟨ro, rc, rfl, hr⟩ := rdU_of h.r
 obtain ⟨io, dc, rfl, hm1, h1⟩ := owns_slice h.i
 obtain ⟨go, gc, rfl, hm2, h2⟩ := owns_slice h.g
 have hx : ∀ j : Nat, ∃ p : Option Addr × Nat × Nat, j < gl.length -> gl[j]? = some (.slice p.1 p.2.1 p.2.2) /\ RdUs w p.1 p.2.1 p.2.2 (gs[j]?.getD []) := fun j => by
  by_cases hj : j < gl.length
  ·obtain ⟨ao, cap, hv, hr⟩ := rdU_of (h.col j _ (List.getElem?_eq_getElem hj))
   exact ⟨(ao, _, cap), fun _ => ⟨by rw [List.getElem?_eq_getElem hj, hv], hr⟩⟩
  ·exact ⟨(none, 0, 0), fun h => absurd h hj⟩
 have hln := h.len
 refine ⟨⟨N, co, cs.length, cc, io, ids.length, dc, go, gl.length, gc, ro, rs.length, rc, bad, cs, ids, fun j => Classical.choose (hx j), gs, rs⟩, rfl, ⟨hc, ⟨rfl, hm1, ?_⟩, ⟨hln.symm, hm2, ?_, fun j hj => (Classical.choose_spec (hx j) hj).2⟩, hr⟩, rfl, rfl, rfl, rfl, rfl, rfl, rfl, hln, rfl, rfl⟩
 ·rcases h1 with h0 | ⟨g, rfl, hc⟩
  ·exact .inl h0
  ·refine .inr ⟨g, 0, rfl, fun j hj => ?_⟩
   dsimp only at hj ⊢
   rw [Nat.zero_add, hc j hj, List.getElem?_map, List.getElem?_eq_getElem hj]
   rfl
 ·rcases h2 with h0 | ⟨g, rfl, hc⟩
  ·exact .inl h0
  ·refine .inr ⟨g, 0, rfl, fun j hj => ?_⟩
   rw [Nat.zero_add, hc j hj, (Classical.choose_spec (hx j) hj).1]
theorem allocUJ (w : World) : (Instr.alloc 32 true (.tuple #[])).run Tryz.prog w = .ok (.pointer (some ⟨w.heap.size, 0, none⟩)) (w.alloc (.cells #[.int .i64 0, .slice none 0 0, .slice none 0 0, .slice none 0 0, .slice none 0 0, .bool false] 32)) := by kernel_rfl
theorem take_snocG {us : List (List Nat)} {k : Nat} (h : k < us.length) : us.take (k + 1) = us.take k ++ [us[k]?.getD []] := by
 rw [List.take_succ_eq_append_getElem h, List.getElem?_eq_getElem h]; rfl
theorem rdGs_at {w : World} {b off len cap : Nat} {gv : Nat -> Option Addr × Nat × Nat} {gs : List (List Nat)} (h : RdGs w (some ⟨b, off, none⟩) len cap gv gs) {k : Nat} (hk : k < len) : w.cell? ⟨b, off + k, none⟩ = some (.slice (gv k).1 (gv k).2.1 (gv k).2.2) := by
 rcases h.cells with h0 | ⟨b', off', e, hc⟩
 ·omega
 ·cases e
  exact hc k hk
theorem of10_any (z : ZD) (w : World) (hz : ZR w z) (hw : ZW z) :
  Calls Tryz.prog 7 #[.agg (zRow z)] w fun e w' => ∃ u : ZD, e = .returned (.agg (zRow u)) /\ ZU w' u /\ u.N = z.N /\ u.bad = z.bad /\ u.cs = z.cs /\ u.rs = z.rs /\ u.ids = z.ids /\ u.gs = z.gs /\ u.dn = z.dn /\ u.gn = z.gn /\ u.cn = z.cn /\ u.rn = z.rn /\ Below w.heap.size w w' := by
 obtain ⟨N, co, cn, cc, io, dn, dc, go, gn, gc, ro, rn, rc, bad, cs, ids, gv, gs, rs⟩ := z
 have HC : Hid (∀ W', Below w.heap.size w W' -> Calls Tryz.prog 22 #[.slice co cn cc] W' fun e w' => ∃ v, e = .returned v /\ w'.ownsRow W'.heap.size 50 1 v cs.length (uJ cs) /\ Below W'.heap.size W' w') := fun W' hb => bits10_any co cn cc cs W' (hz.later hb).c hw.cl
 have HR : Hid (∀ W', Below w.heap.size w W' -> Calls Tryz.prog 22 #[.slice ro rn rc] W' fun e w' => ∃ v, e = .returned v /\ w'.ownsRow W'.heap.size 50 1 v rs.length (uJ rs) /\ Below W'.heap.size W' w') := fun W' hb => bits10_any ro rn rc rs W' (hz.later hb).r hw.rl
 have HG : Hid (∀ x, x < gn -> ∀ W', Below w.heap.size w W' -> Calls Tryz.prog 22 #[.slice (gv x).1 (gv x).2.1 (gv x).2.2] W' fun e w' => ∃ v, e = .returned v /\ w'.ownsRow W'.heap.size 50 1 v (gs[x]?.getD []).length (uJ (gs[x]?.getD [])) /\ Below W'.heap.size W' w') := fun x hx W' hb => bits10_any _ _ _ _ W' ((hz.later hb).g.each x hx) (hw.coll x hx)
 have HIR : Hid (∀ W', Below w.heap.size w W' -> RdIs W' io dn dc ids) := fun W' hb => (hz.later hb).i
 have HGR : Hid (∀ W', Below w.heap.size w W' -> RdGs W' go gn gc gv gs) := fun W' hb => (hz.later hb).g
 have HNI : Hid (io = none -> dn = 0 /\ dc = 0) := hw.i
 have HLN : Hid (ids.length = dn /\ gs.length = gn) := ⟨hz.i.length, hz.g.length⟩
 have HLC : Hid (cs.length = cn /\ rs.length = rn) := ⟨hz.c.length, hz.r.length⟩
 have hdl : dn <= 1050000 := hw.il
 have hgl : gn <= 1050000 := hw.gl
 clear hz hw
 have X0 : Below w.heap.size w ((w.alloc (.cells #[.int .i64 N, .slice co cn cc, .slice io dn dc, .slice go gn gc, .slice ro rn rc, .bool bad] 26)).alloc (.cells #[.int .i64 0, .slice none 0 0, .slice none 0 0, .slice none 0 0, .slice none 0 0, .bool false] 32)) := ((Below.refl _ w).alloc (Nat.le_refl _) _).alloc (by simp only [alloc_size]; omega) _
 have Y0 : ((w.alloc (.cells #[.int .i64 N, .slice co cn cc, .slice io dn dc, .slice go gn gc, .slice ro rn rc, .bool bad] 26)).alloc (.cells #[.int .i64 0, .slice none 0 0, .slice none 0 0, .slice none 0 0, .slice none 0 0, .bool false] 32)).heap[w.heap.size]? = some (.cells #[.int .i64 N, .slice co cn cc, .slice io dn dc, .slice go gn gc, .slice ro rn rc, .bool bad] 26) := alloc_kept (heap_alloc_new w _) _
 have Y1 : ((w.alloc (.cells #[.int .i64 N, .slice co cn cc, .slice io dn dc, .slice go gn gc, .slice ro rn rc, .bool bad] 26)).alloc (.cells #[.int .i64 0, .slice none 0 0, .slice none 0 0, .slice none 0 0, .slice none 0 0, .bool false] 32)).heap[w.heap.size + 1]? = some (.cells #[.int .i64 0, .slice none 0 0, .slice none 0 0, .slice none 0 0, .slice none 0 0, .bool false] 32) := heap_at _ _ (w.heap.size + 1) (by simp only [alloc_size])
 unfold zRow
 dsimp only
 go_enter Tryz.func7, Tryz.ntmps7
 go_upto_region 1 with fail
 obtain ⟨X, hX⟩ : ∃ X, ((w.alloc (.cells #[.int .i64 N, .slice co cn cc, .slice io dn dc, .slice go gn gc, .slice ro rn rc, .bool bad] 26)).alloc (.cells #[.int .i64 0, .slice none 0 0, .slice none 0 0, .slice none 0 0, .slice none 0 0, .bool false] 32)) = X := ⟨_, rfl⟩
 rw [hX] at X0 Y0 Y1 ⊢
 clear hX
 have HX : Hid (Below w.heap.size w X /\ X.heap[w.heap.size]? = some (.cells #[.int .i64 N, .slice co cn cc, .slice io dn dc, .slice go gn gc, .slice ro rn rc, .bool bad] 26) /\ X.heap[w.heap.size + 1]? = some (.cells #[.int .i64 0, .slice none 0 0, .slice none 0 0, .slice none 0 0, .slice none 0 0, .bool false] 32)) := ⟨X0, Y0, Y1⟩
 clear X0 Y0 Y1
 go_cut [3] (fun v wx => ∃ D vc vr, v = .pointer (some ⟨D, 0, none⟩) /\ Hid (wx.heap[D]? = some (.cells #[.int .i64 N, vc, .slice none 0 0, .slice none 0 0, vr, .bool bad] 32)) /\ Hid (OfL wx w.heap.size cs rs [] [] vc vr (.slice none 0 0) (.slice none 0 0) []) /\ Hid (Below w.heap.size w wx) /\ Hid (wx.heap[w.heap.size]? = some (.cells #[.int .i64 N, .slice co cn cc, .slice io dn dc, .slice go gn gc, .slice ro rn rc, .bool bad] 26) /\ wx.heap[w.heap.size + 1]? = some (.cells #[.int .i64 0, .slice none 0 0, .slice none 0 0, .slice none 0 0, .slice none 0 0, .bool false] 32)) /\ w.heap.size + 1 < D)
 case first =>
  have bX : Below X.heap.size X X.drew := (Below.refl _ _).drew
  refine wp_region_noPanic ?_
  refine wp_region_held_drew (S := (fun W' => Below X.heap.size X W')) (by kernel_rfl) bX (fun _ => ?_)
  refine tzI 5 0 ?_ ?_ bX ?_
  rotate_left
  ·intro w' hSw; obtain ⟨c0, c1, c2, c3, c4, c5⟩ := cells6 ((hSw.block _ (blk_lt HX.out.2.1)).trans HX.out.2.1); go_simp; try with_reducible rfl
  try simp only [pA,pE,pB,pC,pD]
  refine tzI 6 1 ?_ ?_ bX ?_
  rotate_left
  ·intro w' hSw; obtain ⟨c0, c1, c2, c3, c4, c5⟩ := cells6 ((hSw.block _ (blk_lt HX.out.2.1)).trans HX.out.2.1); go_simp; try with_reducible rfl
  try simp only [pA,pE,pB,pC,pD]
  refine tzI 7 2 ?_ ?_ bX ?_
  rotate_left
  ·intro w' hSw; obtain ⟨c0, c1, c2, c3, c4, c5⟩ := cells6 ((hSw.block _ (blk_lt HX.out.2.1)).trans HX.out.2.1); go_simp; try with_reducible rfl
  try simp only [pA,pE,pB,pC,pD]
  refine tzI 8 3 ?_ ?_ bX ?_
  rotate_left
  ·intro w' hSw; obtain ⟨c0, c1, c2, c3, c4, c5⟩ := cells6 ((hSw.block _ (blk_lt HX.out.2.1)).trans HX.out.2.1); go_simp; try with_reducible rfl
  try simp only [pA,pE,pB,pC,pD]
  refine tzI 10 5 ?_ ?_ bX ?_
  rotate_left
  ·intro w' hSw; obtain ⟨c0, c1, c2, c3, c4, c5⟩ := cells6 ((hSw.block _ (blk_lt HX.out.2.1)).trans HX.out.2.1); go_simp; try with_reducible rfl
  try simp only [pA,pE,pB,pC,pD]
  refine tzI 11 6 ?_ ?_ bX ?_
  rotate_left
  ·intro w' hSw; obtain ⟨c0, c1, c2, c3, c4, c5⟩ := cells6 ((hSw.block _ (blk_lt HX.out.2.1)).trans HX.out.2.1); go_simp; try with_reducible rfl
  try simp only [pA,pE,pB,pC,pD]
  refine tzI 13 8 ?_ ?_ bX ?_
  rotate_left
  ·intro w' hSw; obtain ⟨c0, c1, c2, c3, c4, c5⟩ := cells6 ((hSw.block _ (blk_lt HX.out.2.1)).trans HX.out.2.1); go_simp; try with_reducible rfl
  try simp only [pA,pE,pB,pC,pD]
  refine tzI 14 9 ?_ ?_ bX ?_
  rotate_left
  ·intro w' hSw; obtain ⟨c0, c1, c2, c3, c4, c5⟩ := cells6 ((hSw.block _ (blk_lt HX.out.2.1)).trans HX.out.2.1); go_simp; try with_reducible rfl
  try simp only [pA,pE,pB,pC,pD]
  obtain ⟨V, hV⟩ : ∃ V, X.drew = V := ⟨_, rfl⟩
  have bV : Below X.heap.size X V := hV ▸ bX
  rw [hV]
  clear hV bX
  refine rzH [4, 11] ?_
  refine consH _ rfl ?_ (consH _ rfl ?_ AllReadyH.nil)
  ·refine hzC 9 (Calls.mono (HC.out _ (HX.out.1.trans (bV.mono HX.out.1.size))) ?_)
   rintro e Vc ⟨vc, rfl, o1, hb⟩
   obtain ⟨avc, pvc, hvc, -⟩ := owns_slice o1
   subst hvc
   have bVc : Below X.heap.size X Vc := bV.trans (hb.mono bV.size)
   have ocVc := owns_monoJ o1 bV.size
   clear o1 hb
   refine ⟨_, rfl, bVc, ?_⟩
   try simp only [pA,pE,pB,pC,pD]
   refine rzH [7, 11] ?_
   refine consH _ rfl ?_ (consH _ rfl ?_ AllReadyH.nil)
   ·refine hzC 12 (Calls.mono (HR.out _ (HX.out.1.trans (bVc.mono HX.out.1.size))) ?_)
    rintro e Vcr ⟨vr, rfl, o1, hb⟩
    obtain ⟨avr, pvr, hvr, -⟩ := owns_slice o1
    subst hvr
    have bVcr : Below X.heap.size X Vcr := bVc.trans (hb.mono bVc.size)
    have ocVcr := owns_keepT ocVc fun k cur hc => hb.block k (blk_lt hc)
    have orVcr := owns_monoJ o1 bVc.size
    clear o1 hb
    refine ⟨_, rfl, bVcr, ?_⟩
    try simp only [pA,pE,pB,pC,pD]
    refine tzH 15 10 (.agg #[.int .i64 N, (.slice avc cs.length pvc), .slice none 0 0, .slice none 0 0, (.slice avr rs.length pvr), .bool bad]) (Or.inl ⟨by kernel_rfl, fun w' _ => by kernel_rfl⟩) bVcr ?_
    try simp only [pA,pE,pB,pC,pD]
    refine rzH [11] ?_
    refine consH _ rfl ?_ AllReadyH.nil
    ·refine hopAJ 3 rfl rfl rfl 32 rfl #[.int .i64 0, .slice none 0 0, .slice none 0 0, .slice none 0 0, .slice none 0 0, .bool false] allocUJ fun D Vcra hDVcra hDl hb => ?_
     have bVcra : Below X.heap.size X Vcra := bVcr.trans (hb.mono bVcr.size)
     have hDX : X.heap.size <= D := Nat.le_trans bVcr.size hDl
     have ocVcra := owns_keepT ocVcr fun k cur hc => hb.block k (blk_lt hc)
     have orVcra := owns_keepT orVcr fun k cur hc => hb.block k (blk_lt hc)
     refine ⟨bVcra, ?_⟩
     try simp only [pA,pE,pB,pC,pD]
     refine rzH [12] ?_
     refine consH _ rfl (hopL rfl (wpList_store_row (by rfl) 32 _ _ (by rfl) X X.heap.size D #[.int .i64 N, (.slice avc cs.length pvc), .slice none 0 0, .slice none 0 0, (.slice avr rs.length pvr), .bool bad] _ (by kernel_rfl) (by kernel_rfl) hDVcra bVcra hDX 6 Tryz.infoZu (by rfl) (by rfl) (oneZ _ _ _ _ _ (own_valJ ocVcra).1 rfl rfl (own_valJ orVcra).1 _) fun W9 e9 b9 hs9 ho9 => ?_)) AllReadyH.nil
     refine (And.intro b9 ?_ : _ /\ _)
     try simp only [pA,pE,pB,pC,pD]
     refine wpAnyH_done (by kernel_rfl) ?_ _
     refine NoPanic.normal ?_
     try simp only [pA,pE,pB,pC,pD]
     go_wp2_with fail
     go_meet
     have hk9 : ∀ (k : Nat) (cur : Array Value), Vcra.heap[k]? = some (.cells cur 50) -> W9.heap[k]? = Vcra.heap[k]? := fun k cur hc => ho9 k (by rintro rfl; rw [hDVcra] at hc; cases hc)
     exact ⟨D, .slice avc cs.length pvc, .slice avr rs.length pvr, rfl, e9, ⟨owns_monoJ (owns_keepT ocVcra hk9) HX.out.1.size, owns_monoJ (owns_keepT orVcra hk9) HX.out.1.size, World.ownsRow_nil _ _ _ _, World.ownsRow_nil _ _ _ _, rfl, fun j u hj => (by simp at hj)⟩, HX.out.1.trans (b9.mono HX.out.1.size), ⟨(b9.block _ (blk_lt HX.out.2.1)).trans HX.out.2.1, (b9.block _ (blk_lt HX.out.2.2)).trans HX.out.2.2⟩, Nat.lt_of_lt_of_le (blk_lt HX.out.2.2) hDX⟩
   ·refine hopAJ 3 rfl rfl rfl 32 rfl #[.int .i64 0, .slice none 0 0, .slice none 0 0, .slice none 0 0, .slice none 0 0, .bool false] allocUJ fun D Vca hDVca hDl hb => ?_
    have bVca : Below X.heap.size X Vca := bVc.trans (hb.mono bVc.size)
    have hDX : X.heap.size <= D := Nat.le_trans bVc.size hDl
    have ocVca := owns_keepT ocVc fun k cur hc => hb.block k (blk_lt hc)
    refine ⟨bVca, ?_⟩
    try simp only [pA,pE,pB,pC,pD]
    refine rzH [7] ?_
    refine consH _ rfl ?_ AllReadyH.nil
    ·refine hzC 12 (Calls.mono (HR.out _ (HX.out.1.trans (bVca.mono HX.out.1.size))) ?_)
     rintro e Vcar ⟨vr, rfl, o1, hb⟩
     obtain ⟨avr, pvr, hvr, -⟩ := owns_slice o1
     subst hvr
     have bVcar : Below X.heap.size X Vcar := bVca.trans (hb.mono bVca.size)
     have ocVcar := owns_keepT ocVca fun k cur hc => hb.block k (blk_lt hc)
     have hDVcar := kept hb hDVca
     have orVcar := owns_monoJ o1 bVca.size
     clear o1 hb
     refine ⟨_, rfl, bVcar, ?_⟩
     try simp only [pA,pE,pB,pC,pD]
     refine tzH 15 10 (.agg #[.int .i64 N, (.slice avc cs.length pvc), .slice none 0 0, .slice none 0 0, (.slice avr rs.length pvr), .bool bad]) (Or.inl ⟨by kernel_rfl, fun w' _ => by kernel_rfl⟩) bVcar ?_
     try simp only [pA,pE,pB,pC,pD]
     refine rzH [12] ?_
     refine consH _ rfl (hopL rfl (wpList_store_row (by rfl) 32 _ _ (by rfl) X X.heap.size D #[.int .i64 N, (.slice avc cs.length pvc), .slice none 0 0, .slice none 0 0, (.slice avr rs.length pvr), .bool bad] _ (by kernel_rfl) (by kernel_rfl) hDVcar bVcar hDX 6 Tryz.infoZu (by rfl) (by rfl) (oneZ _ _ _ _ _ (own_valJ ocVcar).1 rfl rfl (own_valJ orVcar).1 _) fun W9 e9 b9 hs9 ho9 => ?_)) AllReadyH.nil
     refine (And.intro b9 ?_ : _ /\ _)
     try simp only [pA,pE,pB,pC,pD]
     refine wpAnyH_done (by kernel_rfl) ?_ _
     refine NoPanic.normal ?_
     try simp only [pA,pE,pB,pC,pD]
     go_wp2_with fail
     go_meet
     have hk9 : ∀ (k : Nat) (cur : Array Value), Vcar.heap[k]? = some (.cells cur 50) -> W9.heap[k]? = Vcar.heap[k]? := fun k cur hc => ho9 k (by rintro rfl; rw [hDVcar] at hc; cases hc)
     exact ⟨D, .slice avc cs.length pvc, .slice avr rs.length pvr, rfl, e9, ⟨owns_monoJ (owns_keepT ocVcar hk9) HX.out.1.size, owns_monoJ (owns_keepT orVcar hk9) HX.out.1.size, World.ownsRow_nil _ _ _ _, World.ownsRow_nil _ _ _ _, rfl, fun j u hj => (by simp at hj)⟩, HX.out.1.trans (b9.mono HX.out.1.size), ⟨(b9.block _ (blk_lt HX.out.2.1)).trans HX.out.2.1, (b9.block _ (blk_lt HX.out.2.2)).trans HX.out.2.2⟩, Nat.lt_of_lt_of_le (blk_lt HX.out.2.2) hDX⟩
  ·refine hopAJ 3 rfl rfl rfl 32 rfl #[.int .i64 0, .slice none 0 0, .slice none 0 0, .slice none 0 0, .slice none 0 0, .bool false] allocUJ fun D Va hDVa hDl hb => ?_
   have bVa : Below X.heap.size X Va := bV.trans (hb.mono bV.size)
   have hDX : X.heap.size <= D := Nat.le_trans bV.size hDl
   refine ⟨bVa, ?_⟩
   try simp only [pA,pE,pB,pC,pD]
   refine rzH [4] ?_
   refine consH _ rfl ?_ AllReadyH.nil
   ·refine hzC 9 (Calls.mono (HC.out _ (HX.out.1.trans (bVa.mono HX.out.1.size))) ?_)
    rintro e Vac ⟨vc, rfl, o1, hb⟩
    obtain ⟨avc, pvc, hvc, -⟩ := owns_slice o1
    subst hvc
    have bVac : Below X.heap.size X Vac := bVa.trans (hb.mono bVa.size)
    have hDVac := kept hb hDVa
    have ocVac := owns_monoJ o1 bVa.size
    clear o1 hb
    refine ⟨_, rfl, bVac, ?_⟩
    try simp only [pA,pE,pB,pC,pD]
    refine rzH [7] ?_
    refine consH _ rfl ?_ AllReadyH.nil
    ·refine hzC 12 (Calls.mono (HR.out _ (HX.out.1.trans (bVac.mono HX.out.1.size))) ?_)
     rintro e Vacr ⟨vr, rfl, o1, hb⟩
     obtain ⟨avr, pvr, hvr, -⟩ := owns_slice o1
     subst hvr
     have bVacr : Below X.heap.size X Vacr := bVac.trans (hb.mono bVac.size)
     have ocVacr := owns_keepT ocVac fun k cur hc => hb.block k (blk_lt hc)
     have hDVacr := kept hb hDVac
     have orVacr := owns_monoJ o1 bVac.size
     clear o1 hb
     refine ⟨_, rfl, bVacr, ?_⟩
     try simp only [pA,pE,pB,pC,pD]
     refine tzH 15 10 (.agg #[.int .i64 N, (.slice avc cs.length pvc), .slice none 0 0, .slice none 0 0, (.slice avr rs.length pvr), .bool bad]) (Or.inl ⟨by kernel_rfl, fun w' _ => by kernel_rfl⟩) bVacr ?_
     try simp only [pA,pE,pB,pC,pD]
     refine rzH [12] ?_
     refine consH _ rfl (hopL rfl (wpList_store_row (by rfl) 32 _ _ (by rfl) X X.heap.size D #[.int .i64 N, (.slice avc cs.length pvc), .slice none 0 0, .slice none 0 0, (.slice avr rs.length pvr), .bool bad] _ (by kernel_rfl) (by kernel_rfl) hDVacr bVacr hDX 6 Tryz.infoZu (by rfl) (by rfl) (oneZ _ _ _ _ _ (own_valJ ocVacr).1 rfl rfl (own_valJ orVacr).1 _) fun W9 e9 b9 hs9 ho9 => ?_)) AllReadyH.nil
     refine (And.intro b9 ?_ : _ /\ _)
     try simp only [pA,pE,pB,pC,pD]
     refine wpAnyH_done (by kernel_rfl) ?_ _
     refine NoPanic.normal ?_
     try simp only [pA,pE,pB,pC,pD]
     go_wp2_with fail
     go_meet
     have hk9 : ∀ (k : Nat) (cur : Array Value), Vacr.heap[k]? = some (.cells cur 50) -> W9.heap[k]? = Vacr.heap[k]? := fun k cur hc => ho9 k (by rintro rfl; rw [hDVacr] at hc; cases hc)
     exact ⟨D, .slice avc cs.length pvc, .slice avr rs.length pvr, rfl, e9, ⟨owns_monoJ (owns_keepT ocVacr hk9) HX.out.1.size, owns_monoJ (owns_keepT orVacr hk9) HX.out.1.size, World.ownsRow_nil _ _ _ _, World.ownsRow_nil _ _ _ _, rfl, fun j u hj => (by simp at hj)⟩, HX.out.1.trans (b9.mono HX.out.1.size), ⟨(b9.block _ (blk_lt HX.out.2.1)).trans HX.out.2.1, (b9.block _ (blk_lt HX.out.2.2)).trans HX.out.2.2⟩, Nat.lt_of_lt_of_le (blk_lt HX.out.2.2) hDX⟩
 case rest =>
 obtain ⟨D, vc, vr, rfl, ED, EL, EB, EK, hDl'⟩ := hcut
 have hDl : w.heap.size <= D := by omega
 have hDz : w.heap.size ≠ D := by omega
 have hD1 : w.heap.size + 1 ≠ D := by omega
 clear HX HC HR
 obtain ⟨d0, d1, d2, d3, d4, d5⟩ := cells6 ED.out
 obtain ⟨z0, z1, z2, z3, z4, z5⟩ := cells6 EK.out.1
 go_upto_region 3 with (first
  | (at_builtin; refine append_gnJ Tryz.underlying23 Tryz.infoIJ rfl (by decide) (by decide) wc (by rfl) _ _ (by rfl) w.heap.size (.slice none 0 0) 0 [] (by rfl) (World.ownsRow_nil _ _ _ _) io dn dc (ids.map (Value.int .i64)) (by rfl) HNI.out (by rw [List.length_map, HLN.out.1]; omega) (rdI_news (HIR.out _ EB.out)) (intJ_one ids) (by omega) EB.out.size ?_; intro vi w1 o1 g1; rw [List.nil_append, Nat.zero_add, <- HLN.out.1] at o1; have s1D : w1.heap[D]? = _ := (g1.by'.block D (blk_lt ED.out) (by intro e; cases e)).trans ED.out; have q1 : Below w.heap.size w w1 := EB.out.trans (g1.below (fun k hk => by cases hk) EB.out.size))
  | (refine wpList_store_at (by rfl) 23 _ _ (by rfl) w w.heap.size D 2 vi _ #[.int .i64 N, vc, vi, .slice none 0 0, vr, .bool bad] 32 (by rfl) (by rfl) s1D q1 hDl 1 Tryz.szIs (by rw [(own_valJ o1).2]; rfl) (Nat.le_of_ble_eq_true rfl) (by intro u hu; rw [(own_valJ o1).2] at hu; simp only [List.mem_cons, List.not_mem_nil, or_false] at hu; subst hu; exact (own_valJ o1).1) (by rw [(own_valJ o1).2]; rfl) ?_; intro w2 e2 b2 s2 k2))
 have L2 : OfL w2 w.heap.size cs rs ids [] vc vr vi (.slice none 0 0) [] := (EL.out.pushI (vi' := vi) g1 o1).keep fun k cur t ht hc => k2 k (by rintro rfl; rw [s1D] at hc; cases hc; exact ht rfl)
 have Z2 : w2.heap[w.heap.size]? = some (.cells #[.int .i64 N, .slice co cn cc, .slice io dn dc, .slice go gn gc, .slice ro rn rc, .bool bad] 26) := (k2 _ hDz).trans ((g1.by'.block _ (blk_lt EK.out.1) (by intro e; cases e)).trans EK.out.1)
 have R2 : w2.heap[w.heap.size + 1]? = some (.cells #[.int .i64 0, .slice none 0 0, .slice none 0 0, .slice none 0 0, .slice none 0 0, .bool false] 32) := (k2 _ hD1).trans ((g1.by'.block _ (blk_lt EK.out.2) (by intro e; cases e)).trans EK.out.2)
 have H2 : Hid _ := And.intro e2 (And.intro L2 (And.intro b2 (And.intro Z2 R2)))
 clear e2 L2 b2 Z2 R2 s2 k2 o1 g1 s1D q1 ED EL EB EK d0 d1 d2 d3 d4 d5 z0 z1 z2 z3 z4 z5 HIR HNI
 go_wp2_with fail
 go_loopg [4] gn (fun g u wx => ∃ (k : Nat) (vg : Value) (gl : List Value), u = .int .i64 k /\ k + g = gn /\ Hid (OfL wx w.heap.size cs rs ids (gs.take k) vc vr vi vg gl) /\ Hid (wx.heap[D]? = some (.cells #[.int .i64 N, vc, vi, vg, vr, .bool bad] 32)) /\ Hid (Below w.heap.size w wx) /\ Hid (wx.heap[w.heap.size]? = some (.cells #[.int .i64 N, .slice co cn cc, .slice io dn dc, .slice go gn gc, .slice ro rn rc, .bool bad] 26) /\ wx.heap[w.heap.size + 1]? = some (.cells #[.int .i64 0, .slice none 0 0, .slice none 0 0, .slice none 0 0, .slice none 0 0, .bool false] 32)))
 case atStart =>
  obtain ⟨e2, L2, b2, z2, r2⟩ := H2.out
  exact ⟨0, _, [], rfl, by omega, L2, e2, b2, ⟨z2, r2⟩⟩
 case round =>
  obtain ⟨k, vg, gl, rfl, hk, HL, HD, HB, HK⟩ := hrel
  clear H2
  obtain ⟨z0, z1, z2, z3, z4, z5⟩ := cells6 HK.out.1
  by_cases hlt : k < gn
  ·have hd : decide ((k : Int) < (gn : Int)) = true := decide_eq_true (by omega)
   obtain ⟨g, rfl⟩ : ∃ g, gk = g + 1 := ⟨gk - 1, by omega⟩
   have HIG : Hid _ := hk
   obtain ⟨gb, goff, rfl⟩ : ∃ gb goff, go = some ⟨gb, goff, none⟩ := by
    rcases (HGR.out wr HB.out).cells with h0 | ⟨b, off, e, _⟩
    ·omega
    ·exact ⟨b, off, e⟩
   go_upto_region 6 with fail
   have HLG : Hid (gl.length + 1 <= 4000000) := by unfold Hid; have := HL.out.len; rw [List.length_take] at this; omega
   have sV : wr.drew.heap[D]? = some (.cells #[.int .i64 N, vc, vi, vg, vr, .bool bad] 32) /\ wr.drew.heap[w.heap.size]? = some (.cells #[.int .i64 N, .slice co cn cc, .slice io dn dc, .slice (some ⟨gb, goff, none⟩) gn gc, .slice ro rn rc, .bool bad] 26) /\ RdGs wr.drew (some ⟨gb, goff, none⟩) gn gc gv gs := ⟨HD.out, HK.out.1, HGR.out _ HB.out.drew⟩
   have rV : wr.drew.heap[w.heap.size + 1]? = some (.cells #[.int .i64 0, .slice none 0 0, .slice none 0 0, .slice none 0 0, .slice none 0 0, .bool false] 32) := HK.out.2
   have LV := HL.out.keep (w' := wr.drew) fun _ _ _ _ _ => rfl
   have qV : Below w.heap.size w wr.drew := HB.out.drew
   clear z0 z1 z2 z3 z4 z5 hk
   refine wp_region_noPanic ?_
   refine wp_region_P (fun V => V.heap[D]? = some (.cells #[.int .i64 N, vc, vi, vg, vr, .bool bad] 32) /\ V.heap[w.heap.size]? = some (.cells #[.int .i64 N, .slice co cn cc, .slice io dn dc, .slice (some ⟨gb, goff, none⟩) gn gc, .slice ro rn rc, .bool bad] 26) /\ RdGs V (some ⟨gb, goff, none⟩) gn gc gv gs) 11 (by kernel_rfl) ?_
   refine tzQ 29 0 ?_ ?_ (fun _ => sV) ?_
   rotate_left
   ·intro w' hSw; go_simp; try with_reducible rfl
   try simp only [pA,pE,pB,pC,pD]
   refine tzP 30 1 ?_ (Or.inl ⟨by kernel_rfl, ?_⟩) sV ?_
   rotate_left
   ·intro w' hSw; obtain ⟨c0, c1, c2, c3, c4, c5⟩ := cells6 hSw.1; obtain ⟨z0, z1, z2, z3, z4, z5⟩ := cells6 hSw.2.1; go_simp; try with_reducible rfl
   try simp only [pA,pE,pB,pC,pD]
   refine tzQ 31 2 ?_ ?_ (fun _ => sV) ?_
   rotate_left
   ·intro w' hSw; go_simp; try with_reducible rfl
   try simp only [pA,pE,pB,pC,pD]
   refine tzP 32 3 ?_ (Or.inl ⟨by kernel_rfl, ?_⟩) sV ?_
   rotate_left
   ·intro w' hSw; obtain ⟨c0, c1, c2, c3, c4, c5⟩ := cells6 hSw.1; obtain ⟨z0, z1, z2, z3, z4, z5⟩ := cells6 hSw.2.1; go_simp; try with_reducible rfl
   try simp only [pA,pE,pB,pC,pD]
   refine tzQ 33 4 ?_ ?_ (fun _ => sV) ?_
   rotate_left
   ·intro w' hSw; go_simp; try with_reducible rfl
   try simp only [pA,pE,pB,pC,pD]
   refine tzQ 34 5 ?_ ?_ (fun _ => sV) ?_
   rotate_left
   ·intro w' hSw; go_simp; try with_reducible rfl
   try simp only [pA,pE,pB,pC,pD]
   refine tzP 35 6 ?_ (Or.inl ⟨by kernel_rfl, ?_⟩) sV ?_
   rotate_left
   ·intro w' hSw; have q0 := rdGs_at hSw.2.2 hlt; go_simp; try with_reducible rfl
   try simp only [pA,pE,pB,pC,pD]
   refine rzP [7] ?_
   refine consP _ rfl (hzC 36 (Calls.mono (HG.out k hlt _ qV) ?_)) AllReadyP.nil
   rintro e V1 ⟨v1, rfl, o1, b1⟩
   obtain ⟨a1, cp1, hv1, -⟩ := owns_slice o1
   subst hv1
   have s1 := And.intro (kept b1 sV.1) (And.intro (kept b1 sV.2.1) (sV.2.2.later b1))
   have L1 := LV.later b1
   have o1' := owns_monoJ o1 qV.size
   have q1 := qV.trans (b1.mono qV.size)
   refine ⟨_, rfl, s1, ?_⟩
   try simp only [pA,pE,pB,pC,pD]
   refine rzP [8] ?_
   refine consP _ rfl (hopBJ 37 (Value.slice a1 (gs[k]?.getD []).length cp1) 29 rfl rfl rfl (by kernel_rfl) fun I V2 hI b2 => ?_) AllReadyP.nil
   have s2 := And.intro (kept b2 s1.1) (And.intro (kept b2 s1.2.1) (s1.2.2.later b2))
   have L2 := L1.later b2
   have o2 := owns_keepT o1' fun k cur hc => b2.block k (blk_lt hc)
   have q2 := q1.trans (b2.mono q1.size)
   refine ⟨s2, ?_⟩
   try simp only [pA,pE,pB,pC,pD]
   refine rzP [9] ?_
   refine consP _ rfl (hopL rfl (append_gsJ Tryz.underlying30 Tryz.infoUsJ rfl (by decide) (by decide) V2 (by rfl) _ _ (by rfl) w.heap.size vg _ _ (by kernel_rfl) L2.g ⟨I, 0, none⟩ 1 1 [(Value.slice a1 (gs[k]?.getD []).length cp1)] (by kernel_rfl) rfl (news_oneJ hI) (oneI _ (own_valJ o2).1) HLG.out q2.size fun v6 w6 o6 g6 => ?_)) AllReadyP.nil
   change QK _ _ Exit.normal (Act.put _ (some 38) v6) w6
   have q6 := q2.trans (g6.below (fun k hk => (World.ownsRow.lt L2.g k hk).1) q2.size)
   have s6D := (grw_types L2.g g6 D _ _ (by decide) s2.1).trans s2.1
   have s6Z := (grw_types L2.g g6 _ _ _ (by decide) s2.2.1).trans s2.2.1
   have s6R : w6.heap[w.heap.size + 1]? = _ := (grw_types L2.g g6 _ _ _ (by decide) (kept b2 (kept b1 rV))).trans (kept b2 (kept b1 rV))
   have s6G := HGR.out w6 q6
   have L6 := L2.pushG g6 o6 o2
   refine (And.intro (And.intro s6D (And.intro s6Z s6G)) ?_ : _ /\ _)
   try simp only [pA,pE,pB,pC,pD]
   clear g6
   refine tzQ 39 10 ?_ ?_ (fun _ => And.intro s6D (And.intro s6Z s6G)) ?_
   rotate_left
   ·intro w' hSw; go_simp; try with_reducible rfl
   try simp only [pA,pE,pB,pC,pD]
   refine rzP [11] ?_
   refine consPs _ rfl (by kernel_rfl) (hopL rfl (wpList_store_at (by rfl) 30 _ _ (by rfl) w w.heap.size D 3 v6 _ #[.int .i64 N, vc, vi, v6, vr, .bool bad] 32 (by kernel_rfl) (by kernel_rfl) s6D q6 hDl 1 Tryz.szUss (by rw [(own_valJ L6.g).2]; rfl) (Nat.le_of_ble_eq_true rfl) (by intro u hu; rw [(own_valJ L6.g).2] at hu; simp only [List.mem_cons, List.not_mem_nil, or_false] at hu; subst hu; exact (own_valJ L6.g).1) (by rw [(own_valJ L6.g).2]; rfl) fun w8 e8 b8 s8 k8 => ?_)) AllReadyP.nil
   refine (And.intro trivial ?_ : _ /\ _)
   try simp only [pA,pE,pB,pC,pD]
   refine wpAnyP_done (by kernel_rfl) ?_ _
   refine NoPanic.normal ?_
   try simp only [pA,pE,pB,pC,pD]
   have L8 := L6.keep (w' := w8) fun k cur t ht hc => k8 k (by rintro rfl; rw [s6D] at hc; cases hc; exact ht rfl)
   have E8 : Hid _ := And.intro e8 (And.intro L8 (And.intro b8 (And.intro ((k8 _ hDz).trans s6Z) ((k8 _ hD1).trans s6R))))
   clear s6D s6Z s6R s6G L6 q6 e8 b8 s8 k8 L8 o6 o2 o1 o1' L1 L2 q1 q2 b1 b2 hI s1 s2 sV LV qV rV
   go_wp2_with fail
   go_roundg g
   case measure => omega
   case rel =>
    obtain ⟨e8, L8, b8, z8, r8⟩ := E8.out
    refine ⟨k + 1, v6, gl ++ [(Value.slice a1 (gs[k]?.getD []).length cp1)], by go_num, by have := HIG.out; omega, ?_, e8, b8, ⟨z8, r8⟩⟩
    unfold Hid
    rw [take_snocG (by rw [HLN.out.2]; exact hlt)]
    exact L8
  ·have hd : decide ((k : Int) < (gn : Int)) = false := decide_eq_false (by omega)
   obtain rfl : k = gn := by omega
   have L9 := HL.out
   rw [List.take_of_length_le (by rw [HLN.out.2]; exact Nat.le_refl _)] at L9
   have HL9 : Hid _ := L9
   clear L9
   go_wp2_with (first
    | (refine wpList_load_row (by rfl) 32 _ (by rfl) D _ (by rfl) HD.out _ Tryz.underlying32 rfl 6 Tryz.infoZu (by rfl) ?_)
    | (refine wpList_store_row (by rfl) 32 _ _ (by rfl) w w.heap.size (w.heap.size + 1) _ _ (by rfl) (by rfl) HK.out.2 HB.out (Nat.le_succ _) 6 Tryz.infoZu (by rfl) (by rfl) (oneZ _ _ _ _ _ (own_valJ HL.out.c).1 (own_valJ HL.out.i).1 (own_valJ HL.out.g).1 (own_valJ HL.out.r).1 _) ?_; intro W9 e9 b9 s9 o9))
   have L10 := HL9.out.keep (w' := W9) fun j cur t ht hc => o9 j (by rintro rfl; rw [HK.out.2] at hc; cases hc; exact ht rfl)
   obtain ⟨u, hu, h1, h2, h3, h4, h5, h6, h7, h8, h9, h10, h11⟩ := L10.zu N bad
   refine bodyPost_ret (res_oneJ _ 2 32 (by kernel_rfl) _ _ (w.heap.size + 1) _ (by rfl) _ Tryz.underlying32 rfl 6 Tryz.infoZu rfl e9) rfl ?_
   exact ⟨u, congrArg Ending.returned hu, h1, h2, h3, h4, h5, h6, h7, h8.trans HLN.out.1, h9.trans HLN.out.2, h10.trans HLC.out.1, h11.trans HLC.out.2, b9⟩
end Go.Proofs.YthmhgpadinecfaaGreat
namespace Go.Proofs.YthmhgpadinecfaaGreat
open Go.RowKit
def rE (m : Nat) (e : Int) : Int := max ((bl m : Int) + e - 53) (-1074)
def rH (m : Nat) (e : Int) : Nat := if rE m e - 1 <= e then m * 2 ^ (e - (rE m e - 1)).toNat else m / 2 ^ (rE m e - 1 - e).toNat
def rR (m : Nat) (e : Int) : Bool := if rE m e - 1 <= e then false else nz (m % 2 ^ (rE m e - 1 - e).toNat)
def rP (d : Int) (neg rest : Bool) (h : Nat) (e : Int) : Nat × Bool := if infK <= ((e + 1074).toNat * 4503599627370496 + h / 2 + (moreR d neg rest h).toNat) \/ 971 < e then (if d = 0 \/ moreR d neg rest h = true \/ (d = 1 /\ neg = false) \/ (d = 2 /\ neg = true) then (0, false) else (sgnK neg 9218868437227405311, true)) else (sgnK neg ((e + 1074).toNat * 4503599627370496 + h / 2 + (moreR d neg rest h).toNat), true)
theorem halves_of {m0 drop K h : Nat} {rest : Bool} (hK : K = m0 / 2 ^ drop) (hh : (drop = 0 /\ h = 2 * m0 /\ rest = false) \/ (1 <= drop /\ h = m0 / 2 ^ (drop - 1) /\ rest = nz (m0 % 2 ^ (drop - 1)))) :
  h / 2 = K /\ (m0 % 2 ^ drop = 0 ↔ (h % 2 = 0 /\ rest = false)) /\ ((2 * (m0 % 2 ^ drop) < 2 ^ drop \/ (2 * (m0 % 2 ^ drop) = 2 ^ drop /\ K % 2 = 0)) ↔ ¬ (h % 2 = 1 /\ (rest = true \/ K % 2 = 1))) := by
 rcases hh with ⟨rfl, rfl, rfl⟩ | ⟨h1, rfl, rfl⟩
 ·rw [Nat.pow_zero, Nat.div_one] at hK
  rw [Nat.pow_zero, Nat.mod_one]
  refine ⟨by omega, by simp, ?_⟩
  constructor
  ·intro _ c; omega
  ·intro _; left; omega
 ·obtain ⟨j, rfl⟩ : ∃ j, drop = j + 1 := ⟨drop - 1, by omega⟩
  rw [show j + 1 - 1 = j from rfl]
  have hp := Nat.two_pow_pos j
  have e1 : (2 : Nat) ^ (j + 1) = 2 ^ j * 2 := Nat.pow_succ ..
  have e2 : m0 % (2 ^ j * 2) = m0 % 2 ^ j + 2 ^ j * (m0 / 2 ^ j % 2) := Nat.mod_mul ..
  have e3 : m0 / (2 ^ j * 2) = m0 / 2 ^ j / 2 := (Nat.div_div_eq_div_mul ..).symm
  rw [e1] at hK ⊢
  rw [e3] at hK
  rw [e2]
  have hr := Nat.mod_lt m0 hp
  have hb : m0 / 2 ^ j % 2 = 0 \/ m0 / 2 ^ j % 2 = 1 := by omega
  have hnz : nz (m0 % 2 ^ j) = true ↔ m0 % 2 ^ j ≠ 0 := by unfold nz; rw [bne_iff_ne]
  have hnz' : nz (m0 % 2 ^ j) = false ↔ m0 % 2 ^ j = 0 := by
   cases hh : nz (m0 % 2 ^ j)
   ·simp only [true_iff]
    rcases Nat.eq_zero_or_pos (m0 % 2 ^ j) with h0 | h0
    ·exact h0
    ·have := hnz.2 (by omega); rw [hh] at this; cases this
   ·have := hnz.1 hh; simp [this]
  rw [hnz, hnz']
  generalize m0 % 2 ^ j = r at *
  generalize m0 / 2 ^ j = H at *
  generalize 2 ^ j = P at *
  rcases hb with hb | hb
  ·rw [hb, Nat.mul_zero]
   refine ⟨by omega, ?_, ?_⟩
   ·constructor
    ·intro h; exact ⟨rfl, by omega⟩
    ·intro h; omega
   ·constructor
    ·intro _ c; omega
    ·intro _; left; omega
  ·rw [hb, Nat.mul_one]
   refine ⟨by omega, ?_, ?_⟩
   ·constructor
    ·intro h; omega
    ·intro h; omega
   ·constructor
    ·intro c; rcases c with c | c <;> omega
    ·intro c; right; omega
theorem round_math (d : Int) (hd : d = 0 \/ d = 1 \/ d = 2) (neg : Bool) (m : Nat) (e : Int) (hm : m ≠ 0) :
  rH m e < 18014398509481984 /\ (rE m e = -1074 \/ 4503599627370496 <= rH m e / 2) /\ Rnd d neg (nume m e) (deno e) (rP d neg (rR m e) (rH m e) (rE m e)) := by
 obtain ⟨ee, drop, K, he, hK, hed, hdrop, hform, hk⟩ := place_log m e hm
 have hE : rE m e = (ee : Int) - 1074 := by unfold rE bl; rw [if_neg hm]; omega
 have hc : 2 ^ (e + 1074 - ↑ee).toNat * 2 ^ (min ↑ee (e + 1074)).toNat = 2 ^ (e + 1074).toNat := by
  rw [<- Nat.pow_add]; congr 1; omega
 have key := rung_of (m * 2 ^ (e + 1074 - ee).toNat) ee drop (2 ^ (min (ee : Int) (e + 1074)).toNat) (nume m e) (deno e) K
  (by unfold nume; rw [Nat.mul_assoc, hc]) (Nat.two_pow_pos _) (by unfold deno; rw [<- Nat.pow_add, <- Nat.pow_add]; congr 1; omega) hK hform hk
 have hh : (drop = 0 /\ rH m e = 2 * (m * 2 ^ (e + 1074 - ee).toNat) /\ rR m e = false) \/ (1 <= drop /\ rH m e = (m * 2 ^ (e + 1074 - ee).toNat) / 2 ^ (drop - 1) /\ rR m e = nz ((m * 2 ^ (e + 1074 - ee).toNat) % 2 ^ (drop - 1))) := by
  unfold rH rR
  rw [hE]
  by_cases h0 : drop = 0
  ·left
   rw [if_pos (by omega), if_pos (by omega)]
   refine ⟨h0, ?_, rfl⟩
   rw [show (e - ((ee : Int) - 1074 - 1)).toNat = (e + 1074 - ee).toNat + 1 by omega, Nat.pow_succ, <- Nat.mul_assoc, Nat.mul_comm]
  ·right
   have hz : (e + 1074 - (ee : Int)).toNat = 0 := by omega
   rw [hz, Nat.pow_zero, Nat.mul_one]
   refine ⟨by omega, ?_, ?_⟩
   ·by_cases h1 : (ee : Int) - 1074 - 1 <= e
    ·rw [if_pos h1, show (e - ((ee : Int) - 1074 - 1)).toNat = 0 by omega, show drop - 1 = 0 by omega, Nat.pow_zero, Nat.mul_one, Nat.div_one]
    ·rw [if_neg h1, show ((ee : Int) - 1074 - 1 - e).toNat = drop - 1 by omega]
   ·by_cases h1 : (ee : Int) - 1074 - 1 <= e
    ·rw [if_pos h1, show drop - 1 = 0 by omega, Nat.pow_zero, Nat.mod_one]; rfl
    ·rw [if_neg h1, show ((ee : Int) - 1074 - 1 - e).toNat = drop - 1 by omega]
 obtain ⟨a1, a2, a3⟩ := halves_of hK hh
 generalize rH m e = h at *
 generalize rR m e = rest at *
 refine ⟨by omega, by omega, _, key.1, ?_⟩
 unfold rP tellK
 rw [key.2.1, key.2.2, hE, a1, show ((ee : Int) - 1074 + 1074).toNat = ee by omega]
 have hov : (971 : Int) < (ee : Int) - 1074 -> infK <= ee * 4503599627370496 + K := by intro h; unfold infK; omega
 have hnear : (if 2 * (m * 2 ^ (e + 1074 - ↑ee).toNat % 2 ^ drop) < 2 ^ drop \/ 2 * (m * 2 ^ (e + 1074 - ↑ee).toNat % 2 ^ drop) = 2 ^ drop /\ K % 2 = 0 then 0 else 1) = (decide (h % 2 = 1) && (rest || decide (K % 2 = 1))).toNat := by
  by_cases c : h % 2 = 1 /\ (rest = true \/ K % 2 = 1)
  ·rw [if_neg (fun x => a3.1 x c)]
   have : (decide (h % 2 = 1) && (rest || decide (K % 2 = 1))) = true := by simp; exact c
   rw [this]; rfl
  ·rw [if_pos (a3.2 c)]
   have : (decide (h % 2 = 1) && (rest || decide (K % 2 = 1))) = false := by
    rw [Bool.eq_false_iff]; intro x; simp at x; exact c x
   rw [this]; rfl
 have hup : (if m * 2 ^ (e + 1074 - ↑ee).toNat % 2 ^ drop = 0 then 0 else 1) = (decide (h % 2 = 1) || rest).toNat := by
  by_cases c : h % 2 = 0 /\ rest = false
  ·rw [if_pos (a2.2 c)]
   have : (decide (h % 2 = 1) || rest) = false := by rw [c.2, c.1]; rfl
   rw [this]; rfl
  ·rw [if_neg (fun x => c (a2.1 x))]
   have : (decide (h % 2 = 1) || rest) = true := by
    cases rest
    ·have : h % 2 = 1 := by
      rcases Nat.mod_two_eq_zero_or_one h with x | x
      ·exact absurd ⟨x, rfl⟩ c
      ·exact x
     simp [this]
    ·simp
   rw [this]; rfl
 rw [hnear, hup]
 have hM : (9218868437227405311 : Nat) = infK - 1 := by decide
 have hi : 0 < infK := by decide
 rw [hM, <- a1]
 rw [<- a1] at hov
 generalize infK = I at *
 have hbt : ∀ b : Bool, b.toNat = 0 \/ b.toNat = 1 := fun b => by cases b <;> simp
 rcases hd with rfl | rfl | rfl
 ·have e1 : moreR 0 neg rest h = (decide (h % 2 = 1) && (rest || decide (h / 2 % 2 = 1))) := by unfold moreR; simp
  rw [e1]
  generalize (decide (h % 2 = 1) && (rest || decide (h / 2 % 2 = 1))) = b
  rw [if_pos rfl, Nat.add_assoc]
  by_cases c : ee * 4503599627370496 + (h / 2 + b.toNat) < I
  ·rw [if_neg (by omega), if_pos c]
  ·rw [if_pos (by omega), if_pos (.inl rfl), if_neg c]
 ·rw [if_neg (show ¬ ((1 : Int) = 0) by decide)]
  cases neg
  ·have e1 : moreR 1 false rest h = (decide (h % 2 = 1) || rest) := by unfold moreR; simp
   rw [e1, if_pos (show (1 : Int) = 1 /\ false = false \/ (1 : Int) = 2 /\ false = true from .inl ⟨rfl, rfl⟩)]
   generalize (decide (h % 2 = 1) || rest) = b
   rw [Nat.add_assoc]
   by_cases c : ee * 4503599627370496 + (h / 2 + b.toNat) < I
   ·rw [if_neg (by omega), if_pos c]
   ·rw [if_pos (by omega), if_pos (by simp), if_neg c]
  ·have e1 : moreR 1 true rest h = false := by unfold moreR; simp
   rw [e1, if_neg (show ¬ ((1 : Int) = 1 /\ true = false \/ (1 : Int) = 2 /\ true = true) by simp), if_pos (show (1 : Int) = 1 \/ (1 : Int) = 2 from .inl rfl)]
   by_cases c : ee * 4503599627370496 + h / 2 < I
   ·rw [if_neg (by simp only [Bool.toNat_false]; omega), Bool.toNat_false, Nat.add_zero, Nat.min_eq_left (by omega)]
   ·rw [if_pos (by simp only [Bool.toNat_false]; omega), if_neg (by simp), Nat.min_eq_right (by omega)]
 ·rw [if_neg (show ¬ ((2 : Int) = 0) by decide)]
  cases neg
  ·have e1 : moreR 2 false rest h = false := by unfold moreR; simp
   rw [e1, if_neg (show ¬ ((2 : Int) = 1 /\ false = false \/ (2 : Int) = 2 /\ false = true) by simp), if_pos (show (2 : Int) = 1 \/ (2 : Int) = 2 from .inr rfl)]
   by_cases c : ee * 4503599627370496 + h / 2 < I
   ·rw [if_neg (by simp only [Bool.toNat_false]; omega), Bool.toNat_false, Nat.add_zero, Nat.min_eq_left (by omega)]
   ·rw [if_pos (by simp only [Bool.toNat_false]; omega), if_neg (by simp), Nat.min_eq_right (by omega)]
  ·have e1 : moreR 2 true rest h = (decide (h % 2 = 1) || rest) := by unfold moreR; simp
   rw [e1, if_pos (show (2 : Int) = 1 /\ true = false \/ (2 : Int) = 2 /\ true = true from .inr ⟨rfl, rfl⟩)]
   generalize (decide (h % 2 = 1) || rest) = b
   rw [Nat.add_assoc]
   by_cases c : ee * 4503599627370496 + (h / 2 + b.toNat) < I
   ·rw [if_neg (by omega), if_pos c]
   ·rw [if_pos (by omega), if_pos (by simp), if_neg c]
end Go.Proofs.YthmhgpadinecfaaGreat
