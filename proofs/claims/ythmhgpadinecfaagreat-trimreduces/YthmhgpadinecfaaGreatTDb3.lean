import Derived.Test.YthmhgpadinecfaaGreatTDb2
set_option maxRecDepth 100000
set_option maxHeartbeats 2000000
set_option linter.unusedVariables false
set_option linter.unusedSimpArgs false
namespace Go.Proofs.YthmhgpadinecfaaGreat
open Go.RowKit
theorem two_words {xs : List Nat} {len m : Nat} (hl : xs.length = len) (hu : U4 xs) (hn : Nm xs) (hm : dig xs = m) (hb : m < 18014398509481984) : len <= 2 := by
 have h1 := len_bl hl hu hn
 rw [hm] at h1
 have h2 : bl m <= 54 := by
  rcases Nat.eq_zero_or_pos m with h0 | h0
  ·rw [h0, bl_zero]; omega
  ·have h3 := bl_spec (m := m) (by omega)
   rcases Nat.lt_or_ge 54 (bl m) with h4 | h4
   ·have : 2 ^ 54 <= 2 ^ (bl m - 1) := Nat.pow_le_pow_right (by omega) (by omega)
    have h54 : (2 : Nat) ^ 54 = 18014398509481984 := by decide
    omega
   ·exact h4
 omega
theorem rtold_at (d : Int) (hd : d = 0 \/ d = 1 \/ d = 2) (neg : Bool) (m : Nat) (e : Int) (h1 : rH m e < 18014398509481984) (h2 : rE m e = -1074 \/ 4503599627370496 <= rH m e / 2) (h3 : -1074 <= rE m e /\ rE m e <= 20000) (W : World) :
  Calls Tryz.prog 54 #[.int .i64 d, .bool neg, .int .u64 ((rH m e : Nat) : Int), .bool (rR m e), .int .i64 (rE m e)] W fun e' w' => e' = .returned (.tuple #[.int .u64 ((rP d neg (rR m e) (rH m e) (rE m e)).1 : Int), .bool (rP d neg (rR m e) (rH m e) (rE m e)).2]) /\ w' = W :=
 rtold_any d neg (rR m e) (rH m e) (rE m e) hd h1 (by omega) h2 W _ rfl
theorem over2_at (v : Value) (m : Nat) (e : Int) (he : -10000 <= e /\ e <= 10000) (h3 : -1074 <= rE m e /\ rE m e <= 20000) (hb : bl m <= 9000) (w : World) (h : NumV w v false m e) :
  Calls Tryz.prog 53 #[v, .int .i64 (rE m e - 1)] w fun e' w' => ∃ v', e' = .returned (.tuple #[v', .bool (rR m e)]) /\ NumV w' v' false (rH m e) 0 /\ Below w.heap.size w w' :=
 over2_any v false m e (rE m e - 1) (by omega) (by omega) (by omega) w h
def RoundRes (d : Int) (neg : Bool) (n D : Nat) (w : World) (e' : Ending) (w' : World) : Prop := ∃ (a : Nat) (b : Bool), e' = .returned (.tuple #[.int .u64 (a : Int), .bool b]) /\ Rnd d neg n D (a, b) /\ Below w.heap.size w w'
theorem round_any (d : Int) (v : Value) (neg : Bool) (m : Nat) (e : Int) (w : World) (h : NumV w v neg m e) (he : -10000 <= e /\ e <= 10000) (hb : bl m <= 9000) (hd0 : -9223372036854775808 <= d) (hd1 : d <= 9223372036854775807) :
  Calls Tryz.prog 30 #[.int .i64 d, v] w fun e' w' => RoundRes d neg (nume m e) (deno e) w e' w' := by
 have hD : 0 < deno e := Nat.two_pow_pos _
 obtain ⟨ao, len, cap, xs, rfl, hr, hnm, hm⟩ := h
 have hz := len_zero hr.length hr.lt hnm
 rw [hm] at hz
 by_cases hd : d = 0 \/ d = 1 \/ d = 2
 ·have hdb : 0 <= d /\ d <= 2 := by omega
  obtain ⟨hda, hdc⟩ := hdb
  by_cases hm0 : m = 0
  ·have hl0 : len = 0 := hz.2 hm0
   subst hl0
   have hR := rnd_nought d neg (deno e) hD hd
   have hn0 : nume m e = 0 := by unfold nume; rw [hm0, Nat.zero_mul]
   have HR : Hid _ := hR
   clear hr hR hd
   rw [hn0]
   go_enter Tryz.func30, Tryz.ntmps30
   go_wp2_with fail
   go_ret2
   exact ⟨0, true, rfl, HR.out, (by first | exact Below.refl _ _ | exact (Below.refl _ _).alloc (Nat.le_refl _) _)⟩
  ·have hl0 : 0 < len := by omega
   have hlb : ((len : Int) == 0) = false := by rw [beq_eq_false_iff_ne]; omega
   have hM := round_math d hd neg m e hm0
   have hE1 : -1074 <= rE m e /\ rE m e <= 20000 := by unfold rE; omega
   have HM : Hid _ := hM
   have HR : Hid _ := hr
   have HD : Hid _ := hd
   have hEf : (if -1074 < (bl m : Int) + e - 53 then (bl m : Int) + e - 53 else -1074) = rE m e := by unfold rE; omega
   clear hM hr hd
   go_enter Tryz.func30, Tryz.ntmps30
   have hw1 : IntKind.i64.wrap ((bl m : Int) + e) = (bl m : Int) + e := by rw [IntKind.wrap_i64]; omega
   have hw2 : IntKind.i64.wrap ((bl m : Int) + e - 53) = (bl m : Int) + e - 53 := by rw [IntKind.wrap_i64]; omega
   go_upto_region 5 with fail
   go_cut [6] (fun s6 wx => s6 = .int .i64 (rE m e) /\ Below w.heap.size w wx /\ wx.heap[w.heap.size]? = some (.cells #[.bool neg, .slice ao len cap, .int .i64 e] 65) /\ wx.heap.size = w.heap.size + 1)
   case first =>
    have m1 : (w.alloc (Obj.cells #[Value.bool neg, Value.slice ao len cap, Value.int IntKind.i64 e] 65)).cell? ⟨w.heap.size, 1, none⟩ = some (.slice ao len cap) := (three_cells (heap_alloc_new w _)).2.1
    have m2 : (w.alloc (Obj.cells #[Value.bool neg, Value.slice ao len cap, Value.int IntKind.i64 e] 65)).cell? ⟨w.heap.size, 2, none⟩ = some (.int .i64 e) := (three_cells (heap_alloc_new w _)).2.2
    have M3 : Hid ((w.alloc (Obj.cells #[Value.bool neg, Value.slice ao len cap, Value.int IntKind.i64 e] 65)).heap[w.heap.size]? = some (.cells #[.bool neg, .slice ao len cap, .int .i64 e] 65)) := heap_alloc_new w _
    have M4 : Hid (Below w.heap.size w (w.alloc (Obj.cells #[Value.bool neg, Value.slice ao len cap, Value.int IntKind.i64 e] 65))) := (Below.refl _ _).alloc (Nat.le_refl _) _
    have M5 : Hid ((w.alloc (Obj.cells #[Value.bool neg, Value.slice ao len cap, Value.int IntKind.i64 e] 65)).heap.size = w.heap.size + 1) := by unfold Hid; simp
    generalize (w.alloc (Obj.cells #[Value.bool neg, Value.slice ao len cap, Value.int IntKind.i64 e] 65)) = wa at *
    go_region_held3 (fun w' => w'.cell? ⟨w.heap.size, 1, none⟩ = some (.slice ao len cap) /\ w'.cell? ⟨w.heap.size, 2, none⟩ = some (.int .i64 e)) (go_keep)
     (first | (go_at_call 52; refine (length_any ao len cap xs _ ?_ hnm).mono ?_; exact HR.out.later M4.out.drew; rintro ee ww ⟨rfl, rfl⟩; rw [hm]))
    all_goals go_wp2_with fail
    all_goals
     go_meet
     exact ⟨by unfold rE; first | done | (congr 1 <;> omega), M4.out.drew, M3.out, M5.out⟩
   case rest =>
   obtain ⟨rfl, hBc, hgc, hsz⟩ := hcut
   have HBc : Hid _ := hBc
   have HGc : Hid _ := hgc
   obtain ⟨c0, c1, c2⟩ := three_cells hgc
   clear hBc hgc hEf
   go_wp2_with fail
   refine (size_any _ neg m e _ ⟨ao, len, cap, xs, rfl, HR.out.later HBc.out, hnm, hm⟩).mono ?_
   rintro ee w2 ⟨v2, rfl, hN2, hb2⟩
   go_wp2_with fail
   refine (over2_at v2 m e he hE1 hb _ hN2).mono ?_
   rintro ee w3 ⟨v3, rfl, hN3, hb3⟩
   obtain ⟨ao3, len3, cap3, zs, rfl, hr3, hnm3, hm3⟩ := hN3
   have hl3 : len3 <= 2 := two_words hr3.length hr3.lt hnm3 hm3 HM.out.1
   have hBz := (hb2.size)
   have hg3 := (hb3.block w.heap.size (by omega)).trans ((hb2.block w.heap.size (by omega)).trans HGc.out)
   have hB3 : Below w.heap.size w w3 := HBc.out.trans ((hb2.mono (by omega)).trans (hb3.mono (by omega)))
   obtain ⟨d0, d1, d2⟩ := three_cells hg3
   have hs3 : w.heap.size < w3.heap.size := by have := hb3.size; omega
   have HR3 : Hid _ := hr3
   have HB3 : Hid _ := hB3
   have HG3 : Hid _ := hg3
   clear hr3 hb2 hb3 hB3 c0 c1 c2 hg3 hN2 HGc hBz
   have WC : ∀ W, Below w3.heap.size w3 W -> Calls Tryz.prog 55 #[.slice ao3 len3 cap3] W fun e' w' => e' = .returned (.int .u64 ((rH m e : Nat) : Int)) /\ w' = W := fun W hW => by
    have := word_any ao3 len3 cap3 zs W (HR3.out.later hW) hl3
    rw [hm3] at this
    exact this
   have TC : ∀ W, Calls Tryz.prog 54 #[.int .i64 d, .bool neg, .int .u64 ((rH m e : Nat) : Int), .bool (rR m e), .int .i64 (rE m e)] W fun e' w' => e' = .returned (.tuple #[.int .u64 ((rP d neg (rR m e) (rH m e) (rE m e)).1 : Int), .bool (rP d neg (rR m e) (rH m e) (rE m e)).2]) /\ w' = W :=
    fun W => rtold_at d HD.out neg m e HM.out.1 HM.out.2.1 hE1 W
   have HRN : Hid _ := HM.out.2.2
   clear HM HD hl3 hm3 hnm3
   generalize rP d neg (rR m e) (rH m e) (rE m e) = pp at *
   obtain ⟨pa, pb⟩ := pp
   simp only at TC
   have k0 : (w3.alloc (Obj.cells #[Value.bool false, Value.slice ao3 len3 cap3, Value.int IntKind.i64 0] 65)).cell? ⟨w.heap.size, 0, none⟩ = some (.bool neg) := by
    rw [World.cell?_of_block (w := w3) (w' := w3.alloc (Obj.cells #[Value.bool false, Value.slice ao3 len3 cap3, Value.int IntKind.i64 0] 65)) (a := ⟨w.heap.size, 0, none⟩) (Below.heap_alloc w3 _ _ hs3)]; exact d0
   have k1 := (three_cells (heap_alloc_new w3 (Obj.cells #[Value.bool false, Value.slice ao3 len3 cap3, Value.int IntKind.i64 0] 65))).2.1
   have HB4 : Hid (Below w.heap.size w (w3.alloc (Obj.cells #[Value.bool false, Value.slice ao3 len3 cap3, Value.int IntKind.i64 0] 65))) := HB3.out.alloc (by omega) _
   have HB34 : Hid (Below w3.heap.size w3 (w3.alloc (Obj.cells #[Value.bool false, Value.slice ao3 len3 cap3, Value.int IntKind.i64 0] 65))) := (Below.refl _ _).alloc (Nat.le_refl _) _
   clear d0 d1 d2 HG3 HB3
   go_wp2_with fail
   generalize (w3.alloc (Obj.cells #[Value.bool false, Value.slice ao3 len3 cap3, Value.int IntKind.i64 0] 65)) = w4 at *
   go_region_held3 (fun w' => w'.cell? ⟨w.heap.size, 0, none⟩ = some (.bool neg) /\ w'.cell? ⟨w3.heap.size, 1, none⟩ = some (.slice ao3 len3 cap3)) (go_keep)
    (first
     | (go_at_call 55; refine (WC _ ?_).mono ?_; exact HB34.out.drew; rintro ee ww ⟨rfl, rfl⟩)
     | (go_at_call 54; refine (TC _).mono ?_; rintro ee ww ⟨rfl, rfl⟩))
   all_goals go_wp2_with fail
   all_goals
    go_ret2
    exact ⟨pa, pb, rfl, HRN.out, HB4.out.drew⟩
 ·have hR := rnd_none d neg (nume m e) (deno e) hD hd
  have HR : Hid _ := hR
  clear hr hR
  by_cases hneg : d < 0
  ·clear hd
   go_enter Tryz.func30, Tryz.ntmps30
   go_wp2_with fail
   go_ret2
   exact ⟨0, false, rfl, HR.out, (by first | exact Below.refl _ _ | exact (Below.refl _ _).alloc (Nat.le_refl _) _)⟩
  ·have hgt : 2 < d := by omega
   clear hd
   go_enter Tryz.func30, Tryz.ntmps30
   go_wp2_with fail
   go_ret2
   exact ⟨0, false, rfl, HR.out, (by first | exact Below.refl _ _ | exact (Below.refl _ _).alloc (Nat.le_refl _) _)⟩
def RoundZ (d z : Int) (D : Nat) (w : World) (e' : Ending) (w' : World) : Prop := ∃ (a : Nat) (b : Bool), e' = .returned (.tuple #[.int .u64 (a : Int), .bool b]) /\ RndZ d z D (a, b) /\ Below w.heap.size w w'
theorem roundZ_any (d : Int) (v : Value) (s k : Nat) (T z : Int) (w : World) (h : NumZ w v s T z) (E : Nat) (hE : E = 1074) (hs : s = E + k) (hs2 : s <= 4000) (hT : 0 <= T /\ T <= 4000) (hd0 : -9223372036854775808 <= d) (hd1 : d <= 9223372036854775807) :
  Calls Tryz.prog 30 #[.int .i64 d, v] w fun e' w' => RoundZ d z (2 ^ k) w e' w' := by
 obtain ⟨neg, m, e, h1, h2, h3, h4⟩ := h
 refine (round_any d v neg m e w h1 (by omega) (by omega) hd0 hd1).mono ?_
 rintro e' w' ⟨a, b, rfl, hR, hB⟩
 refine ⟨a, b, rfl, ?_, hB⟩
 have hz := zv_abs s neg m e
 rw [h4] at hz
 refine Rnd.toZ (g := neg) ?_ ?_
 ·rw [hz]
  refine hR.of_eq (Nat.two_pow_pos _) ?_
  unfold nume deno
  rw [Nat.mul_assoc, Nat.mul_assoc, <- Nat.pow_add, <- Nat.pow_add]
  congr 2; omega
 ·intro hne
  rw [<- h4] at hne ⊢
  exact zv_lt hne
def NumC (w : World) (v : Value) (s : Nat) (T : Int) (z : Int) : Prop := ∃ neg m e, NumV w v neg m e /\ -(s : Int) <= e /\ (bl m : Int) + e <= T /\ zv s neg m e = z /\ (m = 0 -> e = 0)
theorem NumC.later {w w' : World} {v : Value} {s : Nat} {T z : Int} (h : NumC w v s T z) (hb : Below w.heap.size w w') : NumC w' v s T z := by
 obtain ⟨neg, m, e, h1, h2⟩ := h
 exact ⟨neg, m, e, h1.later hb, h2⟩
theorem NumC.toZ {w : World} {v : Value} {s : Nat} {T z : Int} (h : NumC w v s T z) : NumZ w v s T z := by
 obtain ⟨neg, m, e, h1, h2, h3, h4, _⟩ := h
 exact ⟨neg, m, e, h1, h2, h3, h4⟩
theorem NumC.mono {w : World} {v : Value} {s : Nat} {T T' z : Int} (h : NumC w v s T z) (hT : T <= T') : NumC w v s T' z := by
 obtain ⟨neg, m, e, h1, h2, h3, h4⟩ := h
 exact ⟨neg, m, e, h1, h2, by omega, h4⟩
theorem plusC_any (v u : Value) (s : Nat) (T x y : Int) (w : World) (hx : NumC w v s T x) (hy : NumC w u s T y) (hs : s <= 20000) (hT : 0 <= T /\ T <= 20000) :
  Calls Tryz.prog 28 #[v, u] w fun e' w' => ∃ v', e' = .returned v' /\ NumC w' v' s (T + 1) (x + y) /\ Below w.heap.size w w' := by
 obtain ⟨nx, mx, ex, h1, h2, h3, h4, h5⟩ := hx
 obtain ⟨ny, my, ey, k1, k2, k3, k4, k5⟩ := hy
 refine (plusV_any v u nx ny mx my ex ey w h1 k1 (by omega) (by omega) (by omega) (by omega)).mono ?_
 rintro e' w' ⟨v', neg, m, e, rfl, hN, hP, hB⟩
 obtain ⟨p1, p2, p3⟩ := hP.1 s T h2 k2 h3 k3 hT.1
 exact ⟨v', rfl, ⟨neg, m, e, hN, p1, p2, by rw [p3, h4, k4], fun c => hP.2 c h5 k5⟩, hB⟩
theorem NumC.set3 {w : World} {B : Nat} (x y z : Value) (hB : NumB w B) {v : Value} {s : Nat} {T r : Int} (h : NumC w v s T r) : NumC (((w.setCell ⟨B, 0, none⟩ x).setCell ⟨B, 1, none⟩ y).setCell ⟨B, 2, none⟩ z) v s T r := by
 obtain ⟨neg, m, e, ⟨ao, len, cap, xs, h1, h2, h3⟩, h4⟩ := h
 exact ⟨neg, m, e, ⟨ao, len, cap, xs, h1, rd4_set3 x y z hB h2, h3⟩, h4⟩
theorem blC_low {m : Nat} (h : m ≠ 0) : ∃ k, bl m = k + 1 /\ 2 ^ k <= m := ⟨m.log2, by unfold bl; rw [if_neg h], Nat.log2_self_le h⟩
theorem NumC.tight {w : World} {v : Value} {s : Nat} {T T' z : Int} (h : NumC w v s T z) (hT : 0 <= T') {X : Nat} (hX : (X : Int) = s + T') (hz : z.natAbs < 2 ^ X) : NumC w v s T' z := by
 obtain ⟨neg, m, e, h1, h2, h3, h4, h5⟩ := h
 refine ⟨neg, m, e, h1, h2, ?_, h4, h5⟩
 by_cases hm : m = 0
 ·rw [h5 hm, hm, bl_zero]; omega
 ·obtain ⟨k, hk, hk2⟩ := blC_low hm
  rw [hk]
  have hv : z.natAbs = m * 2 ^ (e + s).toNat := by
   rw [<- h4]
   unfold zv sv
   rw [Int.natAbs_mul, Int.natAbs_natCast]
   congr 1
   split <;> simp
  rw [hv] at hz
  have h6 : 2 ^ k * 2 ^ (e + s).toNat < 2 ^ X := Nat.lt_of_le_of_lt (Nat.mul_le_mul_right _ hk2) hz
  rw [<- Nat.pow_add] at h6
  have h7 := (Nat.pow_lt_pow_iff_right (by omega : 1 < 2)).1 h6
  omega
theorem ofE_any (u : Nat) (hu : u < 18446744073709551616) (w : World) :
  Calls Tryz.prog 47 #[.int .u64 u] w fun e' w' => ∃ v, e' = .returned (.tuple #[v, .bool (decide (Fin u))]) /\ (∃ neg e, NumV w' v neg (if Fin u then ofM u else 0) e /\ (Fin u -> frung u ≠ 0 -> neg = fneg u /\ e = ofE u) /\ -1074 <= e /\ e <= 971 /\ ((if Fin u then ofM u else 0) = 0 -> e = 0)) /\ Below w.heap.size w w' := by
 obtain ⟨E, hE⟩ : ∃ E : Nat, u / 4503599627370496 % 2048 = E := ⟨_, rfl⟩
 obtain ⟨m, hm⟩ : ∃ m : Nat, u % 4503599627370496 = m := ⟨_, rfl⟩
 have fE : bits .and .u64 ((u : Int) / 4503599627370496) 2047 = (E : Int) := by
  have k := u64_and_nat (u / 4503599627370496) 2047 (by omega) (by decide)
  rw [show ((2047 : Nat) : Int) = 2047 from rfl] at k
  rw [show (u : Int) / 4503599627370496 = ((u / 4503599627370496 : Nat) : Int) by omega, k, and_2047, hE]
 have fm : bits .and .u64 (u : Int) 4503599627370495 = (m : Int) := by
  have k := u64_and_nat u 4503599627370495 hu (by decide)
  rw [show ((4503599627370495 : Nat) : Int) = 4503599627370495 from rfl] at k
  rw [k, show (4503599627370495 : Nat) = 2 ^ 52 - 1 by decide, Nat.and_two_pow_sub_one_eq_mod, show (2 : Nat) ^ 52 = 4503599627370496 by decide, hm]
 have hr : frung u = E * 4503599627370496 + m := by unfold frung; omega
 have hEb : E < 2048 := by omega
 have hmb : m < 4503599627370496 := by omega
 have hFin : Fin u ↔ E < 2047 := by unfold Fin infK; rw [hr]; omega
 by_cases h2047 : E = 2047
 ·subst h2047
  have hd : decide (Fin u) = false := decide_eq_false (by rw [hFin]; omega)
  have hnf : ¬ Fin u := by rw [hFin]; omega
  rw [hd, if_neg hnf]
  have hz : ((2047 : Nat) : Int) = 2047 := rfl
  rw [hz] at fE
  go_enter Tryz.func47, Tryz.ntmps47
  go_wp2_with fail
  refine bodyPost_ret (v := .tuple #[.agg #[.bool false, .slice none 0 0, .int .i64 0], .bool false]) (res_num2 _ 2 3 (by kernel_rfl) _ _ w.heap.size _ _ _ _ (by rfl) (by rfl) (heap_alloc_new w _)) rfl ⟨_, rfl, ⟨false, 0, ⟨none, 0, 0, [], rfl, rd4_none _, .inl rfl, rfl⟩, fun h => absurd h hnf, by omega, by omega, fun _ => rfl⟩, (Below.refl _ _).alloc (Nat.le_refl _) _⟩
 ·have hf : Fin u := hFin.2 (by omega)
  have hd : decide (Fin u) = true := decide_eq_true hf
  rw [hd, if_pos hf]
  have hEi : ((E : Int) == 2047) = false := by rw [beq_eq_false_iff_ne]; omega
  have hsgb : ((u : Int) / 9223372036854775808 == 1) = fneg u := by
   unfold fneg
   have h6 : u / 9223372036854775808 = 0 \/ u / 9223372036854775808 = 1 := by omega
   rcases h6 with h6 | h6
   ·rw [show (u : Int) / 9223372036854775808 = 0 by omega, h6]; rfl
   ·rw [show (u : Int) / 9223372036854775808 = 1 by omega, h6]; rfl
  clear hFin
  by_cases h0 : E = 0 /\ m = 0
  ·obtain ⟨rfl, rfl⟩ := h0
   have hM : ofM u = 0 := by unfold ofM; rw [hr]; rfl
   have hr0 : frung u = 0 := by rw [hr]
   rw [hM]
   have hz : ((0 : Nat) : Int) = 0 := rfl
   rw [hz] at fE fm
   go_enter Tryz.func47, Tryz.ntmps47
   go_wp2_with fail
   refine bodyPost_ret (v := .tuple #[.agg #[.bool false, .slice none 0 0, .int .i64 0], .bool true]) (res_num2 _ 2 3 (by kernel_rfl) _ _ w.heap.size _ _ _ _ (by rfl) (by rfl) (heap_alloc_new w _)) rfl ⟨_, rfl, ⟨false, 0, ⟨none, 0, 0, [], rfl, rd4_none _, .inl rfl, rfl⟩, fun _ h => absurd hr0 h, by omega, by omega, fun _ => rfl⟩, (Below.refl _ _).alloc (Nat.le_refl _) _⟩
  ·obtain ⟨m2, e2, hm2, he2⟩ : ∃ (m2 : Nat) (e2 : Int), m2 = (if E = 0 then m else 4503599627370496 + m) /\ e2 = (if E = 0 then -1074 else (E : Int) - 1075) := ⟨_, _, rfl, rfl⟩
   have hM : ofM u = m2 := by
    unfold ofM; rw [hr, hm2]
    by_cases hE0 : E = 0
    ·rw [if_pos (by omega), if_pos hE0]; omega
    ·rw [if_neg (by omega), if_neg hE0]; omega
   have hEE : ofE u = e2 := by
    unfold ofE; rw [hr, he2]
    by_cases hE0 : E = 0
    ·rw [if_pos (by omega), if_pos hE0]
    ·rw [if_neg (by omega), if_neg hE0]; omega
   rw [hM, hEE]
   have hm2b : 0 < m2 /\ m2 < 9007199254740992 := by rw [hm2]; split <;> omega
   obtain ⟨hm20, hm2l⟩ := hm2b
   have hw2 := words2 (m := m2) (by omega)
   have HW : Hid _ := hw2
   have hor : bits .or .u64 (m : Int) 4503599627370496 = ((4503599627370496 + m : Nat) : Int) := by
    have k := u64_or_nat m 4503599627370496 (by omega) (by decide)
    rw [show ((4503599627370496 : Nat) : Int) = 4503599627370496 from rfl] at k
    have k2 := Nat.two_pow_add_eq_or_of_lt (i := 52) (b := m) (by omega) 1
    rw [show (2 : Nat) ^ 52 = 4503599627370496 by decide, Nat.mul_one] at k2
    rw [k, Nat.or_comm, <- k2]
   obtain ⟨lo, hlo⟩ : ∃ lo : Nat, m2 % 4294967296 = lo := ⟨_, rfl⟩
   obtain ⟨hi, hhi⟩ : ∃ hi : Nat, m2 / 4294967296 = hi := ⟨_, rfl⟩
   have hmod : (m2 : Int) % 4294967296 = (lo : Int) := by omega
   have hdiv : (m2 : Int) / 4294967296 = (hi : Int) := by omega
   have hlb : lo < 4294967296 := by omega
   have hib : hi < 4294967296 := by omega
   rw [hlo, hhi] at HW
   clear hlo hhi
   have hrd : Rd4 ((w.alloc (Obj.cells #[Value.bool false, Value.slice none 0 0, Value.int IntKind.i64 0] 65)).alloc (Obj.cells #[Value.int IntKind.u32 (lo : Int), Value.int IntKind.u32 (hi : Int)] 119)) (some ⟨w.heap.size + 1, 0, none⟩) 2 2 [lo, hi] := by
    have h := rd4_fresh2 (w.alloc (Obj.cells #[Value.bool false, Value.slice none 0 0, Value.int IntKind.i64 0] 65)) lo hi HW.out.2
    rw [show (w.alloc (Obj.cells #[Value.bool false, Value.slice none 0 0, Value.int IntKind.i64 0] 65)).heap.size = w.heap.size + 1 by simp] at h
    exact h
   have HRD : Hid _ := hrd
   clear hrd
   have hb0 : ∀ o1 o2, Below w.heap.size w ((w.alloc o1).alloc o2) := fun o1 o2 => ((Below.refl _ _).alloc (Nat.le_refl _) _).alloc (by simp) _
   clear hw2 hM hEE hE hm hr
   by_cases hE0 : E = 0
   ·rw [if_pos hE0] at hm2 he2
    subst hm2 he2 hE0
    have hz : ((0 : Nat) : Int) = 0 := rfl
    rw [hz] at fE
    clear hor
    go_enter Tryz.func47, Tryz.ntmps47
    go_wp2_with fail
    refine (trim_any _ 2 2 [lo, hi] _ HRD.out).mono ?_
    rintro ee ww ⟨ao', n, rfl, rfl, hr', hn', hnm, hdg⟩
    go_wp2_with fail
    refine bodyPost_ret (v := .tuple #[.agg #[.bool (fneg u), .slice ao' n 2, .int .i64 (-1074)], .bool true]) (res_num2 _ 2 3 (by kernel_rfl) _ _ w.heap.size _ _ _ _ (by rfl) (by rfl) (alloc2_first w _ _)) rfl ⟨_, rfl, ⟨fneg u, -1074, ⟨ao', n, 2, _, rfl, rd4_other ⟨_, _, _, _, _, alloc2_first w _ _⟩ (fun b hb => alloc2_other w _ _ _ b hb) hr', hnm, by rw [hdg]; exact HW.out.1⟩, fun _ _ => ⟨rfl, rfl⟩, by omega, by omega, fun h => absurd h (by omega)⟩, hb0 _ _⟩
   ·rw [if_neg hE0] at hm2 he2
    subst hm2 he2
    have hEp : 0 < E := by omega
    have hE0i : ((E : Int) == 0) = false := by rw [beq_eq_false_iff_ne]; omega
    generalize hmm : 4503599627370496 + m = m2 at *
    go_enter Tryz.func47, Tryz.ntmps47
    go_wp2_with fail
    refine (trim_any _ 2 2 [lo, hi] _ HRD.out).mono ?_
    rintro ee ww ⟨ao', n, rfl, rfl, hr', hn', hnm, hdg⟩
    go_wp2_with fail
    refine bodyPost_ret (v := .tuple #[.agg #[.bool (fneg u), .slice ao' n 2, .int .i64 ((E : Int) - 1075)], .bool true]) (res_num2 _ 2 3 (by kernel_rfl) _ _ w.heap.size _ _ _ _ (by rfl) (by rfl) (alloc2_first w _ _)) rfl ⟨_, rfl, ⟨fneg u, (E : Int) - 1075, ⟨ao', n, 2, _, rfl, rd4_other ⟨_, _, _, _, _, alloc2_first w _ _⟩ (fun b hb => alloc2_other w _ _ _ b hb) hr', hnm, by rw [hdg]; exact HW.out.1⟩, fun _ _ => ⟨rfl, rfl⟩, by omega, by omega, fun h => absurd h (by omega)⟩, hb0 _ _⟩
theorem ofC_any (u : Nat) (hu : u < 18446744073709551616) (w : World) (E : Nat) (hE : E = 1074) :
  Calls Tryz.prog 47 #[.int .u64 u] w fun e' w' => ∃ v, e' = .returned (.tuple #[v, .bool (decide (Fin u))]) /\ (∃ z, NumC w' v E 1024 z /\ (Fin u -> z = fval u)) /\ Below w.heap.size w w' := by
 refine (ofE_any u hu w).mono ?_
 rintro e' w' ⟨v, rfl, ⟨neg, e, hN, hne, h1, h2, h3⟩, hB⟩
 refine ⟨v, rfl, ⟨_, ⟨neg, _, e, hN, by omega, ?_, rfl, h3⟩, ?_⟩, hB⟩
 ·by_cases hf : Fin u
  ·rw [if_pos hf]
   have hv := ofM_val hf
   have := hv.2.2.2.1
   omega
  ·rw [if_neg hf, bl_zero]; omega
 ·intro hf
  rw [if_pos hf]
  have hv := ofM_val hf
  by_cases h0 : frung u = 0
  ·rw [hv.2.2.2.2.2 h0, zv_zero]; unfold fval; rw [h0, rmag_zero]; split <;> rfl
  ·obtain ⟨rfl, rfl⟩ := hne hf h0
   unfold zv sv fval
   rw [hE, <- hv.1]
   split
   ·rw [Int.natCast_mul, Int.neg_mul]; rfl
   ·rw [Int.natCast_mul]; rfl
theorem turnedC_any (v : Value) (s : Nat) (T x : Int) (w : World) (hx : NumC w v s T x) :
  Calls Tryz.prog 94 #[v] w fun e' w' => ∃ v', e' = .returned v' /\ NumC w' v' s T (-x) /\ Below w.heap.size w w' := by
 obtain ⟨nx, mx, ex, h1, h2, h3, h4, h5⟩ := hx
 refine (turned_any v nx mx ex w h1).mono ?_
 rintro e' w' ⟨v', rfl, hN, hB⟩
 refine ⟨v', rfl, ⟨_, mx, ex, hN, h2, h3, ?_, h5⟩, hB⟩
 by_cases h0 : mx = 0
 ·rw [<- h4, h0, zv_zero, zv_zero]; rfl
 ·rw [if_neg h0, zv_not, h4]
theorem minusC_any (v u : Value) (s : Nat) (T x y : Int) (w : World) (hx : NumC w v s T x) (hy : NumC w u s T y) (hs : s <= 20000) (hT : 0 <= T /\ T <= 20000) :
  Calls Tryz.prog 73 #[v, u] w fun e' w' => ∃ v', e' = .returned v' /\ NumC w' v' s (T + 1) (x - y) /\ Below w.heap.size w w' := by
 have HX : Hid (NumC w v s T x) := hx
 have HY : Hid (NumC w u s T y) := hy
 obtain ⟨nx, mx, ex, ⟨ao, len, cap, xs, rfl, -⟩, -⟩ := hx
 obtain ⟨ny, my, ey, ⟨bo, blen, bcap, ys, rfl, -⟩, -⟩ := hy
 obtain ⟨p0, p1, p2, pz, pb⟩ := alloc3_facts w (Obj.cells #[Value.bool nx, Value.slice ao len cap, Value.int IntKind.i64 ex] 65) (Obj.cells #[Value.bool ny, Value.slice bo blen bcap, Value.int IntKind.i64 ey] 65) (Obj.cells #[Value.bool false, Value.slice none 0 0, Value.int IntKind.i64 0] 65)
 have PZ : Hid _ := pz
 have PB : Hid _ := pb
 go_enter Tryz.func73, Tryz.ntmps73
 go_wp2_with fail
 generalize (((w.alloc (Obj.cells #[Value.bool nx, Value.slice ao len cap, Value.int IntKind.i64 ex] 65)).alloc (Obj.cells #[Value.bool ny, Value.slice bo blen bcap, Value.int IntKind.i64 ey] 65)).alloc (Obj.cells #[Value.bool false, Value.slice none 0 0, Value.int IntKind.i64 0] 65)) = wa at *
 have HY2 : Hid (NumC wa.drew _ s T y) := NumC.later HY.out PB.out.drew
 have P2 : Hid _ := p2
 obtain ⟨x0, x1, x2⟩ := three_cells p0
 obtain ⟨y0, y1, y2⟩ := three_cells p1
 have P0 : Hid _ := p0
 have P1 : Hid _ := p1
 clear p0 p1 p2 pz pb
 have hne1 : ¬ (w.heap.size + 1 + 1 = w.heap.size) := by omega
 have hne2 : ¬ (w.heap.size = w.heap.size + 1 + 1) := by omega
 go_region_held3 (fun w' => w'.cell? ⟨w.heap.size, 0, none⟩ = some (.bool nx) /\ w'.cell? ⟨w.heap.size, 1, none⟩ = some (.slice ao len cap) /\ w'.cell? ⟨w.heap.size, 2, none⟩ = some (.int .i64 ex) /\ w'.cell? ⟨w.heap.size + 1, 0, none⟩ = some (.bool ny) /\ w'.cell? ⟨w.heap.size + 1, 1, none⟩ = some (.slice bo blen bcap) /\ w'.cell? ⟨w.heap.size + 1, 2, none⟩ = some (.int .i64 ey)) (go_keep)
  (first
   | (go_at_call 94; refine (turnedC_any _ s T y _ HY2.out).mono ?_; rintro ee ww ⟨v1, rfl, hz1, hb1⟩; have b0 := (hb1.block w.heap.size (by show w.heap.size < wa.heap.size; rw [PZ.out]; omega)).trans P0.out; have b1 := (hb1.block (w.heap.size + 1) (by show w.heap.size + 1 < wa.heap.size; rw [PZ.out]; omega)).trans P1.out; have b2 := (hb1.block (w.heap.size + 1 + 1) (by show w.heap.size + 1 + 1 < wa.heap.size; rw [PZ.out]; omega)).trans P2.out; obtain ⟨a0, a1, a2⟩ := three_cells b0; obtain ⟨a3, a4, a5⟩ := three_cells b1; have HBB : Hid (Below w.heap.size w ww) := PB.out.drew.trans (hb1.mono (by show w.heap.size <= wa.heap.size; rw [PZ.out]; omega)); have HSZ : Hid (w.heap.size + 3 <= ww.heap.size) := Nat.le_trans (Nat.le_of_eq PZ.out.symm) hb1.size; have HZ1 : Hid (NumC ww v1 s T (-y)) := hz1; have B0 : Hid _ := b0; have B1 : Hid _ := b1; have B2 : Hid _ := b2; clear hz1 hb1 b0 b1 b2)
   | (go_at_call 28; refine (plusC_any _ _ s T x (-y) _ (NumC.later HX.out HBB.out) HZ1.out hs hT).mono ?_; rintro ee ww2 ⟨v2, rfl, hz2, hb2⟩; have d0 := (hb2.block w.heap.size (by have := HSZ.out; omega)).trans B0.out; have d1 := (hb2.block (w.heap.size + 1) (by have := HSZ.out; omega)).trans B1.out; obtain ⟨i0, i1, i2⟩ := three_cells d0; obtain ⟨i3, i4, i5⟩ := three_cells d1; have d2 := (hb2.block (w.heap.size + 1 + 1) (by have := HSZ.out; omega)).trans B2.out; have HB3 : Hid (Below w.heap.size w ww2) := HBB.out.trans (hb2.mono HBB.out.size); obtain ⟨c0, c1, c2⟩ := three_cells d2; have fc := (fun j => frozen_of_row _ _ j _ _ d2); have D2 : Hid _ := d2; have HZ2 : Hid (NumC ww2 v2 s (T + 1) (x + -y)) := hz2; obtain ⟨n3, m3, e3, ⟨a3, l3, c3, xs3, rfl, -⟩, -⟩ := hz2; clear hb2 d0 d1 d2))
 all_goals go_wp2_with fail
 all_goals
  refine bodyPost_ret (v := .agg #[.bool n3, .slice a3 l3 c3, .int .i64 e3]) (res_num _ 4 (by kernel_rfl) _ _ (w.heap.size + 1 + 1) _ _ _ (by rfl) (set3_heap _ _ _ D2.out)) rfl ⟨_, rfl, ?_, ?_⟩
  ·rw [show x - y = x + -y by omega]; exact NumC.set3 _ _ _ ⟨_, _, _, _, _, D2.out⟩ HZ2.out
  ·exact below_set3 _ _ _ HB3.out (by omega)
theorem NumC.size {w : World} {nb : Bool} {ao : Option Addr} {len cap : Nat} {e : Int} {s : Nat} {T z : Int} (h : NumC w (.agg #[.bool nb, .slice ao len cap, .int .i64 e]) s T z) : NumC w (.agg #[.bool false, .slice ao len cap, .int .i64 e]) s T (z.natAbs : Int) := by
 obtain ⟨neg, m, e', ⟨a, l, c, xs, h1, h2, h3, h4⟩, h5, h6, h7, h8⟩ := h
 cases h1
 refine ⟨false, m, e, ⟨ao, len, cap, xs, rfl, h2, h3, h4⟩, h5, h6, ?_, h8⟩
 rw [<- h7, zv_abs]; unfold zv sv
 simp only [Bool.false_eq_true, if_false]
 rw [Int.natCast_mul]
theorem sizeC_any (v : Value) (s : Nat) (T x : Int) (w : World) (hx : NumC w v s T x) :
  Calls Tryz.prog 29 #[v] w fun e' w' => ∃ v', e' = .returned v' /\ NumC w' v' s T (x.natAbs : Int) /\ Below w.heap.size w w' := by
 obtain ⟨nx, mx, ex, h1, h2, h3, h4, h5⟩ := hx
 refine (size_any v nx mx ex w h1).mono ?_
 rintro e' w' ⟨v', rfl, hN, hB⟩
 refine ⟨v', rfl, ⟨_, mx, ex, hN, h2, h3, ?_, h5⟩, hB⟩
 rw [<- h4, zv_abs]; unfold zv sv
 simp only [Bool.false_eq_true, if_false]
 rw [Int.natCast_mul]
open Go.RowKit Go.Shelf
def Cl (p : Value -> Bool) (w : World) (g : Nat) : Prop := ∃ cur t, w.heap[g]? = some (.cells cur t) /\ ∀ (i : Nat) (v : Value), cur[i]? = some v -> p v = true
def noU : Value -> Bool
 | .int .u32 _ => false
 | _ => true
theorem rd4_cl {w w' : World} {B : Nat} (hB : Cl noU w B) (hs : ∀ b, b ≠ B -> b < w.heap.size -> w'.heap[b]? = w.heap[b]?) {ao : Option Addr} {len cap : Nat} {xs : List Nat} (h : Rd4 w ao len cap xs) : Rd4 w' ao len cap xs := by
 refine ⟨h.length, h.le, h.max, h.lt, h.nil, ?_⟩
 rcases h.cells with h0 | ⟨b, off, ha, hc⟩
 ·exact .inl h0
 ·refine .inr ⟨b, off, ha, fun j hj => ?_⟩
  have h1 := hc j hj
  have hne : b ≠ B := by
   rintro rfl
   obtain ⟨cur, t, e1, e2⟩ := hB
   rw [cell_of_row _ _ _ _ _ _ e1] at h1
   have := e2 _ _ h1
   cases this
  rw [World.cell?_of_block (w := w) (w' := w') (a := ⟨b, off + j, none⟩) (hs b hne (World.block_lt_of_cell? w _ h1))]
  exact h1
theorem NumZ.cl {w w' : World} {B : Nat} (hB : Cl noU w B) (hs : ∀ b, b ≠ B -> b < w.heap.size -> w'.heap[b]? = w.heap[b]?) {v : Value} {s : Nat} {T z : Int} (h : NumZ w v s T z) : NumZ w' v s T z := by
 obtain ⟨neg, m, e, ⟨ao, len, cap, xs, h1, h2, h3, h4⟩, h5⟩ := h
 exact ⟨neg, m, e, ⟨ao, len, cap, xs, h1, rd4_cl hB hs h2, h3, h4⟩, h5⟩
theorem NumC.cl {w w' : World} {B : Nat} (hB : Cl noU w B) (hs : ∀ b, b ≠ B -> b < w.heap.size -> w'.heap[b]? = w.heap[b]?) {v : Value} {s : Nat} {T z : Int} (h : NumC w v s T z) : NumC w' v s T z := by
 obtain ⟨neg, m, e, ⟨ao, len, cap, xs, h1, h2, h3, h4⟩, h5⟩ := h
 exact ⟨neg, m, e, ⟨ao, len, cap, xs, h1, rd4_cl hB hs h2, h3, h4⟩, h5⟩
structure RowN (w : World) (base : Nat) (v : Value) (E : Nat) (us : List Nat) : Prop where
 own : ∃ xs, w.ownsRow base 65 3 v us.length xs /\ ∀ j, j < us.length -> ∃ n o l c e, xs[j * 3]? = some (.bool n) /\ xs[j * 3 + 1]? = some (.slice o l c) /\ xs[j * 3 + 2]? = some (.int .i64 e) /\ NumC w (.agg #[.bool n, .slice o l c, .int .i64 e]) E 1024 (fval (us[j]?.getD 0))
 cl : ∀ g, v.ownBlock = some g -> Cl noU w g
theorem RowN.nil (w : World) (base E : Nat) : RowN w base (.slice none 0 0) E [] := ⟨⟨[], World.ownsRow_nil _ _ _ _, fun j hj => absurd hj (Nat.not_lt_zero _)⟩, fun g hg => by cases hg⟩
theorem Cl.later {p : Value -> Bool} {w w' : World} {g : Nat} (h : Cl p w g) (hb : Below w.heap.size w w') : Cl p w' g := by
 obtain ⟨cur, t, h1, h2⟩ := h
 exact ⟨cur, t, (hb.block g (blk_lt h1)).trans h1, h2⟩
theorem RowN.later {w w' : World} {base E : Nat} {v : Value} {us : List Nat} (h : RowN w base v E us) (hb : Below w.heap.size w w') : RowN w' base v E us := by
 obtain ⟨xs, h1, h2⟩ := h.own
 exact ⟨⟨xs, owns_keep h1 fun k hk => hb.block k (World.ownsRow.lt h1 k hk).2, fun j hj => by obtain ⟨n, o, l, c, e, a1, a2, a3, a4⟩ := h2 j hj; exact ⟨n, o, l, c, e, a1, a2, a3, a4.later hb⟩⟩, fun g hg => (h.cl g hg).later hb⟩
theorem RowN.mono {w : World} {base base' E : Nat} {v : Value} {us : List Nat} (h : RowN w base v E us) (hb : base' <= base) : RowN w base' v E us := by
 obtain ⟨xs, h1, h2⟩ := h.own
 exact ⟨⟨xs, owns_monoJ h1 hb, h2⟩, h.cl⟩
theorem RowN.push {w w' : World} {base E : Nat} {v v' : Value} {us : List Nat} {u : Nat} {n : Bool} {o : Option Addr} {l c : Nat} {e : Int} {xs : List Value} (hx : w.ownsRow base 65 3 v us.length xs) (h2 : ∀ j, j < us.length -> ∃ n o l c e, xs[j * 3]? = some (.bool n) /\ xs[j * 3 + 1]? = some (.slice o l c) /\ xs[j * 3 + 2]? = some (.int .i64 e) /\ NumC w (.agg #[.bool n, .slice o l c, .int .i64 e]) E 1024 (fval (us[j]?.getD 0)))
  (hcl : ∀ g, v.ownBlock = some g -> Cl noU w g) (hn : NumC w (.agg #[.bool n, .slice o l c, .int .i64 e]) E 1024 (fval u)) (ho : w'.ownsRow base 65 3 v' (us.length + 1) (xs ++ [.bool n, .slice o l c, .int .i64 e])) (hg : Grw w w' v.ownBlock v'.ownBlock) (hcl' : ∀ g, v'.ownBlock = some g -> Cl noU w' g) : RowN w' base v' E (us ++ [u]) := by
 have keep : ∀ (y : Value) (z : Int), NumC w y E 1024 z -> NumC w' y E 1024 z := fun y z hy => by
  cases hv : v.ownBlock with
  | none => exact hy.later ⟨hg.by'.os, hg.by'.tape, hg.by'.output, hg.by'.size, fun k hk => hg.by'.block k hk (by rw [hv]; simp)⟩
  | some g => exact hy.cl (hcl g hv) fun b hb hlt => hg.by'.block b hlt (by rw [hv]; intro e; cases e; exact hb rfl)
 have hl : xs.length = us.length * 3 := hx.1
 refine ⟨⟨_, by simpa using ho, fun j hj => ?_⟩, hcl'⟩
 by_cases ej : j < us.length
 ·obtain ⟨n1, o1, l1, c1, e1, a1, a2, a3, a4⟩ := h2 j ej
  refine ⟨n1, o1, l1, c1, e1, ?_, ?_, ?_, ?_⟩
  ·rw [List.getElem?_append_left (by omega)]; exact a1
  ·rw [List.getElem?_append_left (by omega)]; exact a2
  ·rw [List.getElem?_append_left (by omega)]; exact a3
  ·rw [List.getElem?_append_left ej]; exact keep _ _ a4
 ·have e2 : j = us.length := by simp at hj; omega
  subst e2
  refine ⟨n, o, l, c, e, ?_, ?_, ?_, ?_⟩
  ·rw [List.getElem?_append_right (by omega), hl, Nat.sub_self]; rfl
  ·rw [List.getElem?_append_right (by omega), hl, show us.length * 3 + 1 - us.length * 3 = 1 by omega]; rfl
  ·rw [List.getElem?_append_right (by omega), hl, show us.length * 3 + 2 - us.length * 3 = 2 by omega]; rfl
  ·rw [List.getElem?_append_right (Nat.le_refl _), Nat.sub_self]; exact keep _ _ hn
theorem Cl.same {p : Value -> Bool} {w w' : World} {g : Nat} (h : Cl p w g) (hb : w'.heap[g]? = w.heap[g]?) : Cl p w' g := by
 obtain ⟨cur, t, h1, h2⟩ := h
 exact ⟨cur, t, hb.trans h1, h2⟩
theorem RowN.at {w : World} {base E : Nat} {v : Value} {us : List Nat} (h : RowN w base v E us) {k : Nat} (hk : k < us.length) : ∃ b cap, v = .slice (some ⟨b, 0, none⟩) us.length cap /\ ∃ n o l c e, w.cell? ⟨b, k * 3, none⟩ = some (.bool n) /\ w.cell? ⟨b, k * 3 + 1, none⟩ = some (.slice o l c) /\ w.cell? ⟨b, k * 3 + 2, none⟩ = some (.int .i64 e) /\ NumC w (.agg #[.bool n, .slice o l c, .int .i64 e]) E 1024 (fval (us[k]?.getD 0)) := by
 obtain ⟨xs, h1, h2⟩ := h.own
 obtain ⟨n, o, l, c, e, a1, a2, a3, a4⟩ := h2 k hk
 have h1' := h1
 rcases h1.2 with ⟨_, h0⟩ | ⟨g, cap, cur, rfl, _⟩
 ·omega
 ·refine ⟨g, cap, rfl, n, o, l, c, e, ?_, ?_, ?_, a4⟩
  ·rw [World.ownsRow.cellAt h1' (k * 3) (by omega)]; exact a1
  ·rw [World.ownsRow.cellAt h1' (k * 3 + 1) (by omega)]; exact a2
  ·rw [World.ownsRow.cellAt h1' (k * 3 + 2) (by omega)]; exact a3
theorem RowN.form {w : World} {base E : Nat} {v : Value} {us : List Nat} (h : RowN w base v E us) : ∃ ao cap, v = .slice ao us.length cap := by
 obtain ⟨xs, h1, h2⟩ := h.own
 rcases h1.2 with ⟨rfl, h0⟩ | ⟨g, cap, cur, rfl, _⟩
 ·exact ⟨none, 0, by rw [h0]⟩
 ·exact ⟨_, cap, rfl⟩
structure UW (u : ZD) : Prop where
 cl : u.cn <= 1050000
 rl : u.rn <= 1050000
 il : u.dn <= 1050000
 gl : u.gn <= 1050000
 ll : ∀ k, k < u.gn -> (u.gv k).2.1 <= 1050000
 c : ∀ x ∈ u.cs, x < 18446744073709551616
 r : ∀ x ∈ u.rs, x < 18446744073709551616
 g : ∀ l ∈ u.gs, ∀ x ∈ l, x < 18446744073709551616
structure SmZ (u z : ZD) : Prop where
 N : u.N = z.N
 bad : u.bad = z.bad
 cs : u.cs = z.cs
 rs : u.rs = z.rs
 ids : u.ids = z.ids
 gs : u.gs = z.gs
 dn : u.dn = z.dn
 gn : u.gn = z.gn
 cn : u.cn = z.cn
 rn : u.rn = z.rn
theorem ofU (z : ZD) (w : World) (hz : ZR w z) (hw : ZW z) :
  Calls Tryz.prog 7 #[.agg (zRow z)] w fun e w' => ∃ u : ZD, e = .returned (.agg (zRow u)) /\ ZU w' u /\ SmZ u z /\ Below w.heap.size w w' := by
 refine Calls.mono (of10_any z w hz hw) ?_
 rintro e w1 ⟨u, he, hu, u1, u2, u3, u4, u5, u6, u7, u8, u9, u10, b1⟩
 exact ⟨u, he, hu, ⟨u1, u2, u3, u4, u5, u6, u7, u8, u9, u10⟩, b1⟩
theorem range3 {w : World} {b o : Nat} {x y z : Value} (h1 : w.cell? ⟨b, o, none⟩ = some x) (h2 : w.cell? ⟨b, o + 1, none⟩ = some y) (h3 : w.cell? ⟨b, o + 2, none⟩ = some z) : w.rangeAt b o [x, y, z] := by
 intro j v hv
 match j, hv with
 | 0, hv => simp only [List.getElem?_cons_zero, Option.some.injEq] at hv; subst hv; exact h1
 | 1, hv => simp only [List.getElem?_cons_succ, List.getElem?_cons_zero, Option.some.injEq] at hv; subst hv; exact h2
 | 2, hv => simp only [List.getElem?_cons_succ, List.getElem?_cons_zero, Option.some.injEq] at hv; subst hv; exact h3
 | j + 3, hv => simp at hv
theorem RowN.range {w : World} {base E : Nat} {v : Value} {us : List Nat} (h : RowN w base v E us) {k : Nat} (hk : k < us.length) : ∃ b cap n o l c e, v = .slice (some ⟨b, 0, none⟩) us.length cap /\ w.rangeAt b (k * 3) [.bool n, .slice o l c, .int .i64 e] /\ NumC w (.agg #[.bool n, .slice o l c, .int .i64 e]) E 1024 (fval (us[k]?.getD 0)) := by
 obtain ⟨b, cap, hv, n, o, l, c, e, c1, c2, c3, hz⟩ := h.at hk
 exact ⟨b, cap, n, o, l, c, e, hv, range3 c1 c2 c3, hz⟩
theorem range_later {w w' : World} {b o : Nat} {cs : List Value} (h : w.rangeAt b o cs) (hb : Below w.heap.size w w') : w'.rangeAt b o cs := fun j v hv => (hb.cell (World.block_lt_of_cell? _ _ (h j v hv))).trans (h j v hv)
theorem ex_loadRN {P : Program} {ρ : Operand -> Value} (o : Oper) (ty : TypeId) (p : Operand) (ho : o.op = .load ty p) (B : Nat) (hp : ρ p = .pointer (some ⟨B, 0, none⟩)) (w : World) (c : Array Value) (h : w.heap[B]? = some (.cells c ty)) (d : TypeDesc) (hu : P.underlying ty = some d) (hd : d.isRow = true) (n : Nat) (hi : (P.info? ty).map (·.size) = some n) (hn : c.size = n) : (execOp ρ o).run P w = .ok (.value (.agg c)) w := by
 have hr : w.rangeAt B 0 c.toList := by
  have := World.rangeAt_of_block h 0 c.size
  simpa using this
 have hl := run_loadVar_mid (P := P) w B 0 ty c.toList d hr hu hd (by rw [hi]; simp [hn])
 have hl2 : (loadVar ty ⟨B, 0, none⟩).run P w = .ok (.agg c) w := by simpa using hl
 unfold execOp
 simp only [ho, hp, Instr.loadAt, Instr.sureAddr, Sem.run_bind, Sem.run_pure, Result.andThen_ok, hl2]
theorem num_cl {w : World} {B : Nat} {n : Bool} {o : Option Addr} {l c : Nat} {e : Int} {t : TypeId} (h : w.heap[B]? = some (.cells #[.bool n, .slice o l c, .int .i64 e] t)) : Cl noU w B := by
 refine ⟨_, _, h, fun i v hv => ?_⟩
 match i, hv with
 | 0, hv => cases hv; rfl
 | 1, hv => cases hv; rfl
 | 2, hv => cases hv; rfl
theorem Tryz.infoN3 : (Tryz.prog.info? 65).map (·.size) = some 3 := by kernel_rfl
theorem oneN (n : Bool) (o : Option Addr) (l c : Nat) (e : Int) : (#[.bool n, .slice o l c, .int .i64 e] : Array Value).all (·.oneCell') = true := by
 simp only [Array.all_eq_true_iff_forall_mem]
 intro v hv
 simp only [List.mem_toArray, List.mem_cons, List.not_mem_nil, or_false] at hv
 rcases hv with rfl | rfl | rfl <;> rfl
structure BxN (w : World) (B s : Nat) (T z : Int) (n : Bool) (o : Option Addr) (l c : Nat) (e : Int) : Prop where
 row : w.heap[B]? = some (.cells #[.bool n, .slice o l c, .int .i64 e] 65)
 num : NumC w (.agg #[.bool n, .slice o l c, .int .i64 e]) s T z
theorem NumC.form {w : World} {v : Value} {s : Nat} {T z : Int} (h : NumC w v s T z) : ∃ n o l c e, v = .agg #[.bool n, .slice o l c, .int .i64 e] := by
 obtain ⟨neg, m, e, ⟨ao, len, cap, xs, h1, _⟩, _⟩ := h
 exact ⟨neg, ao, len, cap, e, h1⟩
theorem NumC.zeroJ (w : World) (s : Nat) (T : Int) (hT : 0 <= T) : NumC w (.agg #[.bool false, .slice none 0 0, .int .i64 0]) s T 0 :=
 ⟨false, 0, 0, ⟨none, 0, 0, [], rfl, rd4_none _, .inl rfl, rfl⟩, by omega, by rw [bl_zero]; omega, zv_zero _ _ _, fun _ => rfl⟩
end Go.Proofs.YthmhgpadinecfaaGreat
namespace Go.Proofs.YthmhgpadinecfaaGreat
open Go.RowKit
theorem NumB.lt {V : World} {B : Nat} (h : NumB V B) : B < V.heap.size := by
 obtain ⟨a, b, c, d, e, h⟩ := h; exact blk_lt h
theorem NumB.keep {V V' : World} {B : Nat} (h : NumB V B) (hk : V'.heap[B]? = V.heap[B]?) : NumB V' B := by
 obtain ⟨a, b, c, d, e, h⟩ := h; exact ⟨a, b, c, d, e, hk.trans h⟩
variable {w V : World} {R Q X Y S : Nat} {so : Obj} {nx ny : Bool} {ao bo : Option Addr} {len cap blen bcap : Nat} {ex ey : Int} {E : Nat} {z1 z2 : Int}
open Go.RowKit Go.Shelf
theorem SmZ.symm {u z : ZD} (m : SmZ u z) : SmZ z u := ⟨m.N.symm, m.bad.symm, m.cs.symm, m.rs.symm, m.ids.symm, m.gs.symm, m.dn.symm, m.gn.symm, m.cn.symm, m.rn.symm⟩
theorem SmZ.trans {u z x : ZD} (m : SmZ u z) (k : SmZ z x) : SmZ u x := ⟨m.N.trans k.N, m.bad.trans k.bad, m.cs.trans k.cs, m.rs.trans k.rs, m.ids.trans k.ids, m.gs.trans k.gs, m.dn.trans k.dn, m.gn.trans k.gn, m.cn.trans k.cn, m.rn.trans k.rn⟩
theorem SmZ.bits {x u z : ZD} (m : SmZ x z) (k : SmZ u z) : bitsB x u = true := by
 unfold bitsB
 rw [m.N, m.bad, m.cs, m.rs, m.ids, m.gs, k.N, k.bad, k.cs, k.rs, k.ids, k.gs]
 simp
theorem nilz_cells {o : Nat} {v : Value} (h : (#[.int .i64 0, .slice none 0 0, .slice none 0 0, .slice none 0 0, .slice none 0 0, .bool false] : Array Value)[o]? = some v) : v = .int .i64 0 \/ v = .slice none 0 0 \/ v = .bool false := by
 match o, h with
 | 0, h => simp at h; exact .inl h.symm
 | 1, h => simp at h; exact .inr (.inl h.symm)
 | 2, h => simp at h; exact .inr (.inl h.symm)
 | 3, h => simp at h; exact .inr (.inl h.symm)
 | 4, h => simp at h; exact .inr (.inl h.symm)
 | 5, h => simp at h; exact .inr (.inr h.symm)
 | o + 6, h => simp at h
theorem RdF.store {w W' : World} {B : Nat} {t : TypeId} {ao : Option Addr} {len cap : Nat} {us : List Nat} (h : RdF w ao len cap us) (hB : w.heap[B]? = some (.cells #[.int .i64 0, .slice none 0 0, .slice none 0 0, .slice none 0 0, .slice none 0 0, .bool false] t)) (ho : ∀ k, k ≠ B -> W'.heap[k]? = w.heap[k]?) : RdF W' ao len cap us := by
 refine ⟨h.length, h.max, h.lt, ?_⟩
 rcases h.cells with h0 | ⟨b, off, ha, hc⟩
 ·exact .inl h0
 ·refine .inr ⟨b, off, ha, fun j hj => ?_⟩
  have h1 := hc j hj
  rw [<- h1]
  refine cell_heapJ (ho b ?_) _
  rintro rfl
  rw [cell_of_row _ _ _ _ _ _ hB] at h1
  rcases nilz_cells h1 with h2 | h2 | h2 <;> cases h2
theorem ZR.store {w W' : World} {y : ZD} {B : Nat} {t : TypeId} (h : ZR w y) (hB : w.heap[B]? = some (.cells #[.int .i64 0, .slice none 0 0, .slice none 0 0, .slice none 0 0, .slice none 0 0, .bool false] t)) (ho : ∀ k, k ≠ B -> W'.heap[k]? = w.heap[k]?) (hi : y.dn = 0 \/ ∀ b off, y.io = some ⟨b, off, none⟩ -> b ≠ B) (hg : ∀ j, j < y.gn -> 0 < (y.gv j).2.1) : ZR W' y := by
 refine ⟨h.c.store hB ho, ⟨h.i.length, h.i.max, ?_⟩, ⟨h.g.length, h.g.max, ?_, fun j hj => (h.g.each j hj).store hB ho⟩, h.r.store hB ho⟩
 ·rcases hi with h0 | hi
  ·exact .inl h0
  ·rcases h.i.cells with h0 | ⟨b, off, ha, hc⟩
   ·exact .inl h0
   ·exact .inr ⟨b, off, ha, fun j hj => (cell_heapJ (ho b (hi b off ha)) _).trans (hc j hj)⟩
 ·rcases h.g.cells with h0 | ⟨b, off, ha, hc⟩
  ·exact .inl h0
  ·refine .inr ⟨b, off, ha, fun j hj => ?_⟩
   have h1 := hc j hj
   rw [<- h1]
   refine cell_heapJ (ho b ?_) _
   rintro rfl
   rw [cell_of_row _ _ _ _ _ _ hB] at h1
   have h3 := hg j hj
   rcases nilz_cells h1 with h2 | h2 | h2
   ·cases h2
   ·injection h2 with _ h4 _
    omega
   ·cases h2
def fz (u : Nat) : Nat := if Fin u then u else 0
theorem fz_is {u : Nat} (h : Fin u) : fz u = u := if_pos h
theorem ofH_any (u : Nat) (hu : u < 18446744073709551616) (w : World) (E : Nat) (hE : E = 1074) :
  Calls Tryz.prog 47 #[.int .u64 u] w fun e' w' => ∃ v b, e' = .returned (.tuple #[v, .bool b]) /\ NumC w' v E 1024 (fval (fz u)) /\ Below w.heap.size w w' := by
 by_cases hf : Fin u
 ·refine (ofC_any u hu w E hE).mono ?_
  rintro e' w' ⟨v, rfl, ⟨z, hz, hv⟩, hB⟩
  exact ⟨v, _, rfl, by rw [fz_is hf, <- hv hf]; exact hz, hB⟩
 ·refine (ofE_any u hu w).mono ?_
  rintro e' w' ⟨v, rfl, ⟨neg, e, hN, hne, h1, h2, h3⟩, hB⟩
  rw [if_neg hf] at hN h3
  have h4 := h3 rfl
  subst h4
  refine ⟨v, _, rfl, ⟨neg, 0, 0, hN, by omega, by rw [bl_zero]; omega, ?_, fun _ => rfl⟩, hB⟩
  unfold fz
  rw [if_neg hf, zv_zero, fval_zeroJ]
theorem RowN.stored {w w' : World} {base E B : Nat} {v : Value} {us : List Nat} (h : RowN w base v E us) (hc : Cl noU w B) (ho : ∀ b, b ≠ B -> w'.heap[b]? = w.heap[b]?) (hB : ∀ g, v.ownBlock = some g -> g ≠ B) : RowN w' base v E us := by
 obtain ⟨xs, h1, h2⟩ := h.own
 refine ⟨⟨xs, owns_keep h1 fun k hk => ho k (hB k hk), fun j hj => ?_⟩, fun g hg => ?_⟩
 ·obtain ⟨n, o, l, c, e, a1, a2, a3, a4⟩ := h2 j hj
  exact ⟨n, o, l, c, e, a1, a2, a3, a4.cl hc (fun b hb _ => ho b hb)⟩
 ·obtain ⟨cur, t, h3, h4⟩ := h.cl g hg
  exact ⟨cur, t, (ho g (hB g hg)).trans h3, h4⟩
theorem mostT_any (v u : Value) (s : Nat) (T x y : Int) (w : World) (hx : NumC w v s T x) (hy : NumC w u s T y) (hs : s <= 20000) (hT : 0 <= T /\ T <= 20000) :
  Calls Tryz.prog 72 #[v, u] w fun e' w' => ∃ v', e' = .returned v' /\ NumC w' v' s T (max x y) /\ Below w.heap.size w w' := by
 have HX : Hid (NumC w v s T x) := hx
 have HY : Hid (NumC w u s T y) := hy
 obtain ⟨nx, mx, ex, ⟨ao, len, cap, xs, rfl, -⟩, -⟩ := hx
 obtain ⟨ny, my, ey, ⟨bo, blen, bcap, ys, rfl, -⟩, -⟩ := hy
 obtain ⟨g0, g1, g2, gz, gb⟩ := alloc3_facts w (Obj.cells #[Value.bool nx, Value.slice ao len cap, Value.int IntKind.i64 ex] 65) (Obj.cells #[Value.bool ny, Value.slice bo blen bcap, Value.int IntKind.i64 ey] 65) (Obj.cells #[Value.bool false, Value.slice none 0 0, Value.int IntKind.i64 0] 65)
 have G0 : Hid _ := g0
 have G1 : Hid _ := g1
 have G2 : Hid _ := g2
 have GB : Hid _ := gb
 clear g0 g1 g2 gz gb
 go_enter Tryz.func72, Tryz.ntmps72
 go_upto_region 1 with fail
 generalize (((w.alloc (Obj.cells #[Value.bool nx, Value.slice ao len cap, Value.int IntKind.i64 ex] 65)).alloc (Obj.cells #[Value.bool ny, Value.slice bo blen bcap, Value.int IntKind.i64 ey] 65)).alloc (Obj.cells #[Value.bool false, Value.slice none 0 0, Value.int IntKind.i64 0] 65)) = W0 at G0 G1 G2 GB ⊢
 obtain ⟨x0, x1, x2⟩ := cells3 G0.out
 obtain ⟨y0, y1, y2⟩ := cells3 G1.out
 go_wp2_with fail
 refine Calls.mono (cmpZ_any _ _ s T x y _ (NumC.later HX.out GB.out).toZ (NumC.later HY.out GB.out).toZ hs hT) ?_
 rintro e w1 ⟨rfl, bw⟩
 have A1 : Hid _ := (bw.block _ (blk_lt G0.out)).trans G0.out
 have B1 : Hid _ := (bw.block _ (blk_lt G1.out)).trans G1.out
 have R1 : Hid _ := (bw.block _ (blk_lt G2.out)).trans G2.out
 have C1 : Hid (Below w.heap.size w w1) := GB.out.trans (bw.mono GB.out.size)
 have Zx : Hid (NumC w1 _ s T x) := NumC.later HX.out C1.out
 have Zy : Hid (NumC w1 _ s T y) := NumC.later HY.out C1.out
 clear bw G0 G1 G2 GB x0 x1 x2 y0 y1 y2 HX HY
 obtain ⟨x0, x1, x2⟩ := cells3 A1.out
 obtain ⟨y0, y1, y2⟩ := cells3 B1.out
 have hsg : sgi (x - y) ≥ 0 ↔ x - y ≥ 0 := by
  unfold sgi; split
  ·omega
  ·split <;> omega
 by_cases hc : x - y ≥ 0
 ·have HS : Hid (x - y ≥ 0) := hc
  have hd : decide (sgi (x - y) ≥ 0) = true := decide_eq_true (hsg.2 hc)
  have hd2 : sgi (x - y) ≥ 0 := hsg.2 hc
  clear hsg hc
  obtain ⟨r0, r1, r2⟩ := cells3 R1.out
  have fz := fun j => frozen_of_row _ _ j _ _ R1.out
  go_wp2_with fail
  refine bodyPost_ret (v := .agg #[Value.bool nx, Value.slice ao len cap, Value.int IntKind.i64 ex]) (res_num _ 4 (by kernel_rfl) _ _ (w.heap.size + 1 + 1) _ _ _ (by rfl) (set3_heap _ _ _ R1.out)) rfl ⟨_, rfl, ?_, below_set3 _ _ _ C1.out (by omega)⟩
  have e : max x y = x := by have := HS.out; omega
  rw [e]
  exact NumC.set3 _ _ _ ⟨_, _, _, _, _, R1.out⟩ Zx.out
 ·have HS : Hid (¬ (x - y ≥ 0)) := hc
  have hd : decide (sgi (x - y) ≥ 0) = false := decide_eq_false (fun c => hc (hsg.1 c))
  have hd2 : ¬ (sgi (x - y) ≥ 0) := fun c => hc (hsg.1 c)
  clear hsg hc
  obtain ⟨r0, r1, r2⟩ := cells3 R1.out
  have fz := fun j => frozen_of_row _ _ j _ _ R1.out
  go_wp2_with fail
  refine bodyPost_ret (v := .agg #[Value.bool ny, Value.slice bo blen bcap, Value.int IntKind.i64 ey]) (res_num _ 4 (by kernel_rfl) _ _ (w.heap.size + 1 + 1) _ _ _ (by rfl) (set3_heap _ _ _ R1.out)) rfl ⟨_, rfl, ?_, below_set3 _ _ _ C1.out (by omega)⟩
  have e : max x y = y := by have := HS.out; omega
  rw [e]
  exact NumC.set3 _ _ _ ⟨_, _, _, _, _, R1.out⟩ Zy.out
theorem rmag_max (a b : Nat) : (rmag (max a b) : Int) = max (rmag a : Int) (rmag b : Int) := by
 rcases Nat.le_total a b with h | h
 ·rw [Nat.max_eq_right h]; have := rmag_le h; omega
 ·rw [Nat.max_eq_left h]; have := rmag_le h; omega
end Go.Proofs.YthmhgpadinecfaaGreat
