import Derived.Test.YtfldgjkpkmnkbabDoorThings
import Derived.Test.YtfldgjkpkmnkbabDoorUints
namespace Go.Proofs.YtfldgjkpkmnkbabDoor
open Go.RowKit
set_option linter.unusedVariables false

theorem i64_and3 (n : Int) : bits .and .i64 n 3 = n % 4 := by
  have h3 : (BitVec.ofInt 64 3).toNat = 2 ^ 2 - 1 := by decide
  have key : (BitVec.ofInt 64 n &&& BitVec.ofInt 64 3).toNat = (n % ((2 ^ 64 : Nat) : Int)).toNat % 2 ^ 2 := by
    rw [BitVec.toNat_and, BitVec.toNat_ofInt, h3, Nat.and_two_pow_sub_one_eq_mod]
  show IntKind.i64.wrap ((BitVec.ofInt 64 n &&& BitVec.ofInt 64 3).toNat : Nat) = n % 4
  rw [key, IntKind.wrap_i64]
  omega

def wroteB (q : Int) (m u : Nat) (s : ByteArray) (xs : List Int) : List Int := if q = 0 then grp m else if q = 1 then low8 u 8 else if q = 2 then grp s.size ++ strL s else frameB xs

set_option maxRecDepth 100000 in
set_option maxHeartbeats 1000000 in
theorem wrote_0 (kd : Int) (hk : bits .and .i64 kd 3 = 0) (m u : Nat) (s : ByteArray) (ao : Option Addr) (len cap : Nat) (xs : List Int) (w : World) (hm : m < 9223372036854775808) :
    Calls Tryd.prog 10 #[.agg #[.int .i64 kd, .int .i64 m, .int .u64 u, .string s, .slice ao len cap]] w fun e w' => ∃ v, e = .returned (.tuple #[v, .bool true]) ∧ Own w' w.heap.size v (grp m) ∧ Below w.heap.size w w' := by
  have hal : Below w.heap.size w (w.alloc (.cells #[.int .i64 kd, .int .i64 m, .int .u64 u, .string s, .slice ao len cap] 25)) := (Below.refl _ _).alloc (Nat.le_refl _) _
  have HA : Hid _ := hal
  clear hal
  have e1 : uintE m = 0 := by unfold uintE; rw [if_neg (by omega)]
  have e2 : uintB m = grp m := by unfold uintB; rw [if_neg (by omega), Int.toNat_natCast]
  go_enter Tryd.func10, Tryd.ntmps10
  go_wp2_with fail
  refine (uint_any m (by omega) (by omega) _).mono ?_
  rintro e w1 ⟨v1, rfl, hO, hb⟩
  rw [e1]
  rw [e2] at hO
  clear e1 e2
  obtain ⟨a1, c1, rfl, hr1⟩ := hO.rd (grp_byt m)
  have hO' := hO.mono HA.out.size
  have hpos : 0 < (grp m).length := grp_pos m
  generalize (grp m).length = L at *
  clear hr1 hO
  go_wp2
  go_ret2
  exact ⟨_, rfl, hO', below_trans HA.out hb⟩

set_option maxRecDepth 100000 in
set_option maxHeartbeats 1000000 in
theorem wrote_1 (kd : Int) (hk : bits .and .i64 kd 3 = 1) (m u : Nat) (s : ByteArray) (ao : Option Addr) (len cap : Nat) (xs : List Int) (w : World) (hu : u < 18446744073709551616) (hn : isNum u = true) :
    Calls Tryd.prog 10 #[.agg #[.int .i64 kd, .int .i64 m, .int .u64 u, .string s, .slice ao len cap]] w fun e w' => ∃ v, e = .returned (.tuple #[v, .bool true]) ∧ Own w' w.heap.size v (low8 u 8) ∧ Below w.heap.size w w' := by
  have hal : Below w.heap.size w (w.alloc (.cells #[.int .i64 kd, .int .i64 m, .int .u64 u, .string s, .slice ao len cap] 25)) := (Below.refl _ _).alloc (Nat.le_refl _) _
  have HA : Hid _ := hal
  clear hal
  have e1 : floatE u = 0 := by unfold floatE; rw [hn]; rfl
  have e2 : floatB u = low8 u 8 := by unfold floatB; rw [hn]; rfl
  go_enter Tryd.func10, Tryd.ntmps10
  go_wp2_with fail
  refine (float_any u _).mono ?_
  rintro e w0 ⟨rfl, rfl⟩
  go_wp2_with fail
  refine (wfloat_any u hu _).mono ?_
  rintro e w1 ⟨v1, rfl, hO, hb⟩
  rw [e1]
  rw [e2] at hO
  clear e1 e2
  obtain ⟨a1, c1, rfl, hr1⟩ := hO.rd (low8_byt _ _)
  have hO' := hO.mono HA.out.size
  have hpos : 0 < (low8 u 8).length := by rw [low8_len]; omega
  generalize (low8 u 8).length = L at *
  clear hr1 hO
  go_wp2
  go_ret2
  exact ⟨_, rfl, hO', below_trans HA.out hb⟩

set_option maxRecDepth 100000 in
set_option maxHeartbeats 1000000 in
theorem wrote_2 (kd : Int) (hk : bits .and .i64 kd 3 = 2) (m u : Nat) (s : ByteArray) (ao : Option Addr) (len cap : Nat) (xs : List Int) (w : World) (hs : s.size ≤ 35184372088832) (k : Nat) (hk2 : rn s = some k) (hT : U8 w) :
    Calls Tryd.prog 10 #[.agg #[.int .i64 kd, .int .i64 m, .int .u64 u, .string s, .slice ao len cap]] w fun e w' => ∃ v, e = .returned (.tuple #[v, .bool true]) ∧ Own w' w.heap.size v (grp s.size ++ strL s) ∧ Below w.heap.size w w' := by
  have hal : Below w.heap.size w (w.alloc (.cells #[.int .i64 kd, .int .i64 m, .int .u64 u, .string s, .slice ao len cap] 25)) := (Below.refl _ _).alloc (Nat.le_refl _) _
  have HA : Hid _ := hal
  clear hal
  have e1 : textE s = 0 := by unfold textE; rw [hk2]
  have e2 : textB s = grp s.size ++ strL s := by unfold textB; rw [hk2]
  clear hk2
  go_enter Tryd.func10, Tryd.ntmps10
  go_wp2_with fail
  refine (text_any s _ (hT.later HA.out) hs).mono ?_
  rintro e w1 ⟨v1, rfl, hO, hb⟩
  rw [e1]
  rw [e2] at hO
  clear e1 e2
  obtain ⟨a1, c1, rfl, hr1⟩ := hO.rd ((grp_byt _).append (strL_byt s))
  have hO' := hO.mono HA.out.size
  have hpos : 0 < (grp s.size ++ strL s).length := by rw [List.length_append]; have := grp_pos s.size; omega
  generalize (grp s.size ++ strL s).length = L at *
  clear hr1 hO
  go_wp2
  go_ret2
  exact ⟨_, rfl, hO', below_trans HA.out hb⟩

set_option maxRecDepth 100000 in
set_option maxHeartbeats 1000000 in
theorem wrote_3 (kd : Int) (hk0 : (bits .and .i64 kd 3 == 0) = false) (hk1 : (bits .and .i64 kd 3 == 1) = false) (hk2 : (bits .and .i64 kd 3 == 2) = false) (m u : Nat) (s : ByteArray) (ao : Option Addr) (len cap : Nat) (xs : List Int) (w : World) (hr : Rd w ao len cap xs) (hl : len ≤ 1048576) :
    Calls Tryd.prog 10 #[.agg #[.int .i64 kd, .int .i64 m, .int .u64 u, .string s, .slice ao len cap]] w fun e w' => ∃ v, e = .returned (.tuple #[v, .bool true]) ∧ Own w' w.heap.size v (frameB xs) ∧ Below w.heap.size w w' := by
  have hal : Below w.heap.size w (w.alloc (.cells #[.int .i64 kd, .int .i64 m, .int .u64 u, .string s, .slice ao len cap] 25)) := (Below.refl _ _).alloc (Nat.le_refl _) _
  have HA : Hid _ := hal
  clear hal
  have HR : Hid _ := hr
  clear hr
  go_enter Tryd.func10, Tryd.ntmps10
  go_wp2_with fail
  refine (frame_small _ _ _ xs _ (HR.out.later HA.out) hl).mono ?_
  rintro e w1 ⟨v1, rfl, hO, hb⟩
  obtain ⟨a1, c1, rfl, hr1⟩ := hO.rd (frame_byt HR.out.byt)
  have hO' := hO.mono HA.out.size
  have hpos : 0 < (frameB xs).length := by rw [frame_len]; omega
  generalize (frameB xs).length = L at *
  clear hr1 hO
  go_wp2
  go_ret2
  exact ⟨_, rfl, hO', below_trans HA.out hb⟩

theorem res_reads (tmps : Array Value) (W : World) (B : Nat) (v0 v1 v2 v3 v4 x y : Value) (hp : tmps[6]? = some (.pointer (some ⟨B, 0, none⟩))) (hx : tmps[7]? = some x) (hy : tmps[8]? = some y) (h0 : W.cell? ⟨B, 0, none⟩ = some v0) (h1 : W.cell? ⟨B, 1, none⟩ = some v1) (h2 : W.cell? ⟨B, 2, none⟩ = some v2) (h3 : W.cell? ⟨B, 3, none⟩ = some v3) (h4 : W.cell? ⟨B, 4, none⟩ = some v4) :
    (results Tryd.f12 tmps).run Tryd.prog W = .ok (.tuple #[.agg #[v0, v1, v2, v3, v4], x, y]) W := by
  simp [results, Tryd.results12, go_sem, hp, hx, hy, h0, h1, h2, h3, h4]
theorem reads_end (w X : World) (v0 v1 v2 v3 v4 u0 u1 u2 u3 u4 x y : Value) (tmps : Array Value) (hp : tmps[6]? = some (.pointer (some ⟨w.heap.size, 0, none⟩))) (hx : tmps[7]? = some x) (hy : tmps[8]? = some y) (hX : Below w.heap.size w X)
    (q0 : X.cell? ⟨w.heap.size, 0, none⟩ = some u0) (q1 : X.cell? ⟨w.heap.size, 1, none⟩ = some u1) (q2 : X.cell? ⟨w.heap.size, 2, none⟩ = some u2) (q3 : X.cell? ⟨w.heap.size, 3, none⟩ = some u3) (q4 : X.cell? ⟨w.heap.size, 4, none⟩ = some u4) {R : Ending → World → Prop}
    (h : ∀ W, (∀ b, w.heap.size + 1 < b → W.heap[b]? = X.heap[b]?) → Below w.heap.size w W → R (.returned (.tuple #[.agg #[v0, v1, v2, v3, v4], x, y])) W) :
    bodyPost Tryd.prog Tryd.f12 R .ret ⟨tmps, []⟩
      (((((X.setCell ⟨w.heap.size, 0, none⟩ v0).setCell ⟨w.heap.size, 1, none⟩ v1).setCell ⟨w.heap.size, 2, none⟩ v2).setCell ⟨w.heap.size, 3, none⟩ v3).setCell ⟨w.heap.size, 4, none⟩ v4) := by
  obtain ⟨z0, z1, z2, z3, z4⟩ := stored5 v0 v1 v2 v3 v4 q0 q1 q2 q3 q4
  refine bodyPost_ret (res_reads _ _ w.heap.size _ _ _ _ _ x y hp hx hy z0 z1 z2 z3 z4) rfl (h _ ?_ ?_)
  · intro b hb
    rw [Below.heap_setCell _ _ _ _ (by simp; omega), Below.heap_setCell _ _ _ _ (by simp; omega), Below.heap_setCell _ _ _ _ (by simp; omega), Below.heap_setCell _ _ _ _ (by simp; omega), Below.heap_setCell _ _ _ _ (by simp; omega)]
  · exact ((((hX.setCell (Nat.le_refl _) _).setCell (Nat.le_refl _) _).setCell (Nat.le_refl _) _).setCell (Nat.le_refl _) _).setCell (Nat.le_refl _) _

set_option maxRecDepth 100000 in
set_option maxHeartbeats 1000000 in
theorem reads_0 (kd : Int) (hk : bits .and .i64 kd 3 = 0) (p : Int) (ao : Option Addr) (len cap : Nat) (xs : List Int) (w : World) (hr : Rd w ao len cap xs) :
    Calls Tryd.prog 12 #[.int .i64 kd, .slice ao len cap, .int .i64 p] w fun e w' => e = .returned (.tuple #[.agg #[.int .i64 0, .int .i64 (rdU xs p).1, .int .u64 0, .string ⟨#[]⟩, .slice none 0 0], .int .i64 (rdU xs p).2.1, .int .i64 (rdU xs p).2.2]) ∧ Below w.heap.size w w' := by
  have HR : Hid _ := hr
  clear hr
  go_enter Tryd.func12, Tryd.ntmps12
  go_wp2_with fail
  refine (readUint_any _ _ _ xs p _ (HR.out.later (((Below.refl _ _).alloc (Nat.le_refl _) _).alloc (by simp) _))).mono ?_
  rintro e w1 ⟨rfl, hb⟩
  unfold rdV
  obtain ⟨hg0, hg1, hbl⟩ := two_blocks hb
  have f0 := fun j => frozen_of_row _ _ j _ _ hg0
  have f1 := fun j => frozen_of_row _ _ j _ _ hg1
  obtain ⟨p0, p1, p2, p3, p4⟩ := cells5 hg0
  obtain ⟨q0, q1, q2, q3, q4⟩ := cells5 hg1
  have ne1 : w.heap.size + 1 ≠ w.heap.size := by simp
  go_wp2
  refine reads_end w _ _ _ _ _ _ _ _ _ _ _ _ _ _ (by rfl) (by rfl) (by rfl) (hbl.setCell (Nat.le_succ _) _) ((far ne1).trans p0) ((far ne1).trans p1) ((far ne1).trans p2) ((far ne1).trans p3) ((far ne1).trans p4) ?_
  exact fun W _ hW => ⟨rfl, hW⟩

set_option maxRecDepth 100000 in
set_option maxHeartbeats 1000000 in
theorem reads_1 (kd : Int) (hk : bits .and .i64 kd 3 = 1) (p : Int) (ao : Option Addr) (len cap : Nat) (xs : List Int) (w : World) (hr : Rd w ao len cap xs) :
    Calls Tryd.prog 12 #[.int .i64 kd, .slice ao len cap, .int .i64 p] w fun e w' => e = .returned (.tuple #[.agg #[.int .i64 1, .int .i64 0, .int .u64 (rdF xs p).1, .string ⟨#[]⟩, .slice none 0 0], .int .i64 (rdF xs p).2.1, .int .i64 (rdF xs p).2.2]) ∧ Below w.heap.size w w' := by
  have HR : Hid _ := hr
  clear hr
  go_enter Tryd.func12, Tryd.ntmps12
  go_wp2_with fail
  refine (readFloat_any _ _ _ xs p _ (HR.out.later (((Below.refl _ _).alloc (Nat.le_refl _) _).alloc (by simp) _))).mono ?_
  rintro e w1 ⟨rfl, hb⟩
  unfold rdFv
  go_wp2_with fail
  refine (bits_any _ _).mono ?_
  rintro e w1' ⟨rfl, rfl⟩
  obtain ⟨hg0, hg1, hbl⟩ := two_blocks hb
  have f0 := fun j => frozen_of_row _ _ j _ _ hg0
  have f1 := fun j => frozen_of_row _ _ j _ _ hg1
  obtain ⟨p0, p1, p2, p3, p4⟩ := cells5 hg0
  obtain ⟨q0, q1, q2, q3, q4⟩ := cells5 hg1
  have ne1 : w.heap.size + 1 ≠ w.heap.size := by simp
  go_wp2
  refine reads_end w _ _ _ _ _ _ _ _ _ _ _ _ _ _ (by rfl) (by rfl) (by rfl) (hbl.setCell (Nat.le_succ _) _) ((far ne1).trans p0) ((far ne1).trans p1) ((far ne1).trans p2) ((far ne1).trans p3) ((far ne1).trans p4) ?_
  exact fun W _ hW => ⟨rfl, hW⟩

set_option maxRecDepth 100000 in
set_option maxHeartbeats 1000000 in
theorem reads_2 (kd : Int) (hk : bits .and .i64 kd 3 = 2) (p : Int) (ao : Option Addr) (len cap : Nat) (xs : List Int) (w : World) (hr : Rd w ao len cap xs) (hT : U8 w) :
    Calls Tryd.prog 12 #[.int .i64 kd, .slice ao len cap, .int .i64 p] w fun e w' => e = .returned (.tuple #[.agg #[.int .i64 2, .int .i64 0, .int .u64 0, .string (rdT xs p 1048576).1, .slice none 0 0], .int .i64 (rdT xs p 1048576).2.1, .int .i64 (rdT xs p 1048576).2.2]) ∧ Below w.heap.size w w' := by
  have HR : Hid _ := hr
  clear hr
  go_enter Tryd.func12, Tryd.ntmps12
  go_wp2_with fail
  refine (readText_any _ _ _ xs p _ _ (HR.out.later (((Below.refl _ _).alloc (Nat.le_refl _) _).alloc (by simp) _)) (hT.later (((Below.refl _ _).alloc (Nat.le_refl _) _).alloc (by simp) _))).mono ?_
  rintro e w1 ⟨rfl, hb⟩
  unfold rdTv
  obtain ⟨hg0, hg1, hbl⟩ := two_blocks hb
  have f0 := fun j => frozen_of_row _ _ j _ _ hg0
  have f1 := fun j => frozen_of_row _ _ j _ _ hg1
  obtain ⟨p0, p1, p2, p3, p4⟩ := cells5 hg0
  obtain ⟨q0, q1, q2, q3, q4⟩ := cells5 hg1
  have ne1 : w.heap.size + 1 ≠ w.heap.size := by simp
  go_wp2
  refine reads_end w _ _ _ _ _ _ _ _ _ _ _ _ _ _ (by rfl) (by rfl) (by rfl) (hbl.setCell (Nat.le_succ _) _) ((far ne1).trans p0) ((far ne1).trans p1) ((far ne1).trans p2) ((far ne1).trans p3) ((far ne1).trans p4) ?_
  exact fun W _ hW => ⟨rfl, hW⟩

theorem Own.moved {w W : World} {base base' : Nat} {v : Value} {ys : List Int} (h : Own w base v ys) (hb : base' ≤ base) (hk : ∀ b, base ≤ b → W.heap[b]? = w.heap[b]?) : Own W base' v ys := by
  refine ⟨h.1, ?_⟩
  rcases h.2 with h2 | ⟨g, cap, cur, hv, hg, hh, r⟩
  · exact .inl h2
  · exact .inr ⟨g, cap, cur, hv, by omega, by rw [hk g hg]; exact hh, r⟩

set_option maxRecDepth 100000 in
set_option maxHeartbeats 1000000 in
theorem reads_3 (kd : Int) (q : Int) (hk : bits .and .i64 kd 3 = q) (hk0 : (q == 0) = false) (hk1 : (q == 1) = false) (hk2 : (q == 2) = false) (p : Int) (ao : Option Addr) (len cap : Nat) (xs : List Int) (w : World) (hr : Rd w ao len cap xs) :
    Calls Tryd.prog 12 #[.int .i64 kd, .slice ao len cap, .int .i64 p] w fun e w' => ∃ v, e = .returned (.tuple #[.agg #[.int .i64 q, .int .i64 0, .int .u64 0, .string ⟨#[]⟩, v], .int .i64 (rdR xs p).2.1, .int .i64 (rdR xs p).2.2]) ∧ Own w' w.heap.size v (rdR xs p).1 ∧ Below w.heap.size w w' := by
  have HR : Hid _ := hr
  clear hr
  go_enter Tryd.func12, Tryd.ntmps12
  go_wp2_with fail
  refine (readFrame_any _ _ _ xs p _ (HR.out.later (((Below.refl _ _).alloc (Nat.le_refl _) _).alloc (by simp) _))).mono ?_
  rintro e w1 ⟨v1, rfl, hO, hb⟩
  obtain ⟨a1, c1, rfl, hr1⟩ := hO.rd (rdR_byt _ _ HR.out.byt)
  clear hr1
  have HO : Hid _ := hO
  clear hO
  obtain ⟨hg0, hg1, hbl⟩ := two_blocks hb
  have f0 := fun j => frozen_of_row _ _ j _ _ hg0
  have f1 := fun j => frozen_of_row _ _ j _ _ hg1
  obtain ⟨p0, p1, p2, p3, p4⟩ := cells5 hg0
  obtain ⟨q0, q1, q2, q3, q4⟩ := cells5 hg1
  have ne1 : w.heap.size + 1 ≠ w.heap.size := by simp
  go_wp2
  refine reads_end w _ _ _ _ _ _ _ _ _ _ _ _ _ _ (by rfl) (by rfl) (by rfl) (hbl.setCell (Nat.le_succ _) _) ((far ne1).trans p0) ((far ne1).trans p1) ((far ne1).trans p2) ((far ne1).trans p3) ((far ne1).trans p4) ?_
  exact fun W hk hW => ⟨_, rfl, Own.moved HO.out (by simp; omega) (fun b hb => (hk b (by simp at hb; omega)).trans (Below.heap_setCell _ _ _ _ (by simp at hb ⊢; omega))), hW⟩

/-- Are they alike, by their kind? -/
def alikeB (q : Int) (m m' u u' : Int) (s s' : ByteArray) (xs xs' : List Int) : Bool :=
  if q = 0 then m == m' else if q = 1 then u == u' else if q = 2 then s.toList == s'.toList else decide (xs = xs')
set_option maxRecDepth 100000 in
set_option maxHeartbeats 1000000 in
theorem alike_any (kd kd' q m m' u u' : Int) (hk : bits .and .i64 kd 3 = q) (s s' : ByteArray) (ao ao' : Option Addr) (len cap len' cap' : Nat) (xs xs' : List Int) (w : World) (hr : Rd w ao len cap xs) (hr' : Rd w ao' len' cap' xs') :
    Calls Tryd.prog 13 #[.agg #[.int .i64 kd, .int .i64 m, .int .u64 u, .string s, .slice ao len cap], .agg #[.int .i64 kd', .int .i64 m', .int .u64 u', .string s', .slice ao' len' cap']] w fun e w' => e = .returned (.bool (alikeB q m m' u u' s s' xs xs')) ∧ Below w.heap.size w w' := by
  have HR : Hid _ := hr
  have HR' : Hid _ := hr'
  clear hr hr'
  by_cases h0 : q = 0
  · have HE : Hid (alikeB q m m' u u' s s' xs xs' = (m == m')) := by unfold Hid alikeB; rw [if_pos h0]
    rw [h0] at hk
    clear h0
    go_enter Tryd.func13, Tryd.ntmps13
    go_wp2
    go_ret
    exact ⟨by rw [HE.out]; rfl, ((Below.refl _ _).alloc (Nat.le_refl _) _).alloc (by simp) _⟩
  by_cases h1 : q = 1
  · have HE : Hid (alikeB q m m' u u' s s' xs xs' = (u == u')) := by unfold Hid alikeB; rw [if_neg h0, if_pos h1]
    rw [h1] at hk
    clear h0 h1
    go_enter Tryd.func13, Tryd.ntmps13
    go_wp2
    go_ret
    exact ⟨by rw [HE.out]; rfl, ((Below.refl _ _).alloc (Nat.le_refl _) _).alloc (by simp) _⟩
  by_cases h2 : q = 2
  · have HE : Hid (alikeB q m m' u u' s s' xs xs' = (s.toList == s'.toList)) := by unfold Hid alikeB; rw [if_neg h0, if_neg h1, if_pos h2]
    rw [h2] at hk
    clear h0 h1 h2
    go_enter Tryd.func13, Tryd.ntmps13
    go_wp2
    go_ret
    exact ⟨by rw [HE.out]; rfl, ((Below.refl _ _).alloc (Nat.le_refl _) _).alloc (by simp) _⟩
  have HE : Hid (alikeB q m m' u u' s s' xs xs' = decide (xs = xs')) := by unfold Hid alikeB; rw [if_neg h0, if_neg h1, if_neg h2]
  have k0 : (q == 0) = false := by simp [h0]
  have k1 : (q == 1) = false := by simp [h1]
  have k2 : (q == 2) = false := by simp [h2]
  clear h0 h1 h2
  go_enter Tryd.func13, Tryd.ntmps13
  go_wp2_with fail
  refine (same_any _ _ _ _ _ _ _ _ _ (HR.out.later (((Below.refl _ _).alloc (Nat.le_refl _) _).alloc (by simp) _)) (HR'.out.later (((Below.refl _ _).alloc (Nat.le_refl _) _).alloc (by simp) _))).mono ?_
  rintro e w1 ⟨rfl, hb⟩
  go_wp2
  go_ret
  exact ⟨by rw [HE.out]; rfl, (two_blocks hb).2.2⟩

set_option maxRecDepth 100000 in
theorem spot_any (i : Int) (n : Nat) (hn : 0 < n) (hn1 : n ≤ 4611686018427387904) (h0 : -9223372036854775808 ≤ i) (h1 : i ≤ 9223372036854775807) (w : World) :
    Calls Tryd.prog 14 #[.int .i64 i, .int .i64 n] w fun e w' => e = .returned (.int .i64 (i % (n : Int))) ∧ w' = w := by
  have t1 := Int.tmod_lt_of_pos i (show (0 : Int) < (n : Int) by omega)
  have t2 := Int.lt_tmod_of_pos i (show (0 : Int) < (n : Int) by omega)
  have hz : ((n : Int) == 0) = false := by simp; omega
  have hem : i % (n : Int) = (i.tmod n) % (n : Int) := by
    have h := Int.mul_tdiv_add_tmod i n
    have h2 : i.tmod n + (n : Int) * (i.tdiv n) = i := by omega
    have h3 := Int.add_mul_emod_self_left (i.tmod n) (n : Int) (i.tdiv n)
    rw [h2] at h3
    exact h3
  rw [hem]
  clear hem
  obtain ⟨t, ht⟩ : ∃ t, i.tmod n = t := ⟨_, rfl⟩
  rw [ht] at t1 t2 ⊢
  by_cases hneg : t < 0
  · have HE : Hid (t % (n : Int) = t + n) := by
      unfold Hid
      have h4 := Int.add_mul_emod_self_left t (n : Int) 1
      rw [Int.mul_one] at h4
      rw [← h4]
      exact Int.emod_eq_of_lt (by omega) (by omega)
    go_enter Tryd.func14, Tryd.ntmps14
    go_wp2
    go_ret
    exact ⟨by rw [HE.out]; rfl, rfl⟩
  · have HE : Hid (t % (n : Int) = t) := Int.emod_eq_of_lt (by omega) (by omega)
    go_enter Tryd.func14, Tryd.ntmps14
    go_wp2
    go_ret
    exact ⟨by rw [HE.out]; rfl, rfl⟩

theorem num_fix (u : Nat) (hu : u < 18446744073709551616) (h : isNum u = false) : bits .xor .u64 (u : Int) 1152921504606846976 = ((u ^^^ 1152921504606846976 : Nat) : Int) ∧ isNum (u ^^^ 1152921504606846976) = true ∧ u ^^^ 1152921504606846976 < 18446744073709551616 := by
  refine ⟨u64_xor_nat u 1152921504606846976 hu (by omega), ?_, Nat.xor_lt_two_pow (n := 64) hu (by omega)⟩
  have h1 : u / 4503599627370496 % 2048 = 2047 := by
    unfold isNum at h
    have := of_decide_eq_false h
    omega
  unfold isNum
  apply decide_eq_true
  have e1 : (u ^^^ 1152921504606846976) / 4503599627370496 = (u / 4503599627370496) ^^^ 256 := by
    have := @Nat.shiftRight_xor_distrib 52 u 1152921504606846976
    rw [Nat.shiftRight_eq_div_pow, Nat.shiftRight_eq_div_pow, Nat.shiftRight_eq_div_pow] at this
    exact this
  have e2 : ((u / 4503599627370496) ^^^ 256) % 2048 = (u / 4503599627370496 % 2048) ^^^ (256 % 2048) := Nat.xor_mod_two_pow (n := 11)
  rw [e1, e2, h1]
  decide

theorem rn_e : rn ⟨#[195, 169]⟩ = some 1 := by
  have hd : Utf8.decode ⟨#[195, 169]⟩ 0 = (233, 2) := by decide
  have hb : badAt ⟨#[195, 169]⟩ 0 = false := by rw [badAt_eq _ _ (by decide), hd]; rfl
  unfold rn
  show rnF ⟨#[195, 169]⟩ 2 0 0 = some 1
  simp only [rnF]
  rw [if_pos (by decide), hb, hd]
  rfl

theorem mended_any (kd n : Int) (u : Nat) (s : ByteArray) (ao : Option Addr) (len cap : Nat) (xs : List Int) (w : World) (hr : Rd w ao len cap xs) (hT : U8 w) (hb0 : -9223372036854775808 ≤ n) (hb1 : n ≤ 9223372036854775807) (hu : u < 18446744073709551616) (hs : s.size ≤ 9223372036854775807) :
    Calls Tryd.prog 9 #[.agg #[.int .i64 kd, .int .i64 n, .int .u64 u, .string s, .slice ao len cap]] w fun e w' => ∃ (m u' : Nat) (s' : ByteArray) (a' : Option Addr) (l' c' : Nat) (xs' : List Int),
      e = .returned (.agg #[.int .i64 kd, .int .i64 m, .int .u64 u', .string s', .slice a' l' c']) ∧ m < 9223372036854775808 ∧ u' < 18446744073709551616 ∧ isNum u' = true ∧ (∃ k, rn s' = some k) ∧ s'.size ≤ 3000 ∧ (∀ w0, Rd w0 ao len cap xs → Rd w0 a' l' c' xs') ∧ l' ≤ 3000 ∧ Below w.heap.size w w' := by
  obtain ⟨m, hm, hN⟩ : ∃ m : Nat, m < 9223372036854775808 ∧ ((n < 0 ∧ (m : Int) = -(n + 1)) ∨ (0 ≤ n ∧ (m : Int) = n)) := by
    by_cases h : n < 0
    · exact ⟨(-(n + 1)).toNat, by omega, .inl ⟨h, by omega⟩⟩
    · exact ⟨n.toNat, by omega, .inr ⟨by omega, by omega⟩⟩
  have hnum := isNum_eq u hu
  obtain ⟨u', hu', hn', hU⟩ : ∃ u' : Nat, u' < 18446744073709551616 ∧ isNum u' = true ∧ (((bits .and .u64 ((u : Int) / 4503599627370496) 2047 == 2047) = true ∧ bits .xor .u64 (u : Int) 1152921504606846976 = (u' : Int)) ∨ ((bits .and .u64 ((u : Int) / 4503599627370496) 2047 == 2047) = false ∧ u' = u)) := by
    cases hh : isNum u with
    | true =>
      rw [hh] at hnum
      exact ⟨u, hu, hh, .inr ⟨by simpa [bne] using hnum, rfl⟩⟩
    | false =>
      rw [hh] at hnum
      obtain ⟨k1, k2, k3⟩ := num_fix u hu hh
      exact ⟨_, k3, k2, .inl ⟨by simpa [bne] using hnum, k1⟩⟩
  obtain ⟨s1, hs1, hS⟩ : ∃ s1 : ByteArray, s1.size ≤ 3000 ∧ ((3000 < s.size ∧ s.size ≤ 9223372036854775807 ∧ ∀ w, (Instr.slice 9 (.string s) none (some (.int .i64 3000)) none).run Tryd.prog w = .ok (.string s1) w) ∨ (s.size ≤ 3000 ∧ s1 = s)) := by
    by_cases h : s.size ≤ 3000
    · exact ⟨s, h, .inr ⟨h, rfl⟩⟩
    · refine ⟨s.extract 0 3000, by rw [ByteArray.size_extract]; omega, .inl ⟨by omega, hs, fun w => ?_⟩⟩
      have := run_slice_string_h (P := Tryd.prog) (w := w) (t := 9) (s := s) Tryd.underlying9 .i64 (3000 : Int) (by omega) (by omega)
      simpa using this
  obtain ⟨s2, hs2, hk2, hR⟩ : ∃ s2 : ByteArray, s2.size ≤ 3000 ∧ (∃ k, rn s2 = some k) ∧ ((rn s1 = none ∧ s2 = ⟨#[195, 169]⟩) ∨ ((∃ k, rn s1 = some k) ∧ s2 = s1)) := by
    cases h : rn s1 with
    | none => exact ⟨⟨#[195, 169]⟩, by decide, ⟨1, rn_e⟩, .inl ⟨rfl, rfl⟩⟩
    | some k => exact ⟨s1, hs1, ⟨k, h⟩, .inr ⟨⟨k, rfl⟩, rfl⟩⟩
  obtain ⟨a1, l1, c1, xs1, hl1, hr1, hB⟩ : ∃ (a1 : Option Addr) (l1 c1 : Nat) (xs1 : List Int), l1 ≤ 3000 ∧ (∀ w0, Rd w0 ao len cap xs → Rd w0 a1 l1 c1 xs1) ∧ ((3000 < len ∧ ∀ w, (Instr.slice 23 (.slice ao len cap) none (some (.int .i64 3000)) none).run Tryd.prog w = .ok (.slice a1 l1 c1) w) ∨ (len ≤ 3000 ∧ a1 = ao ∧ l1 = len ∧ c1 = cap)) := by
    by_cases h : len ≤ 3000
    · exact ⟨ao, len, cap, xs, h, fun _ h => h, .inr ⟨h, rfl, rfl, rfl⟩⟩
    · obtain ⟨a', l', c', hcut, hr'⟩ := cut_to hr 3000 (by omega)
      have hl' := hr'.length
      rw [List.length_take, hr.length] at hl'
      refine ⟨a', l', c', xs.take 3000, by omega, fun w0 h0 => ?_, .inl ⟨by omega, hcut⟩⟩
      obtain ⟨a2, l2, c2, hcut2, hr2⟩ := cut_to h0 3000 (by omega)
      have he := (hcut w).symm.trans (hcut2 w)
      simp only [Result.ok.injEq, Value.slice.injEq, and_true] at he
      obtain ⟨rfl, rfl, rfl⟩ := he
      exact hr2
  have hlen : len ≤ 9223372036854775807 := by have := hr.le; have := hr.max; omega
  refine (mended_core kd n m u u' s s1 s2 ao a1 len cap l1 c1 w hT hb0 hb1 hlen hs1 hN hU hS hR hB).mono ?_
  rintro e w' ⟨rfl, hb⟩
  exact ⟨m, u', s2, a1, l1, c1, xs1, rfl, hm, hu', hn', hk2, hs2, hr1, hl1, hb⟩
end Go.Proofs.YtfldgjkpkmnkbabDoor
