import Derived.Test.YtfldgjkpkmnkbaaDoorTold
import Derived.Test.YtfldgjkpkmnkbaaDoorIntact
import Derived.Test.YtfldgjkpkmnkbaaDoorReadFloat
namespace Go.Proofs.YtfldgjkpkmnkbaaDoor
open Go.RowKit
set_option linter.unusedVariables false

set_option maxRecDepth 100000 in
set_option maxHeartbeats 2000000 in
theorem wireFloats_walk (u : Nat) (p : Int) (hu : u < 18446744073709551616) (ao : Option Addr) (len cap : Nat) (xs : List Int) (w : World) (hr : Rd w ao len cap xs) :
    Calls Tryd.prog 5 #[.int .u64 u, .slice ao len cap, .int .i64 p] w fun e w' => e = .returned (.bool true) ∧ Below w.heap.size w w' := by
  have HR : Hid (Rd w ao len cap xs) := hr
  clear hr
  go_enter Tryd.func5, Tryd.ntmps5
  go_wp2_with fail
  refine (told_any _).mono ?_
  rintro e w1 ⟨rfl, hB1⟩
  go_wp2_with fail
  refine (float_any u _).mono ?_
  rintro e w1' ⟨rfl, rfl⟩
  go_wp2_with fail
  refine (wfloat_any u hu _).mono ?_
  rintro e w2 ⟨v2, rfl, hO2, hB2⟩
  obtain ⟨a2, L2, c2, rfl, hr2⟩ := hO2.rd' (floatB_byt u)
  have HR2 : Hid _ := hr2
  clear hO2 hr2
  go_wp2_with fail
  refine (refFloat_any u hu _).mono ?_
  rintro e w3 ⟨v3, rfl, hO3, hB3⟩
  obtain ⟨a3, L3, c3, rfl, hr3⟩ := hO3.rd' (floatB_byt u)
  have HR3 : Hid _ := hr3
  have HR23 : Hid _ := HR2.out.later hB3
  have HB3 : Hid (Below w.heap.size w w3) := below_trans hB1 (below_trans hB2 hB3)
  clear hO3 hr3 HR2 hB1 hB2 hB3
  have hne : (floatE u != floatE u) = false := by simp
  go_wp2_with fail
  refine (same_any _ _ _ _ _ _ _ _ _ HR23.out HR3.out).mono ?_
  rintro e w4 ⟨rfl, hB4⟩
  have hd : decide (floatB u = floatB u) = true := by simp
  rw [hd]
  clear hd
  have HB4 : Hid (Below w.heap.size w w4) := below_trans HB3.out hB4
  clear hB4
  go_wp2_with fail
  refine (laid_any _ _ _ _ _ (HR.out.later HB4.out)).mono ?_
  rintro e w5 ⟨v5, rfl, hL5, hB5⟩
  have HB5 : Hid (Below w.heap.size w w5) := below_trans HB4.out hB5
  clear hB5
  go_wp2_with fail
  refine (laid_any _ _ _ _ _ (HR.out.later HB5.out)).mono ?_
  rintro e w6 ⟨v6, rfl, hL6, hB6⟩
  have HL5 : Hid _ := hL5.later hB6
  have HL6 : Hid _ := hL6
  have HB6 : Hid (Below w.heap.size w w6) := below_trans HB5.out hB6
  clear hL5 hL6 hB6
  generalize xs.take 1048676 = ys at *
  obtain ⟨a5, c5, rfl, hr5⟩ := HL5.out.rd
  obtain ⟨a6, c6, rfl, hr6⟩ := HL6.out.rd
  have hys := HL5.out.small
  have HR5 : Hid _ := hr5
  have HR6 : Hid _ := hr6
  clear hr5 hr6
  generalize ys.length = L at *
  go_wp2_with fail
  refine (readFloat_any _ _ _ _ _ _ HR5.out).mono ?_
  rintro e w7 ⟨rfl, hB7⟩
  unfold rdFv
  go_wp2_with fail
  refine (refReadFloat_any _ _ _ _ _ _ (HR6.out.later hB7) (by omega)).mono ?_
  rintro e w8 ⟨rfl, hB8⟩
  unfold rdFu
  have HB68 : Hid (Below w6.heap.size w6 w8) := below_trans hB7 hB8
  clear hB7 hB8
  generalize rdF ys p = r at *
  obtain ⟨r1, r2, r3⟩ := r
  have t1 : ((r1 : Int) == (r1 : Int)) = true := by simp
  have t2 : (r2 == r2) = true := by simp
  have t3 : (r3 == r3) = true := by simp
  go_wp2_with fail
  refine (bits_any r1 _).mono ?_
  rintro e w8' ⟨rfl, rfl⟩
  go_wp2_with fail
  refine (intact_at _ ys _ _ _ _ _ (HL5.out.later HB68.out) (HR6.out.later HB68.out)).mono ?_
  rintro e w9 ⟨rfl, hB9⟩
  go_wp2
  go_ret
  exact ⟨rfl, below_trans HB6.out (below_trans HB68.out hB9)⟩
end Go.Proofs.YtfldgjkpkmnkbaaDoor
