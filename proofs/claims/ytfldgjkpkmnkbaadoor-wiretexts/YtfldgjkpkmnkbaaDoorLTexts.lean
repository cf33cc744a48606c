import Derived.Test.YtfldgjkpkmnkbaaDoorRefTexts
import Derived.Test.YtfldgjkpkmnkbaaDoorTold
import Derived.Test.YtfldgjkpkmnkbaaDoorIntact
namespace Go.Proofs.YtfldgjkpkmnkbaaDoor
open Go.RowKit
set_option linter.unusedVariables false

set_option maxRecDepth 100000 in
set_option maxHeartbeats 2000000 in
theorem wireTexts_small (s t : ByteArray) (p most : Int) (ao : Option Addr) (len cap : Nat) (xs : List Int) (w : World) (hr : Rd w ao len cap xs) (hT : U8 w) (hs : s.size ≤ 1048576) (ht : t.size ≤ 1048576) (hst : t = s) :
    Calls Tryd.prog 6 #[.string s, .slice ao len cap, .int .i64 p, .int .i64 most] w fun e w' => e = .returned (.bool true) ∧ Below w.heap.size w w' := by
  have HR : Hid (Rd w ao len cap xs) := hr
  have HT : Hid (U8 w) := hT
  clear hr hT
  subst hst
  go_enter Tryd.func6, Tryd.ntmps6
  go_wp2_with fail
  refine (told_any _).mono ?_
  rintro e w1 ⟨rfl, hB1⟩
  go_wp2_with fail
  refine (runes_any t _ (HT.out.later hB1) (by omega)).mono ?_
  rintro e w2 ⟨rfl, hb2⟩
  have hB2 := below_trans hB1 hb2
  clear hB1 hb2
  have hrv : ∃ k b, rnV (rn t) = .tuple #[.int .i64 k, .bool b] := by
    cases rn t with
    | none => exact ⟨_, _, rfl⟩
    | some n => exact ⟨_, _, rfl⟩
  obtain ⟨k, b, hkb⟩ := hrv
  rw [hkb]
  go_wp2_with fail
  refine (refRunes_any t _ (by omega)).mono ?_
  rintro e w3 ⟨rfl, hb3⟩
  rw [hkb]
  have hB3 := below_trans hB2 hb3
  clear hB2 hb3 hkb
  go_wp2_with fail
  refine (text_any t _ (HT.out.later hB3) (by omega)).mono ?_
  rintro e w4 ⟨v4, rfl, hO4, hb4⟩
  obtain ⟨a4, L4, c4, rfl, hr4⟩ := hO4.rd' (textB_byt t)
  have HR4 : Hid _ := hr4
  clear hO4 hr4
  go_wp2_with fail
  refine (refText_any t _ (by omega)).mono ?_
  rintro e w5 ⟨v5, rfl, hO5, hb5⟩
  obtain ⟨a5, L5, c5, rfl, hr5⟩ := hO5.rd' (textB_byt t)
  have HR5 : Hid _ := hr5
  have HR45 : Hid _ := HR4.out.later hb5
  have HB5 : Hid (Below w.heap.size w w5) := below_trans hB3 (below_trans hb4 hb5)
  clear hO5 hr5 HR4 hB3 hb4 hb5
  generalize textE t = E at *
  have n1 : (k != k) = false := by simp
  have n2 : (b != b) = false := by simp
  have n3 : (E != E) = false := by simp
  go_wp2_with fail
  refine (same_any _ _ _ _ _ _ _ _ _ HR45.out HR5.out).mono ?_
  rintro e w6 ⟨rfl, hB6⟩
  have hd : decide (textB t = textB t) = true := by simp
  rw [hd]
  clear hd
  have HB6 : Hid (Below w.heap.size w w6) := below_trans HB5.out hB6
  clear hB6 HR45 HR5 HB5
  go_wp2_with fail
  refine (laid_any _ _ _ _ _ (HR.out.later HB6.out)).mono ?_
  rintro e w7 ⟨v7, rfl, hL7, hB7⟩
  have HB7 : Hid (Below w.heap.size w w7) := below_trans HB6.out hB7
  clear hB7
  go_wp2_with fail
  refine (laid_any _ _ _ _ _ (HR.out.later HB7.out)).mono ?_
  rintro e w8 ⟨v8, rfl, hL8, hB8⟩
  have HL7 : Hid _ := hL7.later hB8
  have HL8 : Hid _ := hL8
  have HB8 : Hid (Below w.heap.size w w8) := below_trans HB7.out hB8
  clear hL7 hL8 hB8 HB6 HB7
  generalize xs.take 1048676 = ys at *
  obtain ⟨a7, c7, rfl, hr7⟩ := HL7.out.rd
  obtain ⟨a8, c8, rfl, hr8⟩ := HL8.out.rd
  have hys := HL7.out.small
  have HR7 : Hid _ := hr7
  have HR8 : Hid _ := hr8
  clear hr7 hr8
  generalize ys.length = L at *
  go_wp2_with fail
  refine (readText_any _ _ _ _ _ _ _ HR7.out (HT.out.later HB8.out)).mono ?_
  rintro e w9 ⟨rfl, hB9⟩
  unfold rdTv
  go_wp2_with fail
  refine (refReadText_any _ _ _ _ _ _ _ (HR8.out.later hB9) (by omega)).mono ?_
  rintro e w10 ⟨rfl, hB10⟩
  unfold rdTv
  have HB810 : Hid (Below w8.heap.size w8 w10) := below_trans hB9 hB10
  clear hB9 hB10
  generalize rdT ys p most = r at *
  obtain ⟨r1, r2, r3⟩ := r
  have t1 : (r1.toList == r1.toList) = true := beq_self_eq_true _
  have t2 : (r2 == r2) = true := by simp
  have t3 : (r3 == r3) = true := by simp
  go_wp2_with fail
  refine (intact_at _ ys _ _ _ _ _ (HL7.out.later HB810.out) (HR8.out.later HB810.out)).mono ?_
  rintro e w11 ⟨rfl, hB11⟩
  go_wp2
  go_ret
  exact ⟨rfl, below_trans HB8.out (below_trans HB810.out hB11)⟩

set_option maxRecDepth 100000 in
set_option maxHeartbeats 2000000 in
theorem wireTexts_great (s t : ByteArray) (p most : Int) (ao : Option Addr) (len cap : Nat) (xs : List Int) (w : World) (hr : Rd w ao len cap xs) (hT : U8 w) (hs0 : s.size ≤ 9223372036854775807) (hs : 1048576 < s.size) (ht : t.size ≤ 1048576) (hsl : ∀ w, (Instr.slice 9 (.string s) none (some (.int .i64 1048576)) none).run Tryd.prog w = .ok (.string t) w) :
    Calls Tryd.prog 6 #[.string s, .slice ao len cap, .int .i64 p, .int .i64 most] w fun e w' => e = .returned (.bool true) ∧ Below w.heap.size w w' := by
  have HR : Hid (Rd w ao len cap xs) := hr
  have HT : Hid (U8 w) := hT
  clear hr hT
  go_enter Tryd.func6, Tryd.ntmps6
  go_wp2_with fail
  refine (told_any _).mono ?_
  rintro e w1 ⟨rfl, hB1⟩
  go_wp2_with fail
  refine (runes_any t _ (HT.out.later hB1) (by omega)).mono ?_
  rintro e w2 ⟨rfl, hb2⟩
  have hB2 := below_trans hB1 hb2
  clear hB1 hb2
  have hrv : ∃ k b, rnV (rn t) = .tuple #[.int .i64 k, .bool b] := by
    cases rn t with
    | none => exact ⟨_, _, rfl⟩
    | some n => exact ⟨_, _, rfl⟩
  obtain ⟨k, b, hkb⟩ := hrv
  rw [hkb]
  go_wp2_with fail
  refine (refRunes_any t _ (by omega)).mono ?_
  rintro e w3 ⟨rfl, hb3⟩
  rw [hkb]
  have hB3 := below_trans hB2 hb3
  clear hB2 hb3 hkb
  go_wp2_with fail
  refine (text_any t _ (HT.out.later hB3) (by omega)).mono ?_
  rintro e w4 ⟨v4, rfl, hO4, hb4⟩
  obtain ⟨a4, L4, c4, rfl, hr4⟩ := hO4.rd' (textB_byt t)
  have HR4 : Hid _ := hr4
  clear hO4 hr4
  go_wp2_with fail
  refine (refText_any t _ (by omega)).mono ?_
  rintro e w5 ⟨v5, rfl, hO5, hb5⟩
  obtain ⟨a5, L5, c5, rfl, hr5⟩ := hO5.rd' (textB_byt t)
  have HR5 : Hid _ := hr5
  have HR45 : Hid _ := HR4.out.later hb5
  have HB5 : Hid (Below w.heap.size w w5) := below_trans hB3 (below_trans hb4 hb5)
  clear hO5 hr5 HR4 hB3 hb4 hb5
  generalize textE t = E at *
  have n1 : (k != k) = false := by simp
  have n2 : (b != b) = false := by simp
  have n3 : (E != E) = false := by simp
  go_wp2_with fail
  refine (same_any _ _ _ _ _ _ _ _ _ HR45.out HR5.out).mono ?_
  rintro e w6 ⟨rfl, hB6⟩
  have hd : decide (textB t = textB t) = true := by simp
  rw [hd]
  clear hd
  have HB6 : Hid (Below w.heap.size w w6) := below_trans HB5.out hB6
  clear hB6 HR45 HR5 HB5
  go_wp2_with fail
  refine (laid_any _ _ _ _ _ (HR.out.later HB6.out)).mono ?_
  rintro e w7 ⟨v7, rfl, hL7, hB7⟩
  have HB7 : Hid (Below w.heap.size w w7) := below_trans HB6.out hB7
  clear hB7
  go_wp2_with fail
  refine (laid_any _ _ _ _ _ (HR.out.later HB7.out)).mono ?_
  rintro e w8 ⟨v8, rfl, hL8, hB8⟩
  have HL7 : Hid _ := hL7.later hB8
  have HL8 : Hid _ := hL8
  have HB8 : Hid (Below w.heap.size w w8) := below_trans HB7.out hB8
  clear hL7 hL8 hB8 HB6 HB7
  generalize xs.take 1048676 = ys at *
  obtain ⟨a7, c7, rfl, hr7⟩ := HL7.out.rd
  obtain ⟨a8, c8, rfl, hr8⟩ := HL8.out.rd
  have hys := HL7.out.small
  have HR7 : Hid _ := hr7
  have HR8 : Hid _ := hr8
  clear hr7 hr8
  generalize ys.length = L at *
  go_wp2_with fail
  refine (readText_any _ _ _ _ _ _ _ HR7.out (HT.out.later HB8.out)).mono ?_
  rintro e w9 ⟨rfl, hB9⟩
  unfold rdTv
  go_wp2_with fail
  refine (refReadText_any _ _ _ _ _ _ _ (HR8.out.later hB9) (by omega)).mono ?_
  rintro e w10 ⟨rfl, hB10⟩
  unfold rdTv
  have HB810 : Hid (Below w8.heap.size w8 w10) := below_trans hB9 hB10
  clear hB9 hB10
  generalize rdT ys p most = r at *
  obtain ⟨r1, r2, r3⟩ := r
  have t1 : (r1.toList == r1.toList) = true := beq_self_eq_true _
  have t2 : (r2 == r2) = true := by simp
  have t3 : (r3 == r3) = true := by simp
  go_wp2_with fail
  refine (intact_at _ ys _ _ _ _ _ (HL7.out.later HB810.out) (HR8.out.later HB810.out)).mono ?_
  rintro e w11 ⟨rfl, hB11⟩
  go_wp2
  go_ret
  exact ⟨rfl, below_trans HB8.out (below_trans HB810.out hB11)⟩

theorem wireTexts_walk (s : ByteArray) (hs0 : s.size ≤ 9223372036854775807) (p most : Int) (ao : Option Addr) (len cap : Nat) (xs : List Int) (w : World) (hr : Rd w ao len cap xs) (hT : U8 w) :
    Calls Tryd.prog 6 #[.string s, .slice ao len cap, .int .i64 p, .int .i64 most] w fun e w' => e = .returned (.bool true) ∧ Below w.heap.size w w' := by
  by_cases hs : s.size ≤ 1048576
  · exact wireTexts_small s s p most ao len cap xs w hr hT hs hs rfl
  · refine wireTexts_great s (s.extract 0 1048576) p most ao len cap xs w hr hT hs0 (by omega) (by rw [ByteArray.size_extract]; omega) fun w => ?_
    have := run_slice_string_h (P := Tryd.prog) (w := w) (t := 9) (s := s) Tryd.underlying9 .i64 (1048576 : Int) (by omega) (by omega)
    simpa using this
end Go.Proofs.YtfldgjkpkmnkbaaDoor
