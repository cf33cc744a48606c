import Derived.Test.YtnjjichanfpbhaaGreatRZ
namespace Go.Proofs.YtnjjichanfpbhaaGreat
open Go.RowKit
set_option linter.unusedVariables false

theorem oneAll_any (c : Nat) (hc : c < 10) (al ah bl bh : Nat) (ab bb : Bool) (n : Int) (hal : al < 18446744073709551616) (hah : ah < 18446744073709551616) (hbl : bl < 18446744073709551616) (hbh : bh < 18446744073709551616) (w : World) :
    Calls Tryz.prog 5 #[.int .i64 (c : Int), .agg #[Value.float .f64 al, .float .f64 ah, .bool ab], .agg #[Value.float .f64 bl, .float .f64 bh, .bool bb], .int .i64 n] w fun e w' => e = .returned (.bool true) ∧ Below w.heap.size w w' := by
  match c, hc with
  | 0, _ => exact one04_any al ah bl bh ab bb n hal hah hbl hbh w 1074 rfl
  | 1, _ => exact one14_any al ah bl bh ab bb n hal hah hbl hbh w 1074 rfl
  | 2, _ => exact one24_any al ah bl bh ab bb n hal hah hbl hbh w 1074 rfl
  | 3, _ => exact one34_any al ah bl bh ab bb n hal hah hbl hbh w 1074 rfl
  | 4, _ => exact one44_any al ah bl bh ab bb n hal hah hbl hbh w 1074 rfl
  | 5, _ => exact one54_any al ah bl bh ab bb n hal hah hbl hbh w 1074 rfl
  | 6, _ => exact one64_any al ah bl bh ab bb n hal hah hbl hbh w 1074 rfl
  | 7, _ => exact one74_any al ah bl bh ab bb n hal hah hbl hbh w 1074 rfl
  | 8, _ => exact one84_any al ah bl bh ab bb n hal hah hbl hbh w 1074 rfl
  | 9, _ => exact one94_any al ah bl bh ab bb n hal hah hbl hbh w 1074 rfl
set_option maxRecDepth 100000 in
set_option maxHeartbeats 8000000 in
theorem spanReckons_walk (al ah : Nat) (ab : Bool) (hal : al < 18446744073709551616) (hah : ah < 18446744073709551616) (bl bh : Nat) (bb : Bool) (hbl : bl < 18446744073709551616) (hbh : bh < 18446744073709551616) (n : Int) (hn0 : -9223372036854775808 ≤ n) (hn1 : n ≤ 9223372036854775807) (w : World) :
    Calls Tryz.prog 3 #[.agg #[Value.float .f64 al, .float .f64 ah, .bool ab], .agg #[Value.float .f64 bl, .float .f64 bh, .bool bb], .int .i64 n] w fun e w' => e = .returned (.bool true) ∧ Below w.heap.size w w' := by
  obtain ⟨g0, g1, -, gb⟩ := alloc2_facts w (Obj.cells #[Value.float .f64 al, .float .f64 ah, .bool ab] 24) (Obj.cells #[Value.float .f64 bl, .float .f64 bh, .bool bb] 24)
  have GA : Hid _ := g0
  have GC : Hid _ := g1
  have GB : Hid _ := gb
  clear g0 g1 gb
  go_enter Tryz.func3, Tryz.ntmps3
  go_upto_region 1 with fail
  generalize ((w.alloc (Obj.cells #[Value.float .f64 al, .float .f64 ah, .bool ab] 24)).alloc (Obj.cells #[Value.float .f64 bl, .float .f64 bh, .bool bb] 24)) = W0 at GA GC GB ⊢
  go_wp2_with fail
  go_loopw [7] (fun iv wr => ∃ k : Nat, k ≤ 10 ∧ iv = .int .i64 k ∧ Hid (wr.heap[w.heap.size]? = some (Obj.cells #[Value.float .f64 al, .float .f64 ah, .bool ab] 24)) ∧ Hid (wr.heap[w.heap.size + 1]? = some (Obj.cells #[Value.float .f64 bl, .float .f64 bh, .bool bb] 24)) ∧ Hid (Below w.heap.size w wr)) (fun iv _ => 10 - (intOf iv).toNat)
  case atStart => exact ⟨0, by omega, rfl, GA, GC, GB⟩
  case round =>
    obtain ⟨k, hk, rfl, KA, KC, KB⟩ := hrel
    by_cases hlt : k < 10
    · have hd : decide ((k : Int) ≤ 9) = true := decide_eq_true (by omega)
      obtain ⟨a0, a1, a2⟩ := cells3 KA.out
      obtain ⟨b0, b1, b2⟩ := cells3 KC.out
      go_wp2_with fail
      refine Calls.mono (oneAll_any k hlt al ah bl bh ab bb n hal hah hbl hbh _) ?_
      rintro e w1 ⟨rfl, g⟩
      have LA : Hid _ := keep0 KA.out g
      have LC : Hid _ := keep0 KC.out g
      have LB : Hid (Below w.heap.size w w1) := KB.out.trans (g.mono KB.out.size)
      clear g a0 a1 a2 b0 b1 b2 KA KC KB
      go_wp2_with fail
      go_roundw
      case rel => exact ⟨k + 1, by omega, by go_num, LA, LC, LB⟩
      case measure => simp [intOf]; omega
    · have hd : decide ((k : Int) ≤ 9) = false := decide_eq_false (by omega)
      go_wp2_with fail
      refine Calls.mono (spStarted_any _) ?_
      rintro e w1 ⟨rfl, g⟩
      have LB : Hid (Below w.heap.size w w1) := KB.out.trans (g.mono KB.out.size)
      clear g
      go_wp2_with fail
      go_ret
      exact ⟨rfl, LB.out⟩
end Go.Proofs.YtnjjichanfpbhaaGreat
