import Derived.Test.YtpinpcefgbhdmaaDoorRuneMath
namespace Go.Proofs.YtpinpcefgbhdmaaDoor
open Go.RowKit
set_option linter.unusedVariables false

set_option maxRecDepth 100000 in
set_option maxHeartbeats 1000000 in
theorem refRunes_any (s : ByteArray) (w : World) (hs : s.size ≤ 2305843009213693952) :
    Calls Tryd.prog 34 #[.string s] w fun e w' => e = .returned (rnV (rn s)) ∧ Below w.heap.size w w' := by
  go_enter Tryd.func34, Tryd.ntmps34
  go_wp2
  go_loopg [4, 5] s.size (fun g v u wx => ∃ (pos n : Nat), v = .int .i64 n ∧ u = .int .i64 pos ∧ n ≤ pos ∧ pos ≤ s.size ∧ Below w.heap.size w wx ∧ Hid (rnF s g pos n = rn s) ∧ s.size ≤ pos + g)
  case atStart => exact ⟨0, 0, rfl, rfl, by omega, by omega, Below.refl _ _, rfl, by omega⟩
  case round =>
    obtain ⟨pos, n, rfl, rfl, hn, hps, hbw, HR, hfu⟩ := hrel
    by_cases hp : pos < s.size
    · obtain ⟨g, rfl⟩ : ∃ g, gk = g + 1 := ⟨gk - 1, by omega⟩
      have hwd := Lib.width_pos s pos
      have hwl := width_fits s pos hp
      have HR1 := HR.out
      simp only [rnF] at HR1
      rw [if_pos hp, badAt_eq s pos hp] at HR1
      clear HR
      have HA : Hid _ := refAt_any s pos hp hs wr
      go_wp2_with fail
      refine Calls.mono HA.out ?_
      clear HA
      rintro e W ⟨rfl, hb⟩
      by_cases hbad : Utf8.decode s pos = (65533, 1)
      · rw [good_bad s pos hbad]
        have H1 : Hid (rn s = none) := by
          unfold Hid
          rw [← HR1, if_pos (decide_eq_true hbad)]
        clear HR1 hbad
        unfold atV
        go_wp2
        go_ret2
        exact ⟨by rw [H1.out]; rfl, hbw.trans (hb.mono hbw.size)⟩
      · have hg : goodAt s pos = (((Utf8.decode s pos).1 : Int), ((Utf8.decode s pos).2 : Int)) := by unfold goodAt; rw [if_neg hbad]
        rw [hg]
        have H1 : Hid (rnF s g (pos + (Utf8.decode s pos).2) (n + 1) = rn s) := by
          unfold Hid
          rw [← HR1, if_neg (by simp [hbad])]
        clear HR1 hbad hg
        unfold atV
        generalize (Utf8.decode s pos).1 = R at *
        generalize (Utf8.decode s pos).2 = K at *
        have hK : ((K : Int) == 0) = false := by simp; omega
        go_wp2
        go_roundg g
        case measure => omega
        case rel => exact ⟨pos + K, n + 1, by go_num, by go_num, by omega, by omega, hbw.trans (hb.mono hbw.size), H1.out, by omega⟩
    · have H1 : Hid (rn s = some n) := by unfold Hid; rw [← HR.out, rnF_end s gk pos n hp]
      clear HR
      go_wp2
      go_ret2
      exact ⟨by rw [H1.out]; rfl, hbw⟩
end Go.Proofs.YtpinpcefgbhdmaaDoor
