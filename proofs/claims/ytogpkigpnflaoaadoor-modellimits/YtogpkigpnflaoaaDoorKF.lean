import Derived.Test.YtogpkigpnflaoaaDoorKE
import Derived.Test.YtogpkigpnflaoaaDoorRefRunes
namespace Go.Proofs.YtogpkigpnflaoaaDoor
open Go.RowKit
set_option linter.unusedVariables false

def okR (r : Nat) : Bool := !(decide (r < 33) || decide (r = 35) || (decide (127 ≤ r) && decide (r ≤ 160)))
def chF (s : ByteArray) : Nat → Nat → Bool
  | 0, _ => true
  | f + 1, pos => if pos < s.size then okR (Utf8.decode s pos).1 && chF s f (pos + (Utf8.decode s pos).2) else true
theorem chF_end (s : ByteArray) (f pos : Nat) (h : ¬ pos < s.size) : chF s f pos = true := by
  cases f with
  | zero => rfl
  | succ f => simp only [chF]; rw [if_neg h]
def nameB (s : ByteArray) : Bool := match rn s with
  | none => false
  | some n => if n < 1 ∨ 32 < n then false else chF s s.size 0

set_option maxRecDepth 100000 in
set_option maxHeartbeats 1000000 in
theorem name_any (s : ByteArray) (w : World) (hT : U8 w) (hs : s.size ≤ 9223372036854775807) :
    Calls Tryd.prog 10 #[.string s] w fun e w' => e = .returned (.bool (nameB s)) ∧ Below w.heap.size w w' := by
  have HN : Hid _ := runes_any s w hT hs
  clear hT
  cases hrn : rn s with
  | none =>
    have H1 : Hid (nameB s = false) := by unfold Hid nameB; rw [hrn]
    rw [hrn] at HN
    clear hrn
    unfold rnV at HN
    go_enter Tryd.func10, Tryd.ntmps10
    go_wp2_with fail
    refine Calls.mono HN.out ?_
    rintro e w1 ⟨rfl, hb1⟩
    go_wp2
    go_ret
    exact ⟨by rw [H1.out]; rfl, hb1⟩
  | some n =>
    have HNB : Hid (nameB s = if n < 1 ∨ 32 < n then false else chF s s.size 0) := by unfold Hid nameB; rw [hrn]
    rw [hrn] at HN
    clear hrn
    unfold rnV at HN
    by_cases h1 : n < 1
    · have H1 : Hid (nameB s = false) := HNB.out.trans (if_pos (.inl h1))
      have d1 : decide ((n : Int) < 1) = true := decide_eq_true (by omega)
      clear HNB h1
      go_enter Tryd.func10, Tryd.ntmps10
      go_wp2_with fail
      refine Calls.mono HN.out ?_
      rintro e w1 ⟨rfl, hb1⟩
      go_wp2
      go_ret
      exact ⟨by rw [H1.out]; rfl, hb1⟩
    · have d1 : decide ((n : Int) < 1) = false := decide_eq_false (by omega)
      by_cases h2 : 32 < n
      · have H1 : Hid (nameB s = false) := HNB.out.trans (if_pos (.inr h2))
        have d2 : decide (32 < (n : Int)) = true := decide_eq_true (by omega)
        have d2' : decide (32 < n) = true := decide_eq_true h2
        clear HNB
        go_enter Tryd.func10, Tryd.ntmps10
        go_wp2_with fail
        refine Calls.mono HN.out ?_
        rintro e w1 ⟨rfl, hb1⟩
        go_wp2
        go_ret
        exact ⟨by rw [H1.out]; rfl, hb1⟩
      · have H1 : Hid (nameB s = chF s s.size 0) := HNB.out.trans (if_neg (by omega))
        have d2 : decide (32 < (n : Int)) = false := decide_eq_false (by omega)
        have d2' : decide (32 < n) = false := decide_eq_false h2
        clear HNB
        go_enter Tryd.func10, Tryd.ntmps10
        go_wp2_with fail
        refine Calls.mono HN.out ?_
        rintro e w1 ⟨rfl, hb1⟩
        have HB1 : Hid (Below w.heap.size w w1) := hb1
        have hsz1 := hb1.size
        clear hb1 HN
        go_wp2
        go_loopg [] s.size (fun g wx => ∃ (pos : Nat), pos ≤ s.size ∧ wx.heap[w1.heap.size]? = some (.stringIter s pos) ∧ Below w.heap.size w wx ∧ Hid (chF s g pos = nameB s) ∧ s.size ≤ pos + g)
        case atStart => exact ⟨0, by omega, World.iter_heap w1 s 0, HB1.out.alloc hsz1 _, H1.out.symm, by omega⟩
        case round =>
          obtain ⟨pos, hps, hit, hbw, HR, hfu⟩ := hrel
          have hsz : w1.heap.size < wr.heap.size := (Array.getElem?_eq_some_iff.1 hit).1
          by_cases hp : pos < s.size
          · obtain ⟨g, rfl⟩ : ∃ g, gk = g + 1 := ⟨gk - 1, by omega⟩
            have hnx : ∀ ty, (Instr.next (.pointer (some ⟨w1.heap.size, 0, none⟩)) true ty).run Tryd.prog wr = _ := fun ty => Lib.run_next_any_at wr w1.heap.size s pos ty hit hp
            have hwd := Lib.width_pos s pos
            have hwl := width_fits s pos hp
            have hr1 := Lib.rune_le s pos
            have HR1 := HR.out
            simp only [chF] at HR1
            rw [if_pos hp] at HR1
            clear HR
            generalize hR : (Utf8.decode s pos).1 = R at *
            generalize hK : (Utf8.decode s pos).2 = K at *
            have hit2 := Lib.iterAt_heap wr w1.heap.size s pos (pos + K) hit
            have hbw2 := Lib.below_iterAt hbw (k := w1.heap.size) hsz1 s (pos + K)
            obtain ⟨W, hWd⟩ : ∃ W, wr.iterAt w1.heap.size s (pos + K) = W := ⟨_, rfl⟩
            rw [hWd] at hnx hit2 hbw2
            clear hWd hit hbw hR hK
            by_cases q1 : R < 33
            · have d1 : decide ((R : Int) < 33) = true := decide_eq_true (by omega)
              have e1 : okR R = false := by unfold okR; simp; omega
              have H2 : Hid (nameB s = false) := by unfold Hid; rw [← HR1, e1, Bool.false_and]
              clear HR1 e1
              go_wp2
              go_ret
              exact ⟨by rw [H2.out]; rfl, hbw2⟩
            · have d1 : decide ((R : Int) < 33) = false := decide_eq_false (by omega)
              by_cases q2 : R = 35
              · have e1 : okR R = false := by unfold okR; simp; omega
                have d2 : ((R : Int) == 35) = true := by simp; omega
                have H2 : Hid (nameB s = false) := by unfold Hid; rw [← HR1, e1, Bool.false_and]
                clear HR1 e1
                go_wp2
                go_ret
                exact ⟨by rw [H2.out]; rfl, hbw2⟩
              · have d2 : ((R : Int) == 35) = false := by simp; omega
                by_cases q3 : 127 ≤ R
                · have d3 : decide (127 ≤ (R : Int)) = true := decide_eq_true (by omega)
                  by_cases q4 : R ≤ 160
                  · have d4 : decide ((R : Int) ≤ 160) = true := decide_eq_true (by omega)
                    have e1 : okR R = false := by unfold okR; simp; omega
                    have H2 : Hid (nameB s = false) := by unfold Hid; rw [← HR1, e1, Bool.false_and]
                    clear HR1 e1
                    go_wp2
                    go_ret
                    exact ⟨by rw [H2.out]; rfl, hbw2⟩
                  · have d4 : decide ((R : Int) ≤ 160) = false := decide_eq_false (by omega)
                    have e1 : okR R = true := by unfold okR; simp; omega
                    have H2 : Hid (chF s g (pos + K) = nameB s) := by unfold Hid; rw [← HR1, e1, Bool.true_and]
                    clear HR1 e1
                    go_wp2
                    go_roundg g
                    case measure => omega
                    case rel => exact ⟨pos + K, by omega, hit2, hbw2, H2, by omega⟩
                · have d3 : decide (127 ≤ (R : Int)) = false := decide_eq_false (by omega)
                  have e1 : okR R = true := by unfold okR; simp; omega
                  have H2 : Hid (chF s g (pos + K) = nameB s) := by unfold Hid; rw [← HR1, e1, Bool.true_and]
                  clear HR1 e1
                  go_wp2
                  go_roundg g
                  case measure => omega
                  case rel => exact ⟨pos + K, by omega, hit2, hbw2, H2, by omega⟩
          · have hnx : ∀ ty, (Instr.next (.pointer (some ⟨w1.heap.size, 0, none⟩)) true ty).run Tryd.prog wr = _ := fun ty => Lib.run_next_end_at wr w1.heap.size s pos ty hit hp
            have H2 : Hid (nameB s = true) := by unfold Hid; rw [← HR.out, chF_end s gk pos hp]
            clear HR
            go_wp2
            go_ret
            exact ⟨by rw [H2.out]; rfl, hbw⟩
end Go.Proofs.YtogpkigpnflaoaaDoor
