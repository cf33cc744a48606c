import Derived.Test.YtpinpcefgbhdmaaDoorRunes
import Derived.Deep.LoopGhost
import Derived.Lib.TrimU
namespace Go.Proofs.YtpinpcefgbhdmaaDoor
open Go.RowKit
set_option linter.unusedVariables false

/-- At a place no code point stands. -/
def badAt (s : ByteArray) (pos : Nat) : Bool := (Utf8.decode s pos).1 == 65533 && decide ((Lib.decodeGo (s.extract pos s.size)).2 < 3)
/-- How many code points from a place on (n ahead of it); none: it is no text. -/
def rnF (s : ByteArray) : Nat → Nat → Nat → Option Nat
  | 0, _, n => some n
  | f + 1, pos, n => if pos < s.size then (if badAt s pos then none else rnF s f (pos + (Utf8.decode s pos).2) (n + 1)) else some n
def rn (s : ByteArray) : Option Nat := rnF s s.size 0 0
def rnV : Option Nat → Value
  | none => .tuple #[.int .i64 0, .bool false]
  | some n => .tuple #[.int .i64 n, .bool true]
theorem rnF_end (s : ByteArray) (f pos n : Nat) (h : ¬ pos < s.size) : rnF s f pos n = some n := by
  cases f with
  | zero => rfl
  | succ f => simp only [rnF]; rw [if_neg h]

theorem width_fits (s : ByteArray) (pos : Nat) (h : pos < s.size) : pos + (Utf8.decode s pos).2 ≤ s.size := by
  unfold Utf8.decode
  dsimp only
  repeat' split
  all_goals (simp only [Bool.and_eq_true, decide_eq_true_eq] at *; omega)

set_option maxRecDepth 100000 in
set_option maxHeartbeats 1000000 in
theorem runes_any (s : ByteArray) (w : World) (hT : U8 w) (hs : s.size ≤ 9223372036854775807) :
    Calls Tryd.prog 27 #[.string s] w fun e w' => e = .returned (rnV (rn s)) ∧ Below w.heap.size w w' := by
  go_enter Tryd.func27, Tryd.ntmps27
  go_wp2
  go_loopg [4] s.size (fun g v wx => ∃ (pos n : Nat), v = .int .i64 n ∧ n ≤ pos ∧ pos ≤ s.size ∧ wx.heap[w.heap.size]? = some (.stringIter s pos) ∧ Below w.heap.size w wx ∧ Hid (rnF s g pos n = rn s) ∧ s.size ≤ pos + g)
  case atStart => exact ⟨0, 0, rfl, by omega, by omega, World.iter_heap w s 0, (Below.refl _ w).alloc (Nat.le_refl _) _, rfl, by omega⟩
  case round =>
    obtain ⟨pos, n, rfl, hn, hps, hit, hbw, HR, hfu⟩ := hrel
    have hsz : w.heap.size < wr.heap.size := (Array.getElem?_eq_some_iff.1 hit).1
    by_cases hp : pos < s.size
    · obtain ⟨g, rfl⟩ : ∃ g, gk = g + 1 := ⟨gk - 1, by omega⟩
      have hnx : ∀ ty, (Instr.next (.pointer (some ⟨w.heap.size, 0, none⟩)) true ty).run Tryd.prog wr = _ := fun ty => Lib.run_next_any_at wr w.heap.size s pos ty hit hp
      have hwd := Lib.width_pos s pos
      have hwl := width_fits s pos hp
      have hr1 := Lib.rune_le s pos
      have HR1 := HR.out
      simp only [rnF] at HR1
      rw [if_pos hp] at HR1
      clear HR
      unfold badAt at HR1
      generalize hR : (Utf8.decode s pos).1 = R at *
      generalize hK : (Utf8.decode s pos).2 = K at *
      have hit2 := Lib.iterAt_heap wr w.heap.size s pos (pos + K) hit
      have hbw2 := Lib.below_iterAt hbw (k := w.heap.size) (Nat.le_refl _) s (pos + K)
      obtain ⟨W, hWd⟩ : ∃ W, wr.iterAt w.heap.size s (pos + K) = W := ⟨_, rfl⟩
      rw [hWd] at hnx hit2 hbw2
      clear hWd hit hbw hR hK
      have hWs : w.heap.size < W.heap.size := (Array.getElem?_eq_some_iff.1 hit2).1
      by_cases hf : R = 65533
      · subst hf
        have hB := broken_any (s.extract pos s.size) W (hT.later hbw2)
        generalize decide ((Lib.decodeGo (s.extract pos s.size)).2 < 3) = bad at *
        have hsl : ∀ w, (Instr.slice 9 (.string s) (some (.int .i64 pos)) none none).run Tryd.prog w = .ok (.string (s.extract pos s.size)) w := fun w => by
          have := run_slice_string_l (P := Tryd.prog) (w := w) (t := 9) (s := s) Tryd.underlying9 .i64 (pos : Int) (by omega) (by omega)
          simpa using this
        have HB : Hid _ := hB
        clear hB
        have H1 : Hid _ := HR1
        clear HR1
        go_wp2_with fail
        refine Calls.mono HB.out ?_
        rintro e W' ⟨rfl, hb⟩
        cases bad with
        | true =>
          go_wp2
          go_ret2
          refine ⟨?_, hbw2.trans (hb.mono (by omega))⟩
          have := H1.out
          simp at this
          rw [← this]
          rfl
        | false =>
          go_wp2
          go_roundg g
          case measure => omega
          case rel => exact ⟨pos + K, n + 1, by go_num, by omega, by omega, (hb.block w.heap.size hWs).trans hit2, hbw2.trans (hb.mono (by omega)), by have := H1.out; simp at this; exact this, by omega⟩
      · have hne : ((R : Int) == 65533) = false := by simp; omega
        have hne' : (R == 65533) = false := by simp; omega
        rw [hne'] at HR1
        have H1 : Hid _ := HR1
        clear HR1 hne' hf
        go_wp2
        go_roundg g
        case measure => omega
        case rel => exact ⟨pos + K, n + 1, by go_num, by omega, by omega, hit2, hbw2, by have := H1.out; simp at this; exact this, by omega⟩
    · have hnx : ∀ ty, (Instr.next (.pointer (some ⟨w.heap.size, 0, none⟩)) true ty).run Tryd.prog wr = _ := fun ty => Lib.run_next_end_at wr w.heap.size s pos ty hit hp
      have H1 : Hid (rn s = some n) := by unfold Hid; rw [← HR.out, rnF_end s gk pos n hp]
      clear HR
      go_wp2
      go_ret2
      exact ⟨by rw [H1.out]; rfl, hbw⟩
end Go.Proofs.YtpinpcefgbhdmaaDoor
