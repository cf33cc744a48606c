import Derived.Test.YtbeaggmiefpgoaaXE
namespace Go.Proofs.Ytbeaggmiefpgoaa
open Go.RowKit
set_option linter.unusedVariables false

/-- A slice of floats with a mark behind it. -/
structure FlM (w : World) (g n cap : Nat) (xs : List Nat) : Prop where
  rd : RdF w (some ⟨g, 0, none⟩) n cap xs
  mark : w.cell? ⟨g, n, none⟩ = some (.float .f64 13873417816952012800)
  room : n + 1 ≤ cap
  max : cap ≤ maxLen
theorem FlM.later {w w' : World} {g n cap : Nat} {xs : List Nat} (h : FlM w g n cap xs) (hb : Below w.heap.size w w') : FlM w' g n cap xs :=
  ⟨h.rd.later hb, by rw [hb.cell (p := ⟨g, n, none⟩) (World.block_lt_of_cell? w _ h.mark)]; exact h.mark, h.room, h.max⟩
theorem Try.elemF64 : Try.prog.elem 42 = 44 := by kernel_rfl
theorem Try.sizeF64 (w : World) : (sizeOf 44).run Try.prog w = .ok 1 w := by kernel_rfl
theorem slice_head (g len cap q : Nat) (hq : q ≤ cap) (w : World) (h0 : cap ≠ 0) : (Instr.slice 42 (.slice (some ⟨g, 0, none⟩) len cap) none (some (.int .i64 (q : Int))) none).run Try.prog w = .ok (.slice (some ⟨g, 0, none⟩) q cap) w := by
  rw [run_slice_h w _ _ _ _ (by rw [Try.elemF64]; exact Try.underlying42) .i64 q (by omega) (by omega), Try.elemF64, Try.sizeF64]
  simp [Result.andThen, sliced, h0, Addr.add]
/-- Out of an own row: the head of it with the mark behind. -/
theorem OwnF.marked {w : World} {base : Nat} {v : Value} {xs : List Nat} (h : OwnF w base v (xs ++ List.replicate 9 13873417816952012800)) (hu : ∀ u ∈ xs, u < 18446744073709551616) (hm : xs.length ≤ 2000) : ∃ g cap, v = .slice (some ⟨g, 0, none⟩) (xs.length + 9) cap ∧ xs.length + 9 ≤ cap ∧ base ≤ g ∧ FlM w g xs.length cap xs := by
  have hl : (xs ++ List.replicate 9 13873417816952012800).length = xs.length + 9 := by simp
  rcases h.2 with ⟨rfl, h0⟩ | ⟨g, cap, cur, rfl, hg, hh, hc, hx, hs, ht⟩
  · rw [hl] at h0; omega
  · rw [hl] at hc ht
    have key : ∀ j, j < xs.length + 9 → w.cell? ⟨g, j, none⟩ = some (.float .f64 ((xs ++ List.replicate 9 13873417816952012800)[j]?.getD 0)) := by
      intro j hj
      rw [cell_of_row _ g j _ _ _ hh]
      have h1 : (cur.toList.take ((xs.length + 9) * 1))[j]? = cur[j]? := by
        rw [List.getElem?_take, if_pos (by omega), Array.getElem?_toList]
      rw [← h1, ht, List.getElem?_map, List.getElem?_eq_getElem (by rw [hl]; exact hj)]
      rfl
    refine ⟨g, cap, by rw [hl], hc, hg, ⟨rfl, by omega, hu, .inr ⟨g, 0, rfl, fun j hj => ?_⟩⟩, ?_, by omega, hx⟩
    · rw [Nat.zero_add, key j (by omega), List.getElem?_append_left hj]
    · rw [key _ (by omega), List.getElem?_append_right (Nat.le_refl _), Nat.sub_self]
      rfl
theorem replicate_snoc (k : Nat) (x : Nat) : List.replicate (k + 1) x = List.replicate k x ++ [x] := List.replicate_succ'
set_option maxRecDepth 100000 in
set_option maxHeartbeats 2000000 in
theorem floats_any (ao : Option Addr) (len cap : Nat) (xs : List Nat) (w : World) (h : RdU w ao len cap xs) (hm : len ≤ 2000) :
    Calls Try.prog 13 #[.slice ao len cap] w fun e w' => ∃ g cp, e = .returned (.slice (some ⟨g, 0, none⟩) len cp) ∧ FlM w' g len cp xs ∧ Below w.heap.size w w' := by
  have HY : Hid (RdU w ao len cap xs) := h
  clear h
  have hcf := float_int
  go_enter Try.func13, Try.ntmps13
  go_wp2_with fail
  go_loopw [3, 4] (fun fv iv wr => ∃ k : Nat, k ≤ len ∧ iv = .int .i64 k ∧ Hid (OwnF wr w.heap.size fv (xs.take k)) ∧ Hid (Below w.heap.size w wr)) (fun _ iv _ => len - (intOf iv).toNat)
  case atStart => exact ⟨0, by omega, rfl, OwnF.nil _ _, Below.refl _ _⟩
  case round =>
    obtain ⟨k, hk, rfl, K1, K4⟩ := hrel
    by_cases hlt : k < len
    · have hd : decide ((k : Int) < (len : Int)) = true := decide_eq_true (by omega)
      have hr := HY.out.later K4.out
      rcases hr.cells with h0 | ⟨b, off, rfl, hc⟩
      · omega
      · have g0 := hc k hlt
        have HTK : Hid (xs.take (k + 1) = xs.take k ++ [xs[k]?.getD 0]) := take_snocD (by rw [HY.out.length]; exact hlt)
        have HTL : Hid ((xs.take k).length ≤ 2000) := by unfold Hid; rw [List.length_take]; omega
        obtain ⟨y, hy⟩ : ∃ y, xs[k]?.getD 0 = y := ⟨_, rfl⟩
        rw [hy] at g0 HTK
        have HBS : Hid (w.heap.size ≤ wr.heap.size) := K4.out.size
        clear hr hc hy
        go_wp2_with (first | (go_at_call 31; refine (hcf _ _).mono ?_; rintro e wr ⟨rfl, rfl⟩) | (at_builtin; refine appendF _ (by rfl) (.tmp 12) (.tmp 18) (by rfl) w.heap.size _ (xs.take k) (by rfl) K1.out y (by rfl) (by have := HTL.out; omega) HBS.out ?_; intro v4 w4 hO4 hkp hb4; have HO4 : Hid _ := hO4; have HB4 : Hid _ := hb4; clear hO4 hkp hb4))
        go_roundw
        case rel => exact ⟨k + 1, by omega, by go_num, by unfold Hid; rw [HTK.out]; exact HO4.out, K4.out.trans HB4.out⟩
        case measure => simp [intOf]; omega
    · have hkm : k = len := by omega
      have hd : decide ((k : Int) < (len : Int)) = false := decide_eq_false (by omega)
      have hyt : xs.take k = xs := by rw [hkm, ← HY.out.length, List.take_length]
      rw [hyt] at K1
      clear hyt hkm
      have HLN : Hid (xs.length ≤ 2000) := by unfold Hid; rw [HY.out.length]; exact hm
      go_wp2_with fail
      go_loopw [3, 5] (fun fv iv wx => ∃ j : Nat, j ≤ 9 ∧ iv = .int .i64 j ∧ Hid (OwnF wx w.heap.size fv (xs ++ List.replicate j 13873417816952012800)) ∧ Hid (Below w.heap.size w wx)) (fun _ iv _ => 9 - (intOf iv).toNat)
      case atStart => exact ⟨0, by omega, rfl, by unfold Hid; rw [List.replicate_zero, List.append_nil]; exact K1.out, K4⟩
      case round =>
        obtain ⟨j, hj, rfl, L1, L4⟩ := hrel
        by_cases hlt9 : j < 9
        · have hd9 : decide ((j : Int) < 9) = true := decide_eq_true (by omega)
          have HBS : Hid (w.heap.size ≤ wr.heap.size) := L4.out.size
          have HTL : Hid ((xs ++ List.replicate j 13873417816952012800).length ≤ 2010) := by unfold Hid; have := HLN.out; rw [List.length_append, List.length_replicate]; omega
          go_wp2_with (first | (at_builtin; refine appendF _ (by rfl) (.tmp 24) (.tmp 25) (by rfl) w.heap.size _ (xs ++ List.replicate j 13873417816952012800) (by rfl) L1.out 13873417816952012800 (by rfl) (by have := HTL.out; omega) HBS.out ?_; intro v4 w4 hO4 hkp hb4; have HO4 : Hid _ := hO4; have HB4 : Hid _ := hb4; clear hO4 hkp hb4))
          go_roundw
          case rel => exact ⟨j + 1, by omega, by go_num, by unfold Hid; rw [replicate_snoc, ← List.append_assoc]; exact HO4.out, L4.out.trans HB4.out⟩
          case measure => simp [intOf]; omega
        · have hj9 : j = 9 := by omega
          subst hj9
          have hd9 : decide (((9 : Nat) : Int) < 9) = false := by decide
          obtain ⟨g, cp, hv, hcap, hbg, hfl⟩ := L1.out.marked HY.out.lt HLN.out
          rw [HY.out.length] at hv hcap hfl
          subst hv
          have hsl := slice_head g (len + 9) cp len (by omega) wr (by omega)
          have HFL : Hid _ := hfl
          clear hfl
          go_wp2_with fail
          go_ret
          exact ⟨g, cp, rfl, HFL.out, L4.out⟩
end Go.Proofs.Ytbeaggmiefpgoaa
