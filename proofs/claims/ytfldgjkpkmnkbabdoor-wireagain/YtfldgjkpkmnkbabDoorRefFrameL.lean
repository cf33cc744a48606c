import Derived.Test.YtfldgjkpkmnkbabDoorRefFrame
namespace Go.Proofs.YtfldgjkpkmnkbabDoor
open Go.RowKit
set_option linter.unusedVariables false

set_option maxRecDepth 100000 in
set_option maxHeartbeats 4000000 in
theorem refFrame_late (ao : Option Addr) (len cap q : Nat) (xs : List Int) (w : World) (hr : Rd w ao len cap xs) (h8 : q + 8 ≤ len) (hb : len ≤ 4611686018427387904) (A B : List Int) (U : Nat)
    (hA : (xs.take (q + 4)).drop q = A) (hB : (xs.take (q + 8)).drop (q + 4) = B) (hU : leV A = U) (hs : leV B = sum A) (F G : List Int) (hF : (xs.take (q + 8 + U)).drop (q + 8) = F) (hG : (xs.take (q + 12 + U)).drop (q + 8 + U) = G)
    (hsm : U ≤ 1048576) (hsh : q + 8 + U + 4 ≤ len) :
    Calls Tryd.prog 27 #[.slice ao len cap, .int .i64 q] w fun e w' => ∃ v, Below w.heap.size w w' ∧
      ((leV G = sum F ∧ e = .returned (.tuple #[v, .int .i64 ((q : Int) + 12 + (U : Int)), .int .i64 0]) ∧ Own w' w.heap.size v F) ∨ (leV G ≠ sum F ∧ e = .returned (.tuple #[.slice none 0 0, .int .i64 0, .int .i64 16]))) := by
  have hl := hr.length
  obtain ⟨aA, lA, cA, hcutA, hrA⟩ := cut_mid hr q (q + 4) (by omega) (by omega)
  obtain ⟨aB, lB, cB, hcutB, hrB⟩ := cut_mid hr (q + 4) (q + 8) (by omega) (by omega)
  have hcA : ∀ w, (Instr.slice 23 (.slice ao len cap) (some (.int .i64 (q : Int))) (some (.int .i64 ((q : Int) + 4))) none).run Tryd.prog w = .ok (.slice aA lA cA) w := hcutA
  have hcB : ∀ w, (Instr.slice 23 (.slice ao len cap) (some (.int .i64 ((q : Int) + 4))) (some (.int .i64 ((q : Int) + 8))) none).run Tryd.prog w = .ok (.slice aB lB cB) w := hcutB
  have hm := hr.max
  have hle := hr.le
  have HY : Hid (∀ j, j < 4 → A[j]?.getD 0 = xs[q + j]?.getD 0) := by
    intro j hj
    rw [← hA, List.getElem?_drop, List.getElem?_take, if_pos (by omega)]
  have HAl : Hid (A.length = 4) := by unfold Hid; rw [← hA, List.length_drop, List.length_take]; omega
  have HAb : Hid (Byt A) := by unfold Hid; rw [← hA]; exact (hr.byt.take _).drop _
  have hBb : Byt B := by rw [← hB]; exact (hr.byt.take _).drop _
  have hBl : B.length = 4 := by rw [← hB, List.length_drop, List.length_take]; omega
  have hn32 : U < 4294967296 := by
    have h1 := leV_lt _ HAb.out
    rw [HAl.out, hU] at h1
    exact h1
  have HC : Hid _ := seal_eq A B hBb hBl
  rw [hA] at hrA
  rw [hB] at hrB
  have HRA : Hid _ := hrA
  have HRB : Hid _ := hrB
  have HU : Hid _ := hU
  have hcl := hr.cells
  have HR : Hid _ := hr
  obtain ⟨aG, lG, cG, hcutG, hrG⟩ := cut_mid hr (q + 8 + U) (q + 12 + U) (by omega) (by omega)
  have hcG : ∀ w, (Instr.slice 23 (.slice ao len cap) (some (.int .i64 ((q : Int) + 8 + (U : Int)))) (some (.int .i64 ((q : Int) + 12 + (U : Int)))) none).run Tryd.prog w = .ok (.slice aG lG cG) w := hcutG
  have hGb : Byt G := by rw [← hG]; exact (hr.byt.take _).drop _
  have hGl : G.length = 4 := by rw [← hG, List.length_drop, List.length_take]; omega
  have HFb : Hid (Byt F) := by unfold Hid; rw [← hF]; exact (hr.byt.take _).drop _
  have HC2 : Hid _ := seal_eq F G hGb hGl
  rw [hG] at hrG
  have HRG : Hid _ := hrG
  have HF : Hid _ := hF
  clear hr hrA hrB hcutA hcutB hBl hBb hl hU hA hB hcutG hrG hGb hGl hF hG
  have hne : decide (leV B ≠ sum A) = false := by simp [hs]
  have HNE : Hid _ := hne
  clear hne hs
  have hw4 : wrap64 ((q : Int) + 4) = (q : Int) + 4 := (w64 _ (by omega) (by omega)).1
  have hw8 : wrap64 ((q : Int) + 8) = (q : Int) + 8 := (w64 _ (by omega) (by omega)).1
  have hx4 : IntKind.i64.wrap ((q : Int) + 4) = (q : Int) + 4 := (w64 _ (by omega) (by omega)).2
  have hx8 : IntKind.i64.wrap ((q : Int) + 8) = (q : Int) + 8 := (w64 _ (by omega) (by omega)).2
  go_enter Tryd.func27, Tryd.ntmps27
  go_wp2_with fail
  refine (refOutside_any _ _ _ _ _ (by omega) false (by simp; omega)).mono ?_
  rintro e w' ⟨rfl, rfl⟩
  go_wp2
  have hconv0 := str_of (HRB.out.later (Below.refl _ _).drew)
  go_cut [32] from 18 to 32 (fun b wr => b = .bool (decide (leV B ≠ sum A)) ∧ Hid (Below w'.heap.size w' wr))
  case first =>
    go_region_with (go_at_call 48; refine (sealed_any _ _ _ A _ ?_).mono ?_; exact HRA.out.later (Below.refl _ _).drew; rintro e w2 ⟨v2, rfl, hO2, hb2⟩; obtain ⟨a2, l2, c2, rfl, hr2⟩ := hO2.rd' (low8_byt _ _); have hconv1 := str_of hr2; have hconv2 := str_of (HRB.out.later (below_trans (Below.refl _ _).drew hb2)))
    all_goals go_wp2_with fail
    all_goals go_meet
    all_goals exact ⟨by rw [HC.out], below_trans (Below.refl _ _).drew hb2⟩
  case rest =>
    obtain ⟨rfl, HB1⟩ := hcut
    clear hcA hcB hw4 hx4 hw8 hx8 hconv0
    rw [HNE.out]
    clear HNE HC HRA HRB
    go_wp2
    go_loop [7, 8] (fun u i => ∃ (m U2 : Nat), m ≤ 4 ∧ i = .int .i64 (3 - (m : Int)) ∧ u = .int .i64 U2 ∧ Hid (U2 = leV (A.drop (4 - m))) ∧ U2 < 4294967296) (fun _ i => (intOf i + 1).toNat)
    case atStart => exact ⟨0, 0, by omega, rfl, rfl, by unfold Hid; rw [List.drop_eq_nil_of_le (by rw [HAl.out]; omega)]; rfl, by omega⟩
    case round =>
      obtain ⟨m, U2, hm8, rfl, rfl, hUe, hUl⟩ := hrel
      by_cases hlt : m < 4
      · rcases hcl with h0 | ⟨b, off, rfl, hc⟩
        · omega
        obtain ⟨j, hj⟩ : ∃ j, j = 3 - m := ⟨_, rfl⟩
        have hjm : j + m = 3 := by omega
        have ej : (3 : Int) - (m : Int) = (j : Int) := by omega
        rw [ej]
        have g0 := hc (q + j) (by omega)
        have g := (HB1.out.cell (World.block_lt_of_cell? _ _ g0)).trans g0
        rw [← HY.out j (by omega)] at g
        have hby := Byt.at HAb.out j
        have Hst : Hid (leV (A.drop j) = (A[j]?.getD 0).toNat + 256 * U2) := by
          unfold Hid; rw [leV_cons_drop A j (by rw [HAl.out]; omega), hUe.out, show 4 - m = j + 1 from by omega]
        have hU24 : U2 < 16777216 := by
          have h1 := leV_lt (A.drop (4 - m)) (Byt.drop HAb.out _)
          rw [← hUe.out, List.length_drop, HAl.out] at h1
          have h2 : 2 ^ (8 * (4 - (4 - m))) ≤ 2 ^ 24 := Nat.pow_le_pow_right (by decide) (by omega)
          have h24 : (2 : Nat) ^ 24 = 16777216 := rfl
          omega
        have hj7 : j ≤ 3 := by omega
        clear hc hj ej g0
        generalize A[j]?.getD 0 = c at *
        go_wp2
        go_round
        case rel =>
          refine ⟨m + 1, c.toNat + 256 * U2, by omega, ?_, ?_, ?_, by omega⟩
          · have : (j : Int) - 1 = 3 - ((m + 1 : Nat) : Int) := by omega
            rw [this]
          · have : (U2 : Int) * 256 + c = ((c.toNat + 256 * U2 : Nat) : Int) := by omega
            rw [this]
          · unfold Hid; rw [show 4 - (m + 1) = j from by omega, Hst.out]
        case measure => simp only [intOf]; omega
      · have hm' : m = 4 := by omega
        obtain rfl : U2 = U := by rw [hUe.out, hm', ← HU.out]; rfl
        have hge : 4 ≤ m := by omega
        clear hm' hcl hUe
        clear HY HAl HAb HU hn32
        go_wp2_with fail
        refine (part_any _ _ _ _ _ _ (q + 8) (q + 8 + U2) (by omega) (by omega) _ (HR.out.later HB1.out) (by omega) (by omega) (by omega)).mono ?_
        rintro e w9 ⟨v9, rfl, hO9, hb9⟩
        rw [HF.out] at hO9
        obtain ⟨a9, l9, c9, rfl, hr9⟩ := hO9.rd' HFb.out
        have HB9 : Hid (Below w'.heap.size w' w9) := below_trans HB1.out hb9
        have HO9 : Hid (Own w9 w'.heap.size (.slice a9 l9 c9) F) := hO9.mono HB1.out.size
        have HR9 : Hid (Rd w9 a9 l9 c9 F) := hr9
        have HRG9 : Hid (Rd w9 aG lG cG G) := HRG.out.later HB9.out
        clear hO9 hb9 hr9 HR HF HRG HFb HB1
        obtain ⟨hw8, hx8, hw12, hx12, hw8u, hx8u, hw12u, hx12u⟩ := w64s q U2 (by omega)
        go_wp2
        have hconvG := str_of (HRG9.out.later (Below.refl _ _).drew)
        go_cut [79] from 65 to 79 (fun b wr => b = .bool (decide (leV G ≠ sum F)) ∧ Hid (Below w9.heap.size w9 wr))
        case first =>
          go_region_with (go_at_call 48; refine (sealed_any _ _ _ F _ ?_).mono ?_; exact HR9.out.later (Below.refl _ _).drew; rintro e w2 ⟨v2, rfl, hO2, hb2⟩; obtain ⟨a2, l2, c2, rfl, hr2⟩ := hO2.rd' (low8_byt _ _); have hconv1 := str_of hr2; have hconv2 := str_of (HRG9.out.later (below_trans (Below.refl _ _).drew hb2)))
          all_goals go_wp2_with fail
          all_goals go_meet
          all_goals exact ⟨by rw [HC2.out], below_trans (Below.refl _ _).drew hb2⟩
        case rest =>
          obtain ⟨rfl, HB10⟩ := hcut
          clear hcG hconvG hw8 hx8 hw12 hx12 hw8u hx8u hw12u hx12u
          by_cases hs2 : leV G = sum F
          · have hne : decide (leV G ≠ sum F) = false := by simp [hs2]
            have HS2 : Hid _ := hs2
            clear hs2
            rw [hne]
            clear hne
            go_wp2
            go_ret3
            exact ⟨_, below_trans HB9.out HB10.out, .inl ⟨HS2.out, rfl, HO9.out.later HB10.out⟩⟩
          · have hne : decide (leV G ≠ sum F) = true := by simp [hs2]
            have HS2 : Hid _ := hs2
            clear hs2
            rw [hne]
            clear hne
            go_wp2
            go_ret3
            exact ⟨.slice none 0 0, below_trans HB9.out HB10.out, .inr ⟨HS2.out, rfl⟩⟩
end Go.Proofs.YtfldgjkpkmnkbabDoor
