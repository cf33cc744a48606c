import Derived.Test.YtfldgjkpkmnkbabDoorRefRead
import Derived.Test.YtfldgjkpkmnkbabDoorReadFrames
import Derived.Test.YtfldgjkpkmnkbabDoorStr
import Derived.WalkLawsBesides
import Derived.Deep.CutRange
import Derived.Lib.Strings
namespace Go.Proofs.YtfldgjkpkmnkbabDoor
open Go.RowKit
set_option linter.unusedVariables false

/-! ### four bytes and their number -/
theorem strB_inj {xs ys : List Int} (hx : Byt xs) (hy : Byt ys) (h : strB xs = strB ys) : xs = ys := by
  have h1 : (xs.map fun n => UInt8.ofNat n.toNat) = (ys.map fun n => UInt8.ofNat n.toNat) := by
    have := congrArg ByteArray.data h
    simpa [strB] using this
  have hl : xs.length = ys.length := by simpa using congrArg List.length h1
  apply List.ext_getElem hl
  intro i h2 h3
  have h4 := congrArg (fun l => l[i]?) h1
  simp only [List.getElem?_map, List.getElem?_eq_getElem h2, List.getElem?_eq_getElem h3, Option.map_some, Option.some.injEq] at h4
  have b1 := hx _ (List.getElem_mem h2)
  have b2 := hy _ (List.getElem_mem h3)
  have h5 := congrArg UInt8.toNat h4
  rw [UInt8.toNat_ofNat', UInt8.toNat_ofNat', Nat.mod_eq_of_lt (by omega), Nat.mod_eq_of_lt (by omega)] at h5
  omega
theorem sealed_iff (A B : List Int) (hB : Byt B) (hl : B.length = 4) : strB (low8 (sum A) 4) = strB B ↔ leV B = sum A := by
  have hs := sum_le A
  constructor
  · intro h
    have := strB_inj (low8_byt _ _) hB h
    rw [← this, leV_low8 4 _ (by omega)]
  · intro h
    rw [← h, ← hl, low8_leV B hB]

set_option maxRecDepth 100000 in
theorem part_any (ao : Option Addr) (len cap : Nat) (xs : List Int) (lo hi : Int) (l h : Nat) (hlo : lo = (l : Int)) (hhi : hi = (h : Int)) (w : World) (hr : Rd w ao len cap xs) (hlh : l ≤ h) (hh : h ≤ len) (hb : h - l ≤ 35184372088832) :
    Calls Tryd.prog 46 #[.slice ao len cap, .int .i64 lo, .int .i64 hi] w fun e w' => ∃ v, e = .returned v ∧ Own w' w.heap.size v ((xs.take h).drop l) ∧ Below w.heap.size w w' := by
  subst hlo hhi
  obtain ⟨a1, l1, c1, hcut, hr1⟩ := cut_mid hr l h hlh hh
  have hl1 : l1 ≤ 35184372088832 := by have := hr1.length; rw [List.length_drop, List.length_take, hr.length] at this; omega
  have hm := hr.max
  have hle := hr.le
  have HR1 : Hid _ := hr1
  clear hr hr1
  go_enter Tryd.func46, Tryd.ntmps46
  go_wp2_with (at_builtin; refine append_rd _ rfl _ _ rfl w.heap.size _ [] rfl (Own.nil _ _) _ _ _ _ rfl HR1.out (by simp; omega) (Nat.le_refl _) ?_; intro v1 w1 hO hb)
  go_ret
  exact ⟨_, rfl, by rw [List.nil_append] at hO; exact hO, hb⟩

theorem w64 (x : Int) (h0 : 0 ≤ x) (h1 : x ≤ 9223372036854775807) : wrap64 x = x ∧ IntKind.i64.wrap x = x := ⟨IntWalk.wrap64_in _ ⟨by omega, by omega⟩, by rw [IntKind.wrap_i64]; omega⟩
theorem w64s (q U : Nat) (h : q + 12 + U ≤ 9223372036854775807) : wrap64 ((q : Int) + 8) = (q : Int) + 8 ∧ IntKind.i64.wrap ((q : Int) + 8) = (q : Int) + 8 ∧ wrap64 ((q : Int) + 12) = (q : Int) + 12 ∧ IntKind.i64.wrap ((q : Int) + 12) = (q : Int) + 12 ∧
    wrap64 ((q : Int) + 8 + (U : Int)) = (q : Int) + 8 + (U : Int) ∧ IntKind.i64.wrap ((q : Int) + 8 + (U : Int)) = (q : Int) + 8 + (U : Int) ∧ wrap64 ((q : Int) + 12 + (U : Int)) = (q : Int) + 12 + (U : Int) ∧ IntKind.i64.wrap ((q : Int) + 12 + (U : Int)) = (q : Int) + 12 + (U : Int) :=
  ⟨(w64 _ (by omega) (by omega)).1, (w64 _ (by omega) (by omega)).2, (w64 _ (by omega) (by omega)).1, (w64 _ (by omega) (by omega)).2, (w64 _ (by omega) (by omega)).1, (w64 _ (by omega) (by omega)).2, (w64 _ (by omega) (by omega)).1, (w64 _ (by omega) (by omega)).2⟩
theorem mid_eq (xs : List Int) (q j k : Nat) : (xs.take (q + k)).drop (q + j) = ((xs.drop q).take k).drop j := by
  rw [List.drop_take, List.drop_take, List.drop_drop]
  congr 1
  omega
theorem seal_eq (A B : List Int) (hB : Byt B) (hl : B.length = 4) : (!((strB (low8 (sum A) 4)).toList == (strB B).toList)) = decide (leV B ≠ sum A) := by
  have h := sealed_iff A B hB hl
  have h2 : ((strB (low8 (sum A) 4)).toList = (strB B).toList) ↔ strB (low8 (sum A) 4) = strB B := by
    constructor
    · intro e
      rw [Lib.toList_data, Lib.toList_data] at e
      have : (strB (low8 (sum A) 4)).data = (strB B).data := Array.toList_inj.1 e
      exact congrArg ByteArray.mk this
    · intro e; rw [e]
  by_cases hc : leV B = sum A
  · have e := h2.2 (h.2 hc)
    rw [e]; simp [hc]
  · have e : ((strB (low8 (sum A) 4)).toList == (strB B).toList) = false := beq_eq_false_iff_ne.2 (fun e => hc (h.1 (h2.1 e)))
    rw [e]; simp [hc]

set_option maxRecDepth 100000 in
set_option maxHeartbeats 4000000 in
theorem refFrame_sum (ao : Option Addr) (len cap q : Nat) (xs : List Int) (w : World) (hr : Rd w ao len cap xs) (h8 : q + 8 ≤ len) (hb : len ≤ 4611686018427387904) (A B : List Int) (U : Nat)
    (hA : (xs.take (q + 4)).drop q = A) (hB : (xs.take (q + 8)).drop (q + 4) = B) (hU : leV A = U) (hs : leV B ≠ sum A) :
    Calls Tryd.prog 27 #[.slice ao len cap, .int .i64 q] w fun e w' => e = .returned (.tuple #[.slice none 0 0, .int .i64 0, .int .i64 16]) ∧ Below w.heap.size w w' := by
  have hl := hr.length
  obtain ⟨aA, lA, cA, hcutA, hrA⟩ := cut_mid hr q (q + 4) (by omega) (by omega)
  obtain ⟨aB, lB, cB, hcutB, hrB⟩ := cut_mid hr (q + 4) (q + 8) (by omega) (by omega)
  have hcA : ∀ w, (Instr.slice 23 (.slice ao len cap) (some (.int .i64 (q : Int))) (some (.int .i64 ((q : Int) + 4))) none).run Tryd.prog w = .ok (.slice aA lA cA) w := hcutA
  have hcB : ∀ w, (Instr.slice 23 (.slice ao len cap) (some (.int .i64 ((q : Int) + 4))) (some (.int .i64 ((q : Int) + 8))) none).run Tryd.prog w = .ok (.slice aB lB cB) w := hcutB
  have hm := hr.max
  have hle := hr.le
  have HY : Hid (∀ j, j < 4 → A[j]?.getD 0 = xs[q + j]?.getD 0) := by
    intro j hj
    rw [← hA, List.getElem?_drop, List.getElem?_take, if_pos (by omega)]
  have HAl : Hid (A.length = 4) := by unfold Hid; rw [← hA, List.length_drop, List.length_take]; omega
  have HAb : Hid (Byt A) := by unfold Hid; rw [← hA]; exact (hr.byt.take _).drop _
  have hBb : Byt B := by rw [← hB]; exact (hr.byt.take _).drop _
  have hBl : B.length = 4 := by rw [← hB, List.length_drop, List.length_take]; omega
  have hn32 : U < 4294967296 := by
    have h1 := leV_lt _ HAb.out
    rw [HAl.out, hU] at h1
    exact h1
  have HC : Hid _ := seal_eq A B hBb hBl
  rw [hA] at hrA
  rw [hB] at hrB
  have HRA : Hid _ := hrA
  have HRB : Hid _ := hrB
  have HU : Hid _ := hU
  have hcl := hr.cells
  have HR : Hid _ := hr
  clear hr hrA hrB hcutA hcutB hBl hBb hl hcl hU hA hB HY
  have hne : decide (leV B ≠ sum A) = true := by simp [hs]
  have HNE : Hid _ := hne
  clear hne hs
  have hw4 : wrap64 ((q : Int) + 4) = (q : Int) + 4 := (w64 _ (by omega) (by omega)).1
  have hw8 : wrap64 ((q : Int) + 8) = (q : Int) + 8 := (w64 _ (by omega) (by omega)).1
  have hx4 : IntKind.i64.wrap ((q : Int) + 4) = (q : Int) + 4 := (w64 _ (by omega) (by omega)).2
  have hx8 : IntKind.i64.wrap ((q : Int) + 8) = (q : Int) + 8 := (w64 _ (by omega) (by omega)).2
  go_enter Tryd.func27, Tryd.ntmps27
  go_wp2_with fail
  refine (refOutside_any _ _ _ _ _ (by omega) false (by simp; omega)).mono ?_
  rintro e w' ⟨rfl, rfl⟩
  go_wp2
  have hconv0 := str_of (HRB.out.later (Below.refl _ _).drew)
  go_cut [32] from 18 to 32 (fun b wr => b = .bool (decide (leV B ≠ sum A)) ∧ Hid (Below w'.heap.size w' wr))
  case first =>
    go_region_with (go_at_call 48; refine (sealed_any _ _ _ A _ ?_).mono ?_; exact HRA.out.later (Below.refl _ _).drew; rintro e w2 ⟨v2, rfl, hO2, hb2⟩; obtain ⟨a2, l2, c2, rfl, hr2⟩ := hO2.rd' (low8_byt _ _); have hconv1 := str_of hr2; have hconv2 := str_of (HRB.out.later (below_trans (Below.refl _ _).drew hb2)))
    all_goals go_wp2_with fail
    all_goals go_meet
    all_goals exact ⟨by rw [HC.out], below_trans (Below.refl _ _).drew hb2⟩
  case rest =>
    obtain ⟨rfl, HB1⟩ := hcut
    clear hcA hcB hw4 hw8 hx4 hx8 hconv0
    rw [HNE.out]
    go_wp2
    go_ret3
    exact ⟨rfl, HB1.out⟩

set_option maxRecDepth 100000 in
set_option maxHeartbeats 4000000 in
theorem refFrame_mid (ao : Option Addr) (len cap q : Nat) (xs : List Int) (w : World) (hr : Rd w ao len cap xs) (h8 : q + 8 ≤ len) (hb : len ≤ 4611686018427387904) (A B : List Int) (U : Nat)
    (hA : (xs.take (q + 4)).drop q = A) (hB : (xs.take (q + 8)).drop (q + 4) = B) (hU : leV A = U) (hs : leV B = sum A) (err : Int) (herr : (1048576 < U ∧ err = 13) ∨ (U ≤ 1048576 ∧ len < q + 8 + U + 4 ∧ err = 10)) :
    Calls Tryd.prog 27 #[.slice ao len cap, .int .i64 q] w fun e w' => e = .returned (.tuple #[.slice none 0 0, .int .i64 0, .int .i64 err]) ∧ Below w.heap.size w w' := by
  have hl := hr.length
  obtain ⟨aA, lA, cA, hcutA, hrA⟩ := cut_mid hr q (q + 4) (by omega) (by omega)
  obtain ⟨aB, lB, cB, hcutB, hrB⟩ := cut_mid hr (q + 4) (q + 8) (by omega) (by omega)
  have hcA : ∀ w, (Instr.slice 23 (.slice ao len cap) (some (.int .i64 (q : Int))) (some (.int .i64 ((q : Int) + 4))) none).run Tryd.prog w = .ok (.slice aA lA cA) w := hcutA
  have hcB : ∀ w, (Instr.slice 23 (.slice ao len cap) (some (.int .i64 ((q : Int) + 4))) (some (.int .i64 ((q : Int) + 8))) none).run Tryd.prog w = .ok (.slice aB lB cB) w := hcutB
  have hm := hr.max
  have hle := hr.le
  have HY : Hid (∀ j, j < 4 → A[j]?.getD 0 = xs[q + j]?.getD 0) := by
    intro j hj
    rw [← hA, List.getElem?_drop, List.getElem?_take, if_pos (by omega)]
  have HAl : Hid (A.length = 4) := by unfold Hid; rw [← hA, List.length_drop, List.length_take]; omega
  have HAb : Hid (Byt A) := by unfold Hid; rw [← hA]; exact (hr.byt.take _).drop _
  have hBb : Byt B := by rw [← hB]; exact (hr.byt.take _).drop _
  have hBl : B.length = 4 := by rw [← hB, List.length_drop, List.length_take]; omega
  have hn32 : U < 4294967296 := by
    have h1 := leV_lt _ HAb.out
    rw [HAl.out, hU] at h1
    exact h1
  have HC : Hid _ := seal_eq A B hBb hBl
  rw [hA] at hrA
  rw [hB] at hrB
  have HRA : Hid _ := hrA
  have HRB : Hid _ := hrB
  have HU : Hid _ := hU
  have hcl := hr.cells
  have HR : Hid _ := hr
  clear hr hrA hrB hcutA hcutB hBl hBb hl hU hA hB
  have hne : decide (leV B ≠ sum A) = false := by simp [hs]
  have HNE : Hid _ := hne
  clear hne hs
  have hw4 : wrap64 ((q : Int) + 4) = (q : Int) + 4 := (w64 _ (by omega) (by omega)).1
  have hw8 : wrap64 ((q : Int) + 8) = (q : Int) + 8 := (w64 _ (by omega) (by omega)).1
  have hx4 : IntKind.i64.wrap ((q : Int) + 4) = (q : Int) + 4 := (w64 _ (by omega) (by omega)).2
  have hx8 : IntKind.i64.wrap ((q : Int) + 8) = (q : Int) + 8 := (w64 _ (by omega) (by omega)).2
  go_enter Tryd.func27, Tryd.ntmps27
  go_wp2_with fail
  refine (refOutside_any _ _ _ _ _ (by omega) false (by simp; omega)).mono ?_
  rintro e w' ⟨rfl, rfl⟩
  go_wp2
  have hconv0 := str_of (HRB.out.later (Below.refl _ _).drew)
  go_cut [32] from 18 to 32 (fun b wr => b = .bool (decide (leV B ≠ sum A)) ∧ Hid (Below w'.heap.size w' wr))
  case first =>
    go_region_with (go_at_call 48; refine (sealed_any _ _ _ A _ ?_).mono ?_; exact HRA.out.later (Below.refl _ _).drew; rintro e w2 ⟨v2, rfl, hO2, hb2⟩; obtain ⟨a2, l2, c2, rfl, hr2⟩ := hO2.rd' (low8_byt _ _); have hconv1 := str_of hr2; have hconv2 := str_of (HRB.out.later (below_trans (Below.refl _ _).drew hb2)))
    all_goals go_wp2_with fail
    all_goals go_meet
    all_goals exact ⟨by rw [HC.out], below_trans (Below.refl _ _).drew hb2⟩
  case rest =>
    obtain ⟨rfl, HB1⟩ := hcut
    clear hcA hcB hw4 hw8 hx4 hx8 hconv0
    rw [HNE.out]
    clear HNE HC HRA HRB
    go_wp2
    go_loop [7, 8] (fun u i => ∃ (m U2 : Nat), m ≤ 4 ∧ i = .int .i64 (3 - (m : Int)) ∧ u = .int .i64 U2 ∧ Hid (U2 = leV (A.drop (4 - m))) ∧ U2 < 4294967296) (fun _ i => (intOf i + 1).toNat)
    case atStart => exact ⟨0, 0, by omega, rfl, rfl, by unfold Hid; rw [List.drop_eq_nil_of_le (by rw [HAl.out]; omega)]; rfl, by omega⟩
    case round =>
      obtain ⟨m, U2, hm8, rfl, rfl, hUe, hUl⟩ := hrel
      by_cases hlt : m < 4
      · rcases hcl with h0 | ⟨b, off, rfl, hc⟩
        · omega
        obtain ⟨j, hj⟩ : ∃ j, j = 3 - m := ⟨_, rfl⟩
        have hjm : j + m = 3 := by omega
        have ej : (3 : Int) - (m : Int) = (j : Int) := by omega
        rw [ej]
        have g0 := hc (q + j) (by omega)
        have g := (HB1.out.cell (World.block_lt_of_cell? _ _ g0)).trans g0
        rw [← HY.out j (by omega)] at g
        have hby := Byt.at HAb.out j
        have Hst : Hid (leV (A.drop j) = (A[j]?.getD 0).toNat + 256 * U2) := by
          unfold Hid; rw [leV_cons_drop A j (by rw [HAl.out]; omega), hUe.out, show 4 - m = j + 1 from by omega]
        have hU24 : U2 < 16777216 := by
          have h1 := leV_lt (A.drop (4 - m)) (Byt.drop HAb.out _)
          rw [← hUe.out, List.length_drop, HAl.out] at h1
          have h2 : 2 ^ (8 * (4 - (4 - m))) ≤ 2 ^ 24 := Nat.pow_le_pow_right (by decide) (by omega)
          have h24 : (2 : Nat) ^ 24 = 16777216 := rfl
          omega
        have hj7 : j ≤ 3 := by omega
        clear hc hj ej g0
        generalize A[j]?.getD 0 = c at *
        go_wp2
        go_round
        case rel =>
          refine ⟨m + 1, c.toNat + 256 * U2, by omega, ?_, ?_, ?_, by omega⟩
          · have : (j : Int) - 1 = 3 - ((m + 1 : Nat) : Int) := by omega
            rw [this]
          · have : (U2 : Int) * 256 + c = ((c.toNat + 256 * U2 : Nat) : Int) := by omega
            rw [this]
          · unfold Hid; rw [show 4 - (m + 1) = j from by omega, Hst.out]
        case measure => simp only [intOf]; omega
      · have hm' : m = 4 := by omega
        obtain rfl : U2 = U := by rw [hUe.out, hm', ← HU.out]; rfl
        have hge : 4 ≤ m := by omega
        clear hm' hcl hUe
        rcases herr with ⟨hbig, rfl⟩ | ⟨hsm, hsh, rfl⟩
        · go_wp2
          go_ret3
          exact ⟨rfl, HB1.out⟩
        · go_wp2
          go_ret3
          exact ⟨rfl, HB1.out⟩
end Go.Proofs.YtfldgjkpkmnkbabDoor
