import Derived.Test.YtfldgjkpkmnkbabDoorSame
import Derived.Test.YtfldgjkpkmnkbabDoorMem
namespace Go.Proofs.YtfldgjkpkmnkbabDoor
open Go.RowKit
set_option linter.unusedVariables false

/-- What Laid makes: the bytes in a new block, behind them 201, 202, 203 and seventy times 206. -/
structure LaidAt (w : World) (base : Nat) (v : Value) (xs : List Int) : Prop where
  it : ∃ g cap, v = .slice (some ⟨g, 0, none⟩) xs.length cap ∧ base ≤ g ∧ Own w base (.slice (some ⟨g, 0, none⟩) (xs.length + 73) cap) (xs ++ [201, 202, 203] ++ List.replicate 70 206)
  byt : Byt xs
  small : xs.length ≤ 1048676

theorem LaidAt.later {w w' : World} {base : Nat} {v : Value} {xs : List Int} (h : LaidAt w base v xs) (hb : Below w.heap.size w w') : LaidAt w' base v xs := by
  obtain ⟨⟨g, cap, hv, hg, ho⟩, hy, hs⟩ := h
  exact ⟨⟨g, cap, hv, hg, ho.later hb⟩, hy, hs⟩

theorem laid_byt {xs : List Int} (h : Byt xs) (n : Nat) : Byt (xs ++ [201, 202, 203] ++ List.replicate n 206) := by
  refine (h.append ?_).append ?_
  · exact Byt.cons (by decide) (by decide) (Byt.cons (by decide) (by decide) (Byt.cons (by decide) (by decide) Byt.nil))
  · intro x hx
    have := (List.mem_replicate.1 hx).2
    subst this
    decide

theorem LaidAt.rd {w : World} {base : Nat} {v : Value} {xs : List Int} (h : LaidAt w base v xs) : ∃ ao cap, v = .slice ao xs.length cap ∧ Rd w ao xs.length cap xs := by
  obtain ⟨⟨g, cap, hv, hg, ho⟩, hy, hs⟩ := h
  obtain ⟨ao, cap', he, hr⟩ := ho.rd (laid_byt hy 70)
  simp only [Value.slice.injEq] at he
  obtain ⟨rfl, hlen, rfl⟩ := he
  refine ⟨_, _, hv, rfl, ?_, hr.max, hy, (fun h => by cases h), ?_⟩
  · have := hr.le; omega
  · by_cases h0 : xs.length = 0
    · exact .inl h0
    · right
      rcases hr.cells with h1 | ⟨b, off, he, hc⟩
      · omega
      · refine ⟨b, off, he, fun j hj => ?_⟩
        rw [hc j (by omega), List.append_assoc, List.getElem?_append_left hj]

set_option maxRecDepth 100000 in
set_option maxHeartbeats 1000000 in
theorem laid_small (ao : Option Addr) (len cap : Nat) (ys : List Int) (w : World) (hr : Rd w ao len cap ys) (hl : len ≤ 1048676) :
    Calls Tryd.prog 22 #[.slice ao len cap] w fun e w' => ∃ v, e = .returned v ∧ LaidAt w' w.heap.size v ys ∧ Below w.heap.size w w' := by
  have hm := hr.max
  have hle := hr.le
  have HL : Hid (ys.length = len) := hr.length
  have HR : Hid (Rd w ao len cap ys) := hr
  clear hr
  go_enter Tryd.func22, Tryd.ntmps22
  go_wp2_with (first | (at_builtin; refine append_rd _ rfl (.tmp 10) (.tmp 11) rfl w.heap.size _ [] rfl (Own.nil _ _) _ _ _ ys rfl HR.out (by simp; omega) (Nat.le_refl _) ?_; intro v1 w1 hown1 hb1) | (at_builtin; refine append_rd _ rfl (.tmp 13) (.tmp 14) rfl w.heap.size _ ([] ++ ys) rfl (hown1.alloc _) _ _ _ [201, 202, 203] rfl (Rd.fresh _ [201, 202, 203] (by intro x hx; simp at hx; omega) (by simp)) (by simp [HL.out]; omega) (by have := hb1.size; simp; omega) ?_; intro v2 w2 hown2 hb2))
  have hB2 : Below w.heap.size w w2 := (hb1.alloc (by have := hb1.size; omega) _).trans hb2
  rw [List.nil_append] at hown2
  clear hown1 hb1 hb2
  go_loopw [3, 4] (fun v i wr => ∃ k : Nat, k ≤ 70 ∧ i = .int .i64 k ∧ Own wr w.heap.size v (ys ++ [201, 202, 203] ++ List.replicate k 206) ∧ Below w.heap.size w wr) (fun _ i _ => 70 - (intOf i).toNat)
  case atStart => exact ⟨0, by omega, rfl, by simpa using hown2, hB2⟩
  case round =>
    obtain ⟨k, hk, rfl, hown, hbel⟩ := hrel
    have hsz := hbel.size
    clear hown2 hB2
    by_cases hlt : k < 70
    · go_wp2_with (at_builtin; refine append_rd _ rfl _ _ rfl w.heap.size _ _ rfl (hown.alloc _) _ _ _ [206] rfl (Rd.fresh1 _ 206 (by decide) (by decide)) (by simp [HL.out]; omega) (by simp; omega) ?_; intro v' w3 hown' hb')
      go_roundw
      case rel => exact ⟨k + 1, by omega, by go_num, by rw [List.replicate_succ', ← List.append_assoc]; exact hown', (hbel.alloc hsz _).trans hb'⟩
      case measure => simp [intOf]; omega
    · have hk70 : k = 70 := by omega
      subst hk70
      have Hown : Hid (Own wr w.heap.size u3 (ys ++ [201, 202, 203] ++ List.replicate 70 206)) := hown
      rcases hown.2 with ⟨_, hn⟩ | ⟨g, cap2, cur, rfl, hg, _, hnc, hcm, _⟩
      · simp at hn
      have hln : (ys ++ [201, 202, 203] ++ List.replicate 70 206).length = len + 73 := by simp [HL.out]
      rw [hln] at hnc Hown ⊢
      have hc2 : len + 73 ≤ cap2 := hnc
      clear hown hnc
      go_wp2
      go_ret
      exact ⟨_, rfl, ⟨⟨g, cap2, by rw [HL.out]; rfl, hg, by rw [HL.out]; exact Hown.out⟩, HR.out.byt, by rw [HL.out]; exact hl⟩, hbel⟩

set_option maxRecDepth 100000 in
set_option maxHeartbeats 1000000 in
theorem laid_great (ao ao' : Option Addr) (len cap len' cap' : Nat) (ys : List Int) (w : World) (hm0 : len ≤ 9223372036854775807) (hl0 : 1048676 < len) (hcut : ∀ w, (Instr.slice 23 (.slice ao len cap) none (some (.int .i64 1048676)) none).run Tryd.prog w = .ok (.slice ao' len' cap') w) (hr : Rd w ao' len' cap' ys) (hl : len' ≤ 1048676) :
    Calls Tryd.prog 22 #[.slice ao len cap] w fun e w' => ∃ v, e = .returned v ∧ LaidAt w' w.heap.size v ys ∧ Below w.heap.size w w' := by
  have hm := hr.max
  have hle := hr.le
  have HL : Hid (ys.length = len') := hr.length
  have HR : Hid (Rd w ao' len' cap' ys) := hr
  clear hr
  go_enter Tryd.func22, Tryd.ntmps22
  go_wp2_with (first | (at_builtin; refine append_rd _ rfl (.tmp 10) (.tmp 11) rfl w.heap.size _ [] rfl (Own.nil _ _) _ _ _ ys rfl HR.out (by simp; omega) (Nat.le_refl _) ?_; intro v1 w1 hown1 hb1) | (at_builtin; refine append_rd _ rfl (.tmp 13) (.tmp 14) rfl w.heap.size _ ([] ++ ys) rfl (hown1.alloc _) _ _ _ [201, 202, 203] rfl (Rd.fresh _ [201, 202, 203] (by intro x hx; simp at hx; omega) (by simp)) (by simp [HL.out]; omega) (by have := hb1.size; simp; omega) ?_; intro v2 w2 hown2 hb2))
  have hB2 : Below w.heap.size w w2 := (hb1.alloc (by have := hb1.size; omega) _).trans hb2
  rw [List.nil_append] at hown2
  clear hown1 hb1 hb2
  go_loopw [3, 4] (fun v i wr => ∃ k : Nat, k ≤ 70 ∧ i = .int .i64 k ∧ Own wr w.heap.size v (ys ++ [201, 202, 203] ++ List.replicate k 206) ∧ Below w.heap.size w wr) (fun _ i _ => 70 - (intOf i).toNat)
  case atStart => exact ⟨0, by omega, rfl, by simpa using hown2, hB2⟩
  case round =>
    obtain ⟨k, hk, rfl, hown, hbel⟩ := hrel
    have hsz := hbel.size
    clear hown2 hB2
    by_cases hlt : k < 70
    · go_wp2_with (at_builtin; refine append_rd _ rfl _ _ rfl w.heap.size _ _ rfl (hown.alloc _) _ _ _ [206] rfl (Rd.fresh1 _ 206 (by decide) (by decide)) (by simp [HL.out]; omega) (by simp; omega) ?_; intro v' w3 hown' hb')
      go_roundw
      case rel => exact ⟨k + 1, by omega, by go_num, by rw [List.replicate_succ', ← List.append_assoc]; exact hown', (hbel.alloc hsz _).trans hb'⟩
      case measure => simp [intOf]; omega
    · have hk70 : k = 70 := by omega
      subst hk70
      have Hown : Hid (Own wr w.heap.size u3 (ys ++ [201, 202, 203] ++ List.replicate 70 206)) := hown
      rcases hown.2 with ⟨_, hn⟩ | ⟨g, cap2, cur, rfl, hg, _, hnc, hcm, _⟩
      · simp at hn
      have hln : (ys ++ [201, 202, 203] ++ List.replicate 70 206).length = len' + 73 := by simp [HL.out]
      rw [hln] at hnc Hown ⊢
      have hc2 : len' + 73 ≤ cap2 := hnc
      clear hown hnc
      go_wp2
      go_ret
      exact ⟨_, rfl, ⟨⟨g, cap2, by rw [HL.out]; rfl, hg, by rw [HL.out]; exact Hown.out⟩, HR.out.byt, by rw [HL.out]; exact hl⟩, hbel⟩

/-- Laid: the bytes (at most 1048676) in new memory, marks behind them. -/
theorem laid_any (ao : Option Addr) (len cap : Nat) (xs : List Int) (w : World) (hr : Rd w ao len cap xs) :
    Calls Tryd.prog 22 #[.slice ao len cap] w fun e w' => ∃ v, e = .returned v ∧ LaidAt w' w.heap.size v (xs.take 1048676) ∧ Below w.heap.size w w' := by
  by_cases hl : len ≤ 1048676
  · rw [List.take_of_length_le (by rw [hr.length]; exact hl)]
    exact laid_small ao len cap xs w hr hl
  · obtain ⟨ao', len', cap', hcut, hr'⟩ := cut_to hr 1048676 (by omega)
    have hl' := hr'.length
    rw [List.length_take, hr.length] at hl'
    exact laid_great ao ao' len cap len' cap' _ w (by have := hr.le; have := hr.max; omega) (by omega) hcut hr' (by omega)
end Go.Proofs.YtfldgjkpkmnkbabDoor
