import Derived.Test.YtnhaapnmgjlbjaaDoorVA
namespace Go.Proofs.YtnhaapnmgjlbjaaDoor
open Go.RowKit
set_option linter.unusedVariables false

def flV (us : List Nat) : List Value := us.map (Value.float .f64)
theorem flV_len (us : List Nat) : (flV us).length = us.length := by simp [flV]
theorem flV_app (us vs : List Nat) : flV (us ++ vs) = flV us ++ flV vs := by simp [flV]
theorem flV_at (us : List Nat) (j : Nat) (h : j < us.length) : (flV us)[j]? = some (.float .f64 (us[j]?.getD 0)) := by
  simp [flV, List.getElem?_eq_getElem h]
theorem flV_one (us : List Nat) : ∀ u ∈ flV us, u.oneCell' = true := by
  intro u hu
  simp only [flV, List.mem_map] at hu
  obtain ⟨x, _, rfl⟩ := hu
  rfl
def OwnFl (w : World) (base : Nat) (v : Value) (us : List Nat) : Prop := w.ownsRow base 46 1 v (flV us).length (flV us)
theorem OwnFl.nil (w : World) (base : Nat) : OwnFl w base (.slice none 0 0) [] := World.ownsRow_nil w base _ 1
/-- What was laid out, with its marks. -/
theorem OwnFl.mk {w : World} {base : Nat} {v : Value} {us : List Nat} (hu : ∀ u ∈ us, u < 18446744073709551616) (hm : us.length ≤ 300) (h : OwnFl w base v (us ++ List.replicate 9 13873417816952012800)) :
    ∃ g cap, v = .slice (some ⟨g, 0, none⟩) (us.length + 9) cap ∧ us.length + 9 ≤ cap ∧ Mk w base (.slice (some ⟨g, 0, none⟩) us.length cap) us := by
  have hl : (flV (us ++ List.replicate 9 13873417816952012800)).length = us.length + 9 := by rw [flV_len]; simp
  unfold OwnFl at h
  rw [hl] at h
  rcases h.2 with ⟨_, h0⟩ | ⟨g, cap, cur, rfl, hg, hh, hc, hx, hs, ht⟩
  · omega
  · refine ⟨g, cap, rfl, hc, g, cap, cur, rfl, hg, hh, by omega, hx, hu, by omega, fun j hj => ?_, ?_⟩
    · have h1 : (cur.toList.take ((us.length + 9) * 1))[j]? = cur[j]? := by rw [List.getElem?_take, if_pos (by omega), Array.getElem?_toList]
      rw [← h1, ht, flV_app, List.getElem?_append_left (by rw [flV_len]; exact hj), flV_at us j hj]
    · have h1 : (cur.toList.take ((us.length + 9) * 1))[us.length]? = cur[us.length]? := by rw [List.getElem?_take, if_pos (by omega), Array.getElem?_toList]
      rw [← h1, ht, flV_app, List.getElem?_append_right (by rw [flV_len]; exact Nat.le_refl _), flV_len, Nat.sub_self]
      rfl
set_option maxRecDepth 100000 in
set_option maxHeartbeats 1000000 in
/-- From where the row stands ready. -/
theorem laid_any (ao : Option Addr) (len cap : Nat) (us : List Nat) (w : World) (hr : RdF w ao len cap us) (hcap : len ≤ cap) (hnil : ao = none → cap = 0) (hmc : cap ≤ maxLen) :
    Calls Tryd.prog 21 #[.slice ao len cap, .int .i64 300] w fun e w' => ∃ v, e = .returned v ∧ Mk w' w.heap.size v (us.take 300) ∧ Below w.heap.size w w' := by
  have hmx := Nat.le_trans hr.max maxLen_le
  -- the row that is taken
  obtain ⟨L, lo, hL, hLc, hrl, hnl, hcut⟩ : ∃ (L : Nat) (lo : Option Addr), L = min len 300 ∧ L ≤ cap ∧ RdF w lo L cap (us.take 300) ∧ (lo = none → cap = 0) ∧ ((¬ 300 < len ∧ lo = ao ∧ L = len) ∨ (300 < len ∧ L = 300 ∧ ∀ w, (Instr.slice 24 (.slice ao len cap) none (some (.int .i64 300)) none).run Tryd.prog w = .ok (.slice lo 300 cap) w)) := by
    by_cases hq : 300 < len
    · refine ⟨300, (if cap = 0 then ao else ao.map (·.add (0 * 1))), by omega, by omega, ?_, ?_, .inr ⟨hq, rfl, fun w => cutF ao len cap 300 (by omega) w⟩⟩
      · rcases hr.cells with h0 | ⟨b, off, rfl, hc⟩
        · omega
        · refine ⟨by rw [List.length_take, hr.length]; omega, by simp only [maxLen]; omega, fun u hu => hr.lt u (List.mem_of_mem_take hu), .inr ⟨b, off, ?_, fun j hj => ?_⟩⟩
          · rw [if_neg (by omega), Option.map_some, add_zero']
          · rw [hc j (by omega), List.getElem?_take, if_pos hj]
      · intro h
        rw [if_neg (by omega)] at h
        cases ao with
        | none => exact hnil rfl
        | some x => simp at h
    · refine ⟨len, ao, by omega, hcap, ?_, hnil, .inl ⟨hq, rfl, rfl⟩⟩
      rw [List.take_of_length_le (by rw [hr.length]; omega)]
      exact hr
  have hul := hrl.lt
  have hll := hrl.length
  have hL3 : L ≤ 300 := by omega
  have hyl := hll ▸ hL3
  generalize us.take 300 = ys at *
  have HRL : Hid _ := hrl
  have HCU : Hid _ := hcut
  have HUL : Hid _ := hul
  have HLL : Hid _ := hll
  clear hr hrl hcut hul hll hL
  have HNW : Hid (∀ ad, lo = some ad → ∀ j u, (flV ys)[j]? = some u → w.cell? (ad.add j) = some u) := by
    intro ad had j u hu
    have hj : j < ys.length := by
      have := (List.getElem?_eq_some_iff.1 hu).1
      rw [flV_len] at this
      exact this
    have hll := HLL.out
    rcases HRL.out.cells with h0 | ⟨b, off, hlo, hc⟩
    · omega
    · rw [had] at hlo
      simp only [Option.some.injEq] at hlo
      subst hlo
      rw [flV_at ys j hj] at hu
      rw [Addr.add_lit, hc j (by omega)]
      exact hu
  obtain ⟨i0, hi0, hz0, hz1, hz2⟩ := info3 Tryd.infoF
  cases lo with
  | none =>
    have hc0 := hnl rfl
    have hl0 : L = 0 := by omega
    have hy : ys = [] := List.eq_nil_of_length_eq_zero (by have := HLL.out; omega)
    subst hy hl0 hc0
    rcases HCU.out with ⟨h1, h2, h3⟩ | ⟨h1, h3, _⟩
    · subst h2 h3
      clear HCU HNW HRL
      go_enter Tryd.func21, Tryd.ntmps21
      go_wp2_with (first | (at_builtin; refine wpList_append_own_none (by rfl) (.tmp 14) (.tmp 15) 24 (by rfl) w.heap.size 46 i0 1 Tryd.underlying24 hi0 (.slice none 0 0) 0 _ (by rfl) (OwnFl.nil w w.heap.size) (by rfl) ?_))
      go_loopg [5, 6] 9 (fun g v u wx => ∃ i : Nat, u = .int .i64 i ∧ i + g = 9 ∧ Hid (OwnFl wx w.heap.size v (([] : List Nat) ++ List.replicate i 13873417816952012800)) ∧ Hid (Below w.heap.size w wx))
      case atStart => exact ⟨0, rfl, by omega, OwnFl.nil w w.heap.size, Below.refl _ _⟩
      case round =>
        obtain ⟨i, rfl, hi, HO, HB⟩ := hrel
        have hsr := HB.out.size
        by_cases hlt : i < 9
        · have hd : decide ((i : Int) < 9) = true := decide_eq_true (by omega)
          obtain ⟨g, rfl⟩ : ∃ g, gk = g + 1 := ⟨gk - 1, by omega⟩
          go_wp2_with (first | (at_builtin; refine appendG1 Tryd.underlying24 Tryd.infoF rfl (by decide) wr (by rfl) _ _ (by rfl) w.heap.size _ _ (by rfl) HO.out _ (by rfl) (by rfl) (by rw [flV_len]; simp; omega) (by omega) ?_; intro v5 w5 hO5 hk5 hb5; have HO5 : Hid _ := hO5; have HB5 : Hid _ := hb5; clear hO5 hb5 hk5))
          go_roundg g
          case measure => omega
          case rel =>
            refine ⟨i + 1, by go_num, by omega, ?_, HB.out.trans (HB5.out.mono (by omega))⟩
            have := HO5.out
            unfold Hid OwnFl
            rw [List.replicate_succ', ← List.append_assoc, flV_app]
            exact this
        · have hd : decide ((i : Int) < 9) = false := decide_eq_false (by omega)
          obtain rfl : i = 9 := by omega
          obtain ⟨g, cp, rfl, hcp, hmk⟩ := OwnFl.mk HUL.out (by omega) HO.out
          have hcpm : cp ≠ 0 := by omega
          have hsl : ∀ w, (Instr.slice 24 (.slice (some ⟨g, 0, none⟩) (([] : List Nat).length + 9) cp) none (some (.int .i64 0)) none).run Tryd.prog w = .ok (.slice (some ⟨g, 0, none⟩) ([] : List Nat).length cp) w := by
            intro w
            have := cutF (some ⟨g, 0, none⟩) (([] : List Nat).length + 9) cp ([] : List Nat).length (by omega) w
            rw [if_neg hcpm, Option.map_some, add_zero'] at this
            exact this
          have HMK : Hid _ := hmk
          clear hmk
          go_wp2
          go_ret
          exact ⟨_, rfl, HMK.out, HB.out⟩
    · omega
  | some ad =>
    have HNW2 : Hid _ := HNW.out ad rfl
    clear HNW HRL
    rcases HCU.out with ⟨h1, h2, h3⟩ | ⟨h1, h3, h2⟩
    · subst h2; subst h3
      have hd1 : decide (300 < (L : Int)) = false := decide_eq_false (by omega)
      have hd2 : decide (300 < L) = false := decide_eq_false h1
      clear HCU
      go_enter Tryd.func21, Tryd.ntmps21
      go_wp2_with (first | (at_builtin; refine appendG Tryd.underlying24 Tryd.infoF rfl (by decide) w (by rfl) _ _ (by rfl) w.heap.size _ [] (by rfl) (OwnFl.nil w w.heap.size) ad L cap (flV ys) (by rfl) (by rw [flV_len]; exact HLL.out) HNW2.out (flV_one ys) (by simp only [List.length_nil]; omega) (Nat.le_refl _) ?_; intro v1 w1 hO1 hk1 hb1; have HO1 : Hid (OwnFl w1 w.heap.size v1 ys) := hO1; have HB1 : Hid (Below w.heap.size w w1) := hb1; clear hO1 hb1 hk1))
      go_loopg [5, 6] 9 (fun g v u wx => ∃ i : Nat, u = .int .i64 i ∧ i + g = 9 ∧ Hid (OwnFl wx w.heap.size v (ys ++ List.replicate i 13873417816952012800)) ∧ Hid (Below w.heap.size w wx))
      case atStart => exact ⟨0, rfl, by omega, by have := HO1; unfold Hid; simpa using this.out, HB1⟩
      case round =>
        obtain ⟨i, rfl, hi, HO, HB⟩ := hrel
        have hsr := HB.out.size
        by_cases hlt : i < 9
        · have hd : decide ((i : Int) < 9) = true := decide_eq_true (by omega)
          obtain ⟨g, rfl⟩ : ∃ g, gk = g + 1 := ⟨gk - 1, by omega⟩
          go_wp2_with (first | (at_builtin; refine appendG1 Tryd.underlying24 Tryd.infoF rfl (by decide) wr (by rfl) _ _ (by rfl) w.heap.size _ _ (by rfl) HO.out _ (by rfl) (by rfl) (by rw [flV_len]; simp; omega) (by omega) ?_; intro v5 w5 hO5 hk5 hb5; have HO5 : Hid _ := hO5; have HB5 : Hid _ := hb5; clear hO5 hb5 hk5))
          go_roundg g
          case measure => omega
          case rel =>
            refine ⟨i + 1, by go_num, by omega, ?_, HB.out.trans (HB5.out.mono (by omega))⟩
            have := HO5.out
            unfold Hid OwnFl
            rw [List.replicate_succ', ← List.append_assoc, flV_app]
            exact this
        · have hd : decide ((i : Int) < 9) = false := decide_eq_false (by omega)
          obtain rfl : i = 9 := by omega
          obtain ⟨g, cp, rfl, hcp, hmk⟩ := OwnFl.mk HUL.out (by omega) HO.out
          have hcpm : cp ≠ 0 := by omega
          have hsl : ∀ w, (Instr.slice 24 (.slice (some ⟨g, 0, none⟩) (ys.length + 9) cp) none (some (.int .i64 (L : Int))) none).run Tryd.prog w = .ok (.slice (some ⟨g, 0, none⟩) ys.length cp) w := by
            intro w
            have := cutF (some ⟨g, 0, none⟩) (ys.length + 9) cp ys.length (by omega) w
            rw [if_neg hcpm, Option.map_some, add_zero'] at this
            rw [HLL.out] at this ⊢; exact this
          have HMK : Hid _ := hmk
          clear hmk
          go_wp2
          go_ret
          exact ⟨_, rfl, HMK.out, HB.out⟩
    · subst h3
      have hd1 : decide (300 < (len : Int)) = true := decide_eq_true (by omega)
      have hd2 : decide (300 < len) = true := decide_eq_true h1
      have hct := h2
      clear HCU
      go_enter Tryd.func21, Tryd.ntmps21
      go_wp2_with (first | (at_builtin; refine appendG Tryd.underlying24 Tryd.infoF rfl (by decide) w (by rfl) _ _ (by rfl) w.heap.size _ [] (by rfl) (OwnFl.nil w w.heap.size) ad 300 cap (flV ys) (by rfl) (by rw [flV_len]; exact HLL.out) HNW2.out (flV_one ys) (by simp only [List.length_nil]; omega) (Nat.le_refl _) ?_; intro v1 w1 hO1 hk1 hb1; have HO1 : Hid (OwnFl w1 w.heap.size v1 ys) := hO1; have HB1 : Hid (Below w.heap.size w w1) := hb1; clear hO1 hb1 hk1))
      go_loopg [5, 6] 9 (fun g v u wx => ∃ i : Nat, u = .int .i64 i ∧ i + g = 9 ∧ Hid (OwnFl wx w.heap.size v (ys ++ List.replicate i 13873417816952012800)) ∧ Hid (Below w.heap.size w wx))
      case atStart => exact ⟨0, rfl, by omega, by have := HO1; unfold Hid; simpa using this.out, HB1⟩
      case round =>
        obtain ⟨i, rfl, hi, HO, HB⟩ := hrel
        have hsr := HB.out.size
        by_cases hlt : i < 9
        · have hd : decide ((i : Int) < 9) = true := decide_eq_true (by omega)
          obtain ⟨g, rfl⟩ : ∃ g, gk = g + 1 := ⟨gk - 1, by omega⟩
          go_wp2_with (first | (at_builtin; refine appendG1 Tryd.underlying24 Tryd.infoF rfl (by decide) wr (by rfl) _ _ (by rfl) w.heap.size _ _ (by rfl) HO.out _ (by rfl) (by rfl) (by rw [flV_len]; simp; omega) (by omega) ?_; intro v5 w5 hO5 hk5 hb5; have HO5 : Hid _ := hO5; have HB5 : Hid _ := hb5; clear hO5 hb5 hk5))
          go_roundg g
          case measure => omega
          case rel =>
            refine ⟨i + 1, by go_num, by omega, ?_, HB.out.trans (HB5.out.mono (by omega))⟩
            have := HO5.out
            unfold Hid OwnFl
            rw [List.replicate_succ', ← List.append_assoc, flV_app]
            exact this
        · have hd : decide ((i : Int) < 9) = false := decide_eq_false (by omega)
          obtain rfl : i = 9 := by omega
          obtain ⟨g, cp, rfl, hcp, hmk⟩ := OwnFl.mk HUL.out (by omega) HO.out
          have hcpm : cp ≠ 0 := by omega
          have hsl : ∀ w, (Instr.slice 24 (.slice (some ⟨g, 0, none⟩) (ys.length + 9) cp) none (some (.int .i64 300)) none).run Tryd.prog w = .ok (.slice (some ⟨g, 0, none⟩) ys.length cp) w := by
            intro w
            have := cutF (some ⟨g, 0, none⟩) (ys.length + 9) cp ys.length (by omega) w
            rw [if_neg hcpm, Option.map_some, add_zero'] at this
            rw [HLL.out] at this ⊢; exact this
          have HMK : Hid _ := hmk
          clear hmk
          go_wp2
          go_ret
          exact ⟨_, rfl, HMK.out, HB.out⟩
end Go.Proofs.YtnhaapnmgjlbjaaDoor
