import Derived.Test.YtoehhnildocihaaSCc
namespace Go.Proofs.Ytoehhnildocihaa
open Go.RowKit Go.Shelf
set_option linter.unusedVariables false
set_option linter.unusedSimpArgs false
/-- Accs by their pointers, each with its number. -/
structure AcL (w : World) (ao : Option Addr) (len : Nat) (p : Nat → Nat) (v : Nat → Int) : Prop where
  max : len ≤ maxLen
  cells : len = 0 ∨ ∃ b off, ao = some ⟨b, off, none⟩ ∧ ∀ j, j < len → w.cell? ⟨b, off + j, none⟩ = some (.pointer (some ⟨p j, 0, none⟩))
  vals : ∀ j, j < len → AccO w (p j) (some (v j))
theorem AcL.later {w w' : World} {ao : Option Addr} {len : Nat} {p : Nat → Nat} {v : Nat → Int} (h : AcL w ao len p v) (hb : Below w.heap.size w w') : AcL w' ao len p v := by
  refine ⟨h.max, ?_, fun j hj => (h.vals j hj).below hb (h.vals j hj).block⟩
  rcases h.cells with h0 | ⟨b, off, ha, hc⟩
  · exact .inl h0
  · exact .inr ⟨b, off, ha, fun j hj => cell_later (hc j hj) hb⟩
theorem atK_range (v : Nat → Int) : ∀ k, -1 ≤ atK v k ∧ (0 ≤ atK v k → (atK v k).toNat < k)
  | 0 => ⟨by unfold atK; omega, fun h => by unfold atK at h; omega⟩
  | k + 1 => by
    obtain ⟨h1, h2⟩ := atK_range v k
    unfold atK
    split
    · exact ⟨by omega, fun _ => by omega⟩
    · split
      · exact ⟨by omega, fun _ => by omega⟩
      · rename_i c _
        exact ⟨h1, fun h => by have := h2 h; omega⟩
set_option maxRecDepth 100000 in
set_option maxHeartbeats 4000000 in
theorem greatest_any (ao : Option Addr) (len cap : Nat) (p : Nat → Nat) (v : Nat → Int) (w : World) (h : AcL w ao len p v) :
    Calls Try.prog 52 #[.slice ao len cap] w fun e w' => e = .returned (.int .i64 (atK v len)) ∧ Below w.heap.size w w' := by
  have HR : Hid (∀ W, Below w.heap.size w W → AcL W ao len p v) := fun W hb => h.later hb
  have hmx : len ≤ 9223372036854775807 := Nat.le_trans h.max maxLen_le
  clear h
  go_enter Try.func52, Try.ntmps52
  go_wp2_with fail
  go_loopg [3, 10] len (fun g v3 iv wx => ∃ (k : Nat) (t : Int), v3 = .int .i64 t ∧ iv = .int .i64 k ∧ k + g = len ∧ Hid (t = atK v k) ∧ Hid (Below w.heap.size w wx))
  case atStart => exact ⟨0, -1, rfl, rfl, by omega, rfl, Below.refl _ _⟩
  case round =>
    obtain ⟨k, t, rfl, rfl, hk, HT, HB⟩ := hrel
    by_cases hlt : k < len
    · have hd : decide ((k : Int) < (len : Int)) = true := decide_eq_true (by omega)
      obtain ⟨g, rfl⟩ : ∃ g, gk = g + 1 := ⟨gk - 1, by omega⟩
      have HIG : Hid (k + (g + 1) = len) := hk
      have hr := atK_range v k
      rw [← HT.out] at hr
      have hlt' : (k : Int) < (len : Int) := by omega
      rcases (HR.out w (Below.refl _ _)).cells with h0 | ⟨ab, aoff, rfl, hca⟩
      · omega
      have ga := cell_later (hca k hlt) HB.out
      have HD : Hid (atK v (k + 1) = if t < 0 then (k : Int) else if v t.toNat < v k then (k : Int) else t) := by unfold Hid; rw [HT.out]; rfl
      clear hk
      by_cases h0 : t < 0
      · have d0 : decide (t < 0) = true := decide_eq_true h0
        have HD2 : Hid ((k : Int) = atK v (k + 1)) := by unfold Hid; rw [HD.out, if_pos h0]
        clear HD hca hr h0 HT
        go_wp2_with fail
        clear ga
        go_roundg g
        case measure => omega
        case rel => exact ⟨k + 1, k, rfl, by go_num, by have := HIG.out; omega, HD2, HB⟩
      · have d0 : decide (t < 0) = false := decide_eq_false h0
        have ht : t.toNat < len := by have := hr.2 (by omega); omega
        obtain ⟨T, rfl⟩ : ∃ T : Nat, t = T := ⟨t.toNat, by omega⟩
        rw [Int.toNat_natCast] at ht
        have htl : (T : Int) < (len : Int) := by omega
        have gt := cell_later (hca T ht) HB.out
        have HC : Hid (Calls Try.prog 103 #[.pointer (some ⟨p k, 0, none⟩), .pointer (some ⟨p T, 0, none⟩)] wr fun e w' => e = .returned (.tuple #[.int .i64 (sgi (v k - v T)), .bool true]) ∧ Below wr.heap.size wr w') := accCmp_any (p k) (p T) (v k) (v T) wr ((HR.out _ HB.out).vals k hlt) ((HR.out _ HB.out).vals T ht)
        rw [if_neg h0, Int.toNat_natCast] at HD
        obtain ⟨s, hs⟩ : ∃ s, sgi (v k - v T) = s := ⟨_, rfl⟩
        have HS : Hid (s > 0 ↔ v T < v k) := by unfold Hid; rw [← hs]; unfold sgi; split <;> (try split) <;> omega
        rw [hs] at HC
        clear hca hr h0 HT hs ht
        go_wp2_with fail
        refine Calls.mono HC.out ?_
        rintro e' w5 ⟨rfl, b5⟩
        have HB5 : Hid (Below w.heap.size w w5) := to_call HB.out b5
        clear HC ga gt b5 HB
        by_cases c1 : s > 0
        · have f1 : decide (s > 0) = true := decide_eq_true c1
          have HD2 : Hid ((k : Int) = atK v (k + 1)) := by unfold Hid; rw [HD.out, if_pos (HS.out.1 c1)]
          clear HD HS c1
          go_wp2_with fail
          go_roundg g
          case measure => omega
          case rel => exact ⟨k + 1, k, rfl, by go_num, by have := HIG.out; omega, HD2, HB5⟩
        · have f1 : decide (s > 0) = false := decide_eq_false c1
          have HD2 : Hid ((T : Int) = atK v (k + 1)) := by unfold Hid; rw [HD.out, if_neg (fun c => c1 (HS.out.2 c))]
          clear HD HS c1
          go_wp2_with fail
          go_roundg g
          case measure => omega
          case rel => exact ⟨k + 1, T, rfl, by go_num, by have := HIG.out; omega, HD2, HB5⟩
    · have hd : decide ((k : Int) < (len : Int)) = false := decide_eq_false (by omega)
      have hd' : decide (k < len) = false := decide_eq_false (by omega)
      have HE : Hid (t = atK v len) := by have e : k = len := by omega
                                          exact e ▸ HT.out
      clear hk
      go_wp2_with fail
      go_ret
      exact ⟨by rw [HE.out]; rfl, HB.out⟩
set_option maxRecDepth 100000 in
set_option maxHeartbeats 4000000 in
theorem above_any (ao : Option Addr) (len cap : Nat) (p : Nat → Nat) (v : Nat → Int) (w : World) (h : AcL w ao len p v) :
    Calls Try.prog 30 #[.slice ao len cap] w fun e w' => e = .returned (.int .i64 (gaK v len)) ∧ Below w.heap.size w w' := by
  have HG := greatest_any ao len cap p v
  have HR : Hid (∀ W, Below w.heap.size w W → AcL W ao len p v) := fun W hb => h.later hb
  have hmx : len ≤ 9223372036854775807 := Nat.le_trans h.max maxLen_le
  have hr := atK_range v len
  obtain ⟨t, ht⟩ : ∃ t, atK v len = t := ⟨_, rfl⟩
  have HGA : Hid (gaK v len = if t < 0 then -1 else if v t.toNat ≤ 0 then -1 else t) := by unfold Hid gaK; rw [ht]
  rw [ht] at hr
  have HCG : Hid (Calls Try.prog 52 #[.slice ao len cap] w fun e w' => e = .returned (.int .i64 t) ∧ Below w.heap.size w w') := ht ▸ HG w h
  clear h HG ht
  go_enter Try.func30, Try.ntmps30
  go_wp2_with fail
  refine Calls.mono HCG.out ?_
  rintro e' w1 ⟨rfl, b1⟩
  by_cases h0 : t < 0
  · have d0 : decide (t < 0) = true := decide_eq_true h0
    rw [if_pos h0] at HGA
    clear h0 hr
    go_wp2_with fail
    go_ret
    exact ⟨by rw [HGA.out]; rfl, b1⟩
  · have d0 : decide (t < 0) = false := decide_eq_false h0
    rw [if_neg h0] at HGA
    obtain ⟨T, rfl⟩ : ∃ T : Nat, t = T := ⟨t.toNat, by omega⟩
    have hT : T < len := by have := hr.2 (by omega); omega
    rw [Int.toNat_natCast] at HGA
    rcases (HR.out w (Below.refl _ _)).cells with h1 | ⟨ab, aoff, rfl, hca⟩
    · omega
    have ga := cell_later (hca T hT) b1
    have hT' : (T : Int) < (len : Int) := by omega
    have HSg : Hid (Calls Try.prog 53 #[.pointer (some ⟨p T, 0, none⟩)] w1 fun e w' => e = .returned (.int .i64 (signO (some (v T)))) ∧ w' = w1) := accSign_any (p T) _ w1 ((HR.out _ b1).vals T hT)
    obtain ⟨s, hs⟩ : ∃ s, signO (some (v T)) = s := ⟨_, rfl⟩
    have HS : Hid (s ≤ 0 ↔ v T ≤ 0) := by unfold Hid; rw [← hs]; unfold signO sgi; simp only []; split <;> (try split) <;> omega
    rw [hs] at HSg
    clear hca hr h0 hs hT
    go_wp2_with fail
    refine Calls.mono HSg.out ?_
    rintro e' w2 ⟨rfl, rfl⟩
    clear ga HSg
    by_cases c1 : s ≤ 0
    · have f1 : decide (s ≤ 0) = true := decide_eq_true c1
      rw [if_pos (HS.out.1 c1)] at HGA
      clear HS c1
      go_wp2_with fail
      go_ret
      exact ⟨by rw [HGA.out]; rfl, b1⟩
    · have f1 : decide (s ≤ 0) = false := decide_eq_false c1
      rw [if_neg (fun c => c1 (HS.out.2 c))] at HGA
      clear HS c1
      go_wp2_with fail
      go_ret
      exact ⟨by rw [HGA.out]; rfl, b1⟩
end Go.Proofs.Ytoehhnildocihaa
