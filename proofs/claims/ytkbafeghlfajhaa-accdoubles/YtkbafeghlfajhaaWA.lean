import Derived.Test.YtkbafeghlfajhaaPur
import Derived.Test.YtkbafeghlfajhaaNF
import Derived.Test.YtkbafeghlfajhaaQ
import Derived.Laws.Externs
import Derived.Deep.MidRow
import Derived.Deep.RegionHeld3
import Derived.Deep.DeepMust
namespace Go.Proofs.Ytkbafeghlfajhaa
open Go.RowKit
set_option linter.unusedVariables false

theorem call_add64 (x y c : Nat) (hc : c ≤ 1) (w : World) : (callFunc 66 #[.int .u64 x, .int .u64 y, .int .u64 c]).run Try.prog w = .ok (.value (.tuple #[.int .u64 (((x + y + c) % 18446744073709551616 : Nat) : Int), .int .u64 (((x + y + c) / 18446744073709551616 : Nat) : Int)])) w := by
  rw [run_callFunc_extern Try.func66 (by kernel_rfl) (by kernel_rfl) (by kernel_rfl) (e := add64Entry) (by kernel_rfl), run_add64 x y c (by omega) (by omega) (by omega) (by omega)]
  simp only [Result.andThen]
  congr 5 <;> omega
theorem turning_any (neg : Bool) (w : World) : Calls Try.prog 65 #[.bool neg] w fun e w' => ∃ F c : Nat, e = .returned (.tuple #[.int .u64 (F : Int), .int .u64 (c : Int)]) ∧ Trn neg F c ∧ w' = w := by
  cases neg
  · go_enter Try.func65, Try.ntmps65
    go_wp2
    go_ret2
    exact ⟨0, 0, rfl, .inl ⟨rfl, rfl, rfl⟩, rfl⟩
  · go_enter Try.func65, Try.ntmps65
    go_wp2
    go_ret2
    exact ⟨18446744073709551615, 1, rfl, .inr ⟨rfl, rfl, rfl⟩, rfl⟩
theorem xor_ones (y : Nat) (h : y < 18446744073709551616) : y ^^^ 18446744073709551615 = 18446744073709551615 - y := by
  apply Nat.eq_of_testBit_eq
  intro i
  rw [Nat.testBit_xor, show (18446744073709551615 : Nat) = 2 ^ 64 - 1 by decide]
  by_cases hi : i < 64
  · rw [Nat.testBit_two_pow_sub_one, show 2 ^ 64 - 1 - y = 2 ^ 64 - (y + 1) by omega, Nat.testBit_two_pow_sub_succ (by simpa using h)]
    simp [hi]
  · have h1 : y < 2 ^ i := Nat.lt_of_lt_of_le h (by rw [show (18446744073709551616 : Nat) = 2 ^ 64 by decide]; exact Nat.pow_le_pow_right (by omega) (by omega))
    have h2 : 2 ^ 64 - 1 - y < 2 ^ i := Nat.lt_of_lt_of_le (show 2 ^ 64 - 1 - y < 2 ^ 64 by omega) (Nat.pow_le_pow_right (by omega) (by omega))
    rw [Nat.testBit_two_pow_sub_one, Nat.testBit_lt_two_pow h1, Nat.testBit_lt_two_pow h2]
    simp [hi]
theorem Trn.xor {neg : Bool} {F c y : Nat} (h : Trn neg F c) (hy : y < 18446744073709551616) : bits .xor .u64 (y : Int) (F : Int) = ((flp neg y : Nat) : Int) := by
  rcases h with ⟨rfl, rfl, rfl⟩ | ⟨rfl, rfl, rfl⟩
  · rw [u64_xor_nat y 0 hy (by decide), Nat.xor_zero]; rfl
  · rw [u64_xor_nat y 18446744073709551615 hy (by decide), xor_ones y hy]; rfl
/-- The 76 words of block B. -/
structure Wds (w : World) (B : Nat) (f : Nat → Nat) : Prop where
  cells : ∀ j, j < 76 → w.cell? ⟨B, j, none⟩ = some (.int .u64 (f j : Nat))
  frozen : ∀ j, j < 76 → w.frozen? ⟨B, j, none⟩ = false
  lt : ∀ j, j < 76 → f j < 18446744073709551616
/-- Of old memory only the first 76 cells of block B have changed. -/
structure Mut (B : Nat) (w w' : World) : Prop where
  below : Below B w w'
  other : ∀ b, b < w.heap.size → b ≠ B → w'.heap[b]? = w.heap[b]?
  high : ∀ j, 76 ≤ j → w'.cell? ⟨B, j, none⟩ = w.cell? ⟨B, j, none⟩
  froz : ∀ j, w'.frozen? ⟨B, j, none⟩ = w.frozen? ⟨B, j, none⟩
theorem Mut.refl (B : Nat) (w : World) : Mut B w w := ⟨Below.refl _ _, fun _ _ _ => rfl, fun _ _ => rfl, fun _ => rfl⟩
theorem Mut.trans {B : Nat} {a b c : World} (h : Mut B a b) (k : Mut B b c) : Mut B a c :=
  ⟨h.below.trans k.below, fun i hi hne => (k.other i (Nat.lt_of_lt_of_le hi h.below.size) hne).trans (h.other i hi hne), fun j hj => (k.high j hj).trans (h.high j hj), fun j => (k.froz j).trans (h.froz j)⟩
theorem Mut.set {B : Nat} {a b : World} (h : Mut B a b) (j : Nat) (hj : j < 76) (v : Value) : Mut B a (b.setCell ⟨B, j, none⟩ v) :=
  h.trans ⟨(Below.refl B b).setCell (p := ⟨B, j, none⟩) (Nat.le_refl B) v, fun i hi hne => heap_setCell_other _ _ _ _ hne, fun i hi => World.cell?_setCell_other _ _ _ _ (fun e => by have := congrArg Addr.off e; simp at this; omega), fun i => World.frozen?_setCell _ _ _ _⟩
theorem Mut.drew {B : Nat} {a b : World} (h : Mut B a b) : Mut B a b.drew := h.trans ⟨(Below.refl _ _).drew, fun _ _ _ => rfl, fun _ _ => rfl, fun _ => rfl⟩
theorem Wds.set {w : World} {B : Nat} {f : Nat → Nat} (h : Wds w B f) (i v : Nat) (hv : v < 18446744073709551616) (hi : i < 76) : Wds (w.setCell ⟨B, i, none⟩ (.int .u64 (v : Int))) B (upd f i v) := by
  refine ⟨fun j hj => ?_, fun j hj => (World.frozen?_setCell _ _ _ _).trans (h.frozen j hj), fun j hj => ?_⟩
  · by_cases e : j = i
    · subst e; rw [upd_same]; exact World.cell?_setCell_same _ _ _ (h.cells j hj)
    · rw [upd_other e, World.cell?_setCell_other _ _ _ _ (fun c => e (by have := congrArg Addr.off c; first | simpa using this | simpa using this.symm))]; exact h.cells j hj
  · by_cases e : j = i
    · subst e; rw [upd_same]; exact hv
    · rw [upd_other e]; exact h.lt j hj
theorem Wds.drew {w : World} {B : Nat} {f : Nat → Nat} (h : Wds w B f) : Wds w.drew B f := ⟨h.cells, h.frozen, h.lt⟩
theorem pow0 : (2 : Nat) ^ (64 * 0) = 1 := by simp
set_option maxRecDepth 100000 in
set_option maxHeartbeats 1000000 in
theorem join_any (B C : Nat) (f g : Nat → Nat) (neg : Bool) (w : World) (hf : Wds w B f) (hg : Wds w C g) :
    Calls Try.prog 41 #[.pointer (some ⟨B, 0, none⟩), .pointer (some ⟨C, 0, none⟩), .bool neg] w fun e w' => e = .returned (.tuple #[]) ∧ ∃ h c, Wds w' B h ∧ Mut B w w' ∧ wv h 76 + c * 2 ^ (64 * 76) = wv f 76 + wv (fun j => flp neg (g j)) 76 + neg.toNat := by
  have HF : Hid _ := hf
  have HG : Hid _ := hg
  clear hf hg
  go_enter Try.func41, Try.ntmps41
  go_wp2_with fail
  refine (turning_any neg _).mono ?_
  rintro e w1 ⟨F, c0, rfl, htr, rfl⟩
  have HT : Hid (Trn neg F c0) := htr
  have hc0 : c0 ≤ 1 := by rcases htr with ⟨_, _, rfl⟩ | ⟨_, _, rfl⟩ <;> omega
  have HC0 : Hid (c0 = neg.toNat) := by rcases htr with ⟨rfl, _, rfl⟩ | ⟨rfl, _, rfl⟩ <;> rfl
  clear htr
  go_wp2_with fail
  go_loopw [7, 14] (fun cv iv wr => ∃ (k c : Nat) (h : Nat → Nat), k ≤ 76 ∧ iv = .int .i64 k ∧ cv = .int .u64 c ∧ c ≤ 1 ∧ Hid (Wds wr B h) ∧ Hid (∀ j, k ≤ j → j < 76 → h j = f j) ∧ Hid (∀ j, k ≤ j → j < 76 → wr.cell? ⟨C, j, none⟩ = some (.int .u64 (g j : Nat))) ∧ Hid (Mut B w1 wr) ∧ Hid (wv h k + c * 2 ^ (64 * k) = wv f k + wv (fun j => flp neg (g j)) k + c0)) (fun _ iv _ => 76 - (intOf iv).toNat)
  case atStart => exact ⟨0, c0, f, by omega, rfl, rfl, hc0, HF, fun _ _ _ => rfl, fun j _ hj => HG.out.cells j hj, Mut.refl _ _, by unfold Hid; rw [pow0]; simp [wv]⟩
  case round =>
    obtain ⟨k, c, h, hk, rfl, rfl, hc, H1, H2, H3, H4, H5⟩ := hrel
    by_cases hlt : k < 76
    · have hd : decide ((k : Int) < 76) = true := decide_eq_true (by omega)
      have g0 := H1.out.cells k hlt
      have g1 := H3.out k (Nat.le_refl _) hlt
      have g2 := H1.out.frozen k hlt
      have hx := HT.out.xor (HG.out.lt k hlt)
      have hy := flp_lt (neg := neg) (HG.out.lt k hlt)
      obtain ⟨y, hyy⟩ : ∃ y, flp neg (g k) = y := ⟨_, rfl⟩
      obtain ⟨x, hxx⟩ : ∃ x, h k = x := ⟨_, rfl⟩
      rw [hyy] at hx hy
      rw [hxx] at g0
      have hadd := call_add64 x y c hc
      have hxl : x < 18446744073709551616 := by rw [← hxx]; exact H1.out.lt k hlt
      have HYY : Hid _ := hyy
      have HXX : Hid _ := hxx
      clear hyy hxx
      generalize hs : (x + y + c) % 18446744073709551616 = s at hadd
      generalize hq : (x + y + c) / 18446744073709551616 = q at hadd
      have HS : Hid (s < 18446744073709551616 ∧ q ≤ 1 ∧ s + 18446744073709551616 * q = x + y + c) := by unfold Hid; omega
      clear hs hq
      have HW' : Hid (Wds (wr.setCell ⟨B, k, none⟩ (.int .u64 (s : Int))).drew B (upd h k s)) := (H1.out.set k s HS.out.1 hlt).drew
      have HM' : Hid (Mut B w1 (wr.setCell ⟨B, k, none⟩ (.int .u64 (s : Int))).drew) := (H4.out.set k hlt _).drew
      have H2' : Hid (∀ j, k + 1 ≤ j → j < 76 → upd h k s j = f j) := fun j h1 h2 => by rw [upd_other (by omega)]; exact H2.out j (by omega) h2
      have H3' : Hid (∀ j, k + 1 ≤ j → j < 76 → (wr.setCell ⟨B, k, none⟩ (.int .u64 (s : Int))).drew.cell? ⟨C, j, none⟩ = some (.int .u64 (g j : Nat))) := fun j h1 h2 => by
        have := H3.out j (by omega) h2
        rw [← this]
        exact World.cell?_setCell_other _ _ _ _ (fun c => by have := congrArg Addr.off c; simp at this; omega)
      have H5' : Hid (wv (upd h k s) (k + 1) + q * 2 ^ (64 * (k + 1)) = wv f (k + 1) + wv (fun j => flp neg (g j)) (k + 1) + c0) := by
        refine add_step H5.out ?_
        rw [HS.out.2.2, ← HXX.out, ← HYY.out, H2.out k (Nat.le_refl _) hlt]
      have hq1 := HS.out.2.1
      go_wp2_with fail
      go_region
      go_wp2_with fail
      go_roundw
      case rel => exact ⟨k + 1, q, upd h k s, by omega, by go_num, rfl, hq1, HW', H2', H3', HM', H5'⟩
      case measure => simp [intOf]; omega
    · have hk76 : k = 76 := by omega
      have hd : decide ((k : Int) < 76) = false := decide_eq_false (by omega)
      go_wp2_with fail
      go_end0
      subst hk76
      exact ⟨rfl, h, c, H1.out, H4.out, by rw [← HC0.out]; exact H5.out⟩
end Go.Proofs.Ytkbafeghlfajhaa
