import Derived.Test.YtajopgndpomggaaMX
import Derived.Test.YtajopgndpomggaaQt
import Derived.Test.YtajopgndpomggaaShelfB
import Derived.Shelf.Spec.BitsCarry
namespace Go.Proofs.Ytajopgndpomggaa
open Go.RowKit
set_option linter.unusedVariables false
set_option linter.unusedSimpArgs false

theorem call_sub64 (x y b : Nat) (hb : b ≤ 1) (w : World) : (callFunc 89 #[.int .u64 x, .int .u64 y, .int .u64 b]).run Try.prog w = .ok (.value (.tuple #[.int .u64 (((x + 18446744073709551616 - y - b) % 18446744073709551616 : Nat) : Int), .int .u64 ((if x < y + b then 1 else 0 : Nat) : Int)])) w := by
  rw [run_callFunc_extern Try.func89 (by kernel_rfl) (by kernel_rfl) (by kernel_rfl) (e := sub64Entry) (by kernel_rfl), run_sub64 x y b hb]
  rfl
/-- One word of less. -/
theorem less_word {x p n over borrow hi lo lo2 c s q : Nat} (hx : x < 18446744073709551616) (hov : over < 18446744073709551616) (hb : borrow ≤ 1) (hhl : p * n = hi * 18446744073709551616 + lo) (hlo : lo < 18446744073709551616) (hc : lo2 + 18446744073709551616 * c = lo + over) (hl2 : lo2 < 18446744073709551616)
    (hs : s = (x + 18446744073709551616 - lo2 - borrow) % 18446744073709551616) (hq : q = if x < lo2 + borrow then 1 else 0) : s + p * n + over + borrow = x + 18446744073709551616 * (hi + c + q) ∧ s < 18446744073709551616 ∧ q ≤ 1 := by
  by_cases h : x < lo2 + borrow
  · rw [if_pos h] at hq
    omega
  · rw [if_neg h] at hq
    omega
theorem over_lt64 {p n over hi lo lo2 c : Nat} (hp : p < 18446744073709551616) (hn : n < 18446744073709551616) (hov : over < 18446744073709551616) (hhl : p * n = hi * 18446744073709551616 + lo) (hc : lo2 + 18446744073709551616 * c = lo + over) (hl2 : lo2 < 18446744073709551616) (hlo : lo < 18446744073709551616) : hi + c < 18446744073709551616 := by
  have h1 : p * n ≤ 18446744073709551615 * 18446744073709551615 := Nat.mul_le_mul (by omega) (by omega)
  omega
set_option maxRecDepth 100000 in
set_option maxHeartbeats 4000000 in
theorem less_any (B C : Nat) (f g : Nat → Nat) (n : Nat) (hn : n < 18446744073709551616) (hBC : B ≠ C) (w : World) (hf : Wds w B f) (hg : Wds w C g) :
    Calls Try.prog 72 #[.pointer (some ⟨B, 0, none⟩), .pointer (some ⟨C, 0, none⟩), .int .u64 (n : Int)] w fun e w' => e = .returned (.tuple #[]) ∧ ∃ h c, Wds w' B h ∧ Mut B w w' ∧ wv h 76 + n * wv g 76 = wv f 76 + c * 2 ^ (64 * 76) := by
  have HF : Hid _ := hf
  have HG : Hid _ := hg
  clear hf hg
  go_enter Try.func72, Try.ntmps72
  go_wp2_with fail
  go_loopw [6, 8, 12] (fun ov bv iv wr => ∃ (k o b : Nat) (h : Nat → Nat), k ≤ 76 ∧ iv = .int .i64 k ∧ ov = .int .u64 o ∧ bv = .int .u64 b ∧ o < 18446744073709551616 ∧ b ≤ 1 ∧ Hid (Wds wr B h) ∧ Hid (∀ j, k ≤ j → j < 76 → h j = f j) ∧ Hid (Wds wr C g) ∧ Hid (Mut B w wr) ∧ Hid (wv h k + n * wv g k = wv f k + (o + b) * 2 ^ (64 * k))) (fun _ _ iv _ => (76 - intOf iv).toNat)
  case atStart => exact ⟨0, 0, 0, f, by omega, rfl, rfl, rfl, by omega, by omega, HF, fun _ _ _ => rfl, HG, Mut.refl _ _, by unfold Hid; simp [wv]⟩
  case round =>
    obtain ⟨k, o, b, h, hk, rfl, rfl, rfl, ho, hb, H1, H2, H3, H4, H5⟩ := hrel
    by_cases hlt : k < 76
    · have hd : decide ((k : Int) < 76) = true := decide_eq_true (by omega)
      have g0 := H1.out.cells k hlt
      have g1 := H3.out.cells k hlt
      have g2 := H1.out.frozen k hlt
      obtain ⟨x, hxx⟩ : ∃ x, h k = x := ⟨_, rfl⟩
      obtain ⟨p, hpp⟩ : ∃ p, g k = p := ⟨_, rfl⟩
      rw [hxx] at g0
      rw [hpp] at g1
      have hxl : x < 18446744073709551616 := by rw [← hxx]; exact H1.out.lt k hlt
      have hpl : p < 18446744073709551616 := by rw [← hpp]; exact H3.out.lt k hlt
      have HXX : Hid _ := hxx
      have HPP : Hid _ := hpp
      clear hxx hpp
      obtain ⟨hh, ehh⟩ : ∃ hh, p * n / 18446744073709551616 = hh := ⟨_, rfl⟩
      obtain ⟨ll, ell⟩ : ∃ ll, p * n % 18446744073709551616 = ll := ⟨_, rfl⟩
      have hpn : p * n = hh * 18446744073709551616 + ll := by have := Nat.div_add_mod (p * n) 18446744073709551616; rw [ehh, ell] at this; omega
      have hll : ll < 18446744073709551616 := by rw [← ell]; exact Nat.mod_lt _ (by omega)
      have HM : Hid (∀ W, Calls Try.prog 56 #[.int .u64 (p : Int), .int .u64 (n : Int)] W fun e w' => e = .returned (.tuple #[.int .u64 (hh : Int), .int .u64 (ll : Int)]) ∧ w' = W) := fun W => by
        have := Try.bits_Mul64 p n hpl hn W
        rw [ehh, ell] at this
        exact this
      clear ehh ell
      obtain ⟨l2, el2⟩ : ∃ l2, (ll + o + 0) % 18446744073709551616 = l2 := ⟨_, rfl⟩
      obtain ⟨c, ec⟩ : ∃ c, (ll + o + 0) / 18446744073709551616 = c := ⟨_, rfl⟩
      have hadd : ∀ W, (callFunc 82 #[.int .u64 (ll : Int), .int .u64 (o : Int), .int .u64 0]).run Try.prog W = .ok (.value (.tuple #[.int .u64 (l2 : Int), .int .u64 (c : Int)])) W := fun W => by
        have := call_add64 ll o 0 (by omega) W
        rw [el2, ec] at this
        exact this
      have hl2 : l2 < 18446744073709551616 := by rw [← el2]; exact Nat.mod_lt _ (by omega)
      have hlc : l2 + 18446744073709551616 * c = ll + o := by rw [← el2, ← ec]; omega
      clear el2 ec
      have ho2 := over_lt64 hpl hn ho hpn hlc hl2 hll
      obtain ⟨o2, eo2⟩ : ∃ o2, hh + c = o2 := ⟨_, rfl⟩
      rw [eo2] at ho2
      have hov : IntKind.u64.wrap ((hh : Int) + (c : Int)) = (o2 : Int) := by rw [IntKind.wrap_u64]; omega
      obtain ⟨s, es⟩ : ∃ s, (x + 18446744073709551616 - l2 - b) % 18446744073709551616 = s := ⟨_, rfl⟩
      obtain ⟨q, eq⟩ : ∃ q, (if x < l2 + b then 1 else 0 : Nat) = q := ⟨_, rfl⟩
      have hsub : ∀ W, (callFunc 89 #[.int .u64 (x : Int), .int .u64 (l2 : Int), .int .u64 (b : Int)]).run Try.prog W = .ok (.value (.tuple #[.int .u64 (s : Int), .int .u64 (q : Int)])) W := fun W => by
        have := call_sub64 x l2 b hb W
        rw [es, eq] at this
        exact this
      have HS : Hid _ := less_word hxl ho hb hpn hll hlc hl2 es.symm eq.symm
      rw [eo2] at HS
      clear es eq eo2 hlc hpn hll hl2 ho hb
      have HW' : Hid (Wds (wr.setCell ⟨B, k, none⟩ (.int .u64 (s : Int))).drew B (upd h k s)) := (H1.out.set k s HS.out.2.1 hlt).drew
      have HM' : Hid (Mut B w (wr.setCell ⟨B, k, none⟩ (.int .u64 (s : Int))).drew) := (H4.out.set k hlt _).drew
      have H2' : Hid (∀ j, k + 1 ≤ j → j < 76 → upd h k s j = f j) := fun j h1 h2 => by rw [upd_other (by omega)]; exact H2.out j (by omega) h2
      have H3' : Hid (Wds (wr.setCell ⟨B, k, none⟩ (.int .u64 (s : Int))).drew C g) := ⟨fun j hj => by
        rw [← H3.out.cells j hj]
        exact World.cell?_setCell_other _ _ _ _ (fun c => by have := congrArg Addr.block c; simp at this; omega), fun j hj => (World.frozen?_setCell _ _ _ _).trans (H3.out.frozen j hj), H3.out.lt⟩
      have H5' : Hid (wv (upd h k s) (k + 1) + n * wv g (k + 1) = wv f (k + 1) + (o2 + q) * 2 ^ (64 * (k + 1))) := by
        refine less_step H5.out ?_
        rw [HPP.out, ← H2.out k (Nat.le_refl _) hlt, HXX.out]
        exact HS.out.1
      have hq1 := HS.out.2.2
      go_upto_region 7 with (first
        | (go_at_call 56; refine (HM.out _).mono ?_; rintro e w1 ⟨rfl, rfl⟩))
      go_region
      go_wp2_with fail
      go_roundw
      case rel => exact ⟨k + 1, o2, q, upd h k s, by omega, by go_num, rfl, rfl, ho2, hq1, HW', H2', H3', HM', H5'⟩
      case measure => simp [intOf]; omega
    · have hk76 : k = 76 := by omega
      have hd : decide ((k : Int) < 76) = false := decide_eq_false (by omega)
      go_wp2_with fail
      go_end0
      subst hk76
      exact ⟨rfl, h, o + b, H1.out, H4.out, H5.out⟩
end Go.Proofs.Ytajopgndpomggaa
