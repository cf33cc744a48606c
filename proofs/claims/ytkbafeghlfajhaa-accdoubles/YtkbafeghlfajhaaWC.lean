import Derived.Test.YtkbafeghlfajhaaWB
import Derived.Test.YtkbafeghlfajhaaShelfB
namespace Go.Proofs.Ytkbafeghlfajhaa
open Go.RowKit
set_option linter.unusedVariables false

theorem wrap_shl (a n : Nat) : IntKind.u64.wrap ((a : Int) * 2 ^ n) = ((a * 2 ^ n % 18446744073709551616 : Nat) : Int) := by
  rw [IntKind.wrap_u64]; simp
theorem div_cast (a n : Nat) : (a : Int) / 2 ^ n = ((a / 2 ^ n : Nat) : Int) := by simp
/-- One word more of a sum. -/
theorem put_step {f f1 g h : Nat → Nat} {i c c' c0 v x y : Nat} (hi : wv h i + c * 2 ^ (64 * i) = wv f i + wv g i + c0) (hfx : f i = x) (hgy : g i = y) (hv : v + 18446744073709551616 * c' = x + y + c) (hf1 : upd h i v = f1) :
    wv f1 (i + 1) + c' * 2 ^ (64 * (i + 1)) = wv f (i + 1) + wv g (i + 1) + c0 := by
  subst hf1 hfx hgy
  exact add_step hi hv
set_option maxRecDepth 100000 in
set_option maxHeartbeats 1000000 in
theorem put_any (B : Nat) (f : Nat → Nat) (z : Int) (high low k n : Nat) (power : Int) (neg : Bool) (hk : k + 3 ≤ 76) (hn : n < 64) (hp : power + 2240 = 64 * k + n) (hl : low < 18446744073709551616) (hh : high < 18446744073709551616) (w : World) (hf : Wds w B f) (hz : Tc f z)
    (h1 : -((2 ^ 4863 : Nat) : Int) ≤ z + sv neg ((high * 18446744073709551616 + low) * 2 ^ (64 * k + n))) (h2 : z + sv neg ((high * 18446744073709551616 + low) * 2 ^ (64 * k + n)) < ((2 ^ 4863 : Nat) : Int)) :
    Calls Try.prog 55 #[.pointer (some ⟨B, 0, none⟩), .int .u64 (high : Int), .int .u64 (low : Int), .int .i64 power, .bool neg] w fun e w' => e = .returned (.tuple #[]) ∧ ∃ h, Wds w' B h ∧ Mut B w w' ∧ Tc h (z + sv neg ((high * 18446744073709551616 + low) * 2 ^ (64 * k + n))) := by
  have HF : Hid _ := hf
  have HZ : Hid _ := hz
  have HB : Hid _ := And.intro h1 h2
  clear hf hz h1 h2
  obtain ⟨place, hpl⟩ : ∃ place : Nat, place = 64 * k + n := ⟨_, rfl⟩
  have e0 : power - -2240 = (place : Int) := by omega
  have e1 : (place : Int) / 64 = (k : Int) := by omega
  have e2 : (place : Int) % 64 = (n : Int) := by omega
  have hpb : place < 5000 := by omega
  clear hp hpl
  go_enter Try.func55, Try.ntmps55
  go_wp2_with fail
  simp only [e2]
  refine (turning_any neg _).mono ?_
  rintro e w1 ⟨F, c0, rfl, htr, rfl⟩
  have HT : Hid (Trn neg F c0) := htr
  have hc0 : c0 ≤ 1 := by rcases htr with ⟨_, _, rfl⟩ | ⟨_, _, rfl⟩ <;> omega
  clear htr
  have g0 := HF.out.cells k (by omega)
  have g1 := HF.out.frozen k (by omega)
  obtain ⟨x, hxx⟩ : ∃ x, f k = x := ⟨_, rfl⟩
  rw [hxx] at g0
  have i1 : (k : Int) < 76 := by omega
  obtain ⟨p0, hp0⟩ : ∃ p0, pw0 low n = p0 := ⟨_, rfl⟩
  have s0 := wrap_shl low n
  have hp0l : p0 < 18446744073709551616 := by rw [← hp0]; exact Nat.mod_lt _ (by omega)
  rw [show low * 2 ^ n % 18446744073709551616 = p0 from hp0] at s0
  have x0 := HT.out.xor hp0l
  have y0l := flp_lt (neg := neg) hp0l
  obtain ⟨y0, hy0⟩ : ∃ y0, flp neg p0 = y0 := ⟨_, rfl⟩
  rw [hy0] at x0 y0l
  have a0 := call_add64 x y0 c0 hc0
  have HE0 : Hid _ := And.intro hxx (And.intro hp0 hy0)
  have hxl : x < 18446744073709551616 := by rw [← hxx]; exact HF.out.lt k (by omega)
  clear hxx hp0 hy0
  generalize hs : (x + y0 + c0) % 18446744073709551616 = r0 at a0
  generalize hq : (x + y0 + c0) / 18446744073709551616 = c1 at a0
  have HS0 : Hid (r0 < 18446744073709551616 ∧ r0 + 18446744073709551616 * c1 = x + y0 + c0) := by unfold Hid; omega
  have hc1 : c1 ≤ 1 := by omega
  clear hs hq
  have W1 : Hid _ := (HF.out.set k r0 HS0.out.1 (by omega)).drew
  have M1 : Hid _ := ((Mut.refl B w1).set k (by omega) (.int .u64 (r0 : Int))).drew
  go_wp2_with fail
  go_region
  go_wp2_with fail
  generalize (w1.setCell ⟨B, k, none⟩ (.int .u64 (r0 : Int))).drew = w2 at W1 M1 ⊢
  obtain ⟨f1, hf1⟩ : ∃ f1, upd f k r0 = f1 := ⟨_, rfl⟩
  rw [hf1] at W1
  have HF1 : Hid _ := hf1
  clear hf1 g0 g1 a0 s0 x0 hxl
  have g0 := W1.out.cells (k + 1) (by omega)
  have g1 := W1.out.frozen (k + 1) (by omega)
  obtain ⟨x1, hxx⟩ : ∃ x1, f1 (k + 1) = x1 := ⟨_, rfl⟩
  rw [hxx] at g0
  have i2 : (k : Int) + 1 < 76 := by omega
  have i2w : IntKind.u64.wrap ((k : Int) + 1) = (k : Int) + 1 := by rw [IntKind.wrap_u64]; omega
  have s0 := wrap_shl high n
  have s1 := div_cast low (64 - n)
  obtain ⟨b1, b2⟩ := (shift3 (high := high) (low := low) hn hl hh).2
  generalize hu : high * 2 ^ n % 18446744073709551616 = u1 at s0
  generalize hd : low / 2 ^ (64 - n) = d1 at s1
  have hul : u1 < 18446744073709551616 := by rw [← hu]; exact Nat.mod_lt _ (by omega)
  have hdl : d1 < 18446744073709551616 := by rw [← hd]; exact Nat.lt_of_le_of_lt (Nat.div_le_self _ _) hl
  have s2 := u64_or_nat u1 d1 hul hdl
  obtain ⟨p1, hp1⟩ : ∃ p1, u1 ||| d1 = p1 := ⟨_, rfl⟩
  rw [hp1] at s2
  have HP1 : Hid (pw1 high low n = p1) := by unfold Hid pw1; rw [hu, hd, hp1]
  have hp1l : p1 < 18446744073709551616 := by rw [← HP1.out]; exact b1
  clear hu hd hp1 hul hdl
  have x0 := HT.out.xor hp1l
  have y1l := flp_lt (neg := neg) hp1l
  obtain ⟨y1, hy1⟩ : ∃ y1, flp neg p1 = y1 := ⟨_, rfl⟩
  rw [hy1] at x0 y1l
  have a0 := call_add64 x1 y1 c1 hc1
  have HE1 : Hid _ := And.intro hxx hy1
  have hxl : x1 < 18446744073709551616 := by rw [← hxx]; exact W1.out.lt (k + 1) (by omega)
  clear hxx hy1
  generalize hs : (x1 + y1 + c1) % 18446744073709551616 = r1 at a0
  generalize hq : (x1 + y1 + c1) / 18446744073709551616 = c2 at a0
  have HS1 : Hid (r1 < 18446744073709551616 ∧ r1 + 18446744073709551616 * c2 = x1 + y1 + c1) := by unfold Hid; omega
  have hc2 : c2 ≤ 1 := by omega
  clear hs hq
  have W2 : Hid _ := (W1.out.set (k + 1) r1 HS1.out.1 (by omega)).drew
  have M2 : Hid _ := (M1.out.set (k + 1) (by omega) (.int .u64 (r1 : Int))).drew
  go_wp2_with fail
  go_region
  go_wp2_with fail
  generalize (w2.setCell ⟨B, k + 1, none⟩ (.int .u64 (r1 : Int))).drew = w3 at W2 M2 ⊢
  obtain ⟨f2, hf2⟩ : ∃ f2, upd f1 (k + 1) r1 = f2 := ⟨_, rfl⟩
  rw [hf2] at W2
  have HF2 : Hid _ := hf2
  clear hf2 g0 g1 a0 s0 s1 s2 x0 hxl W1 M1
  have g0 := W2.out.cells (k + 2) (by omega)
  have g1 := W2.out.frozen (k + 2) (by omega)
  obtain ⟨x2, hxx⟩ : ∃ x2, f2 (k + 2) = x2 := ⟨_, rfl⟩
  rw [hxx] at g0
  have i3 : (k : Int) + 2 < 76 := by omega
  have i3w : IntKind.u64.wrap ((k : Int) + 2) = (k : Int) + 2 := by rw [IntKind.wrap_u64]; omega
  have s1 := div_cast high (64 - n)
  generalize hd : high / 2 ^ (64 - n) = p2 at s1
  have HP2 : Hid (pw2 high n = p2) := hd
  have hp2l : p2 < 18446744073709551616 := by rw [← HP2.out]; exact b2
  clear hd b1 b2
  have x0 := HT.out.xor hp2l
  have y2l := flp_lt (neg := neg) hp2l
  obtain ⟨y2, hy2⟩ : ∃ y2, flp neg p2 = y2 := ⟨_, rfl⟩
  rw [hy2] at x0 y2l
  have a0 := call_add64 x2 y2 c2 hc2
  have HE2 : Hid _ := And.intro hxx hy2
  have hxl : x2 < 18446744073709551616 := by rw [← hxx]; exact W2.out.lt (k + 2) (by omega)
  clear hxx hy2
  generalize hs : (x2 + y2 + c2) % 18446744073709551616 = r2 at a0
  generalize hq : (x2 + y2 + c2) / 18446744073709551616 = c3 at a0
  have HS2 : Hid (r2 < 18446744073709551616 ∧ r2 + 18446744073709551616 * c3 = x2 + y2 + c2) := by unfold Hid; omega
  have hc3 : c3 ≤ 1 := by omega
  clear hs hq
  have W3 : Hid _ := (W2.out.set (k + 2) r2 HS2.out.1 (by omega)).drew
  have M3 : Hid _ := (M2.out.set (k + 2) (by omega) (.int .u64 (r2 : Int))).drew
  go_wp2_with fail
  go_region
  generalize (w3.setCell ⟨B, k + 2, none⟩ (.int .u64 (r2 : Int))).drew = w4 at W3 M3 ⊢
  obtain ⟨f3, hf3⟩ : ∃ f3, upd f2 (k + 2) r2 = f3 := ⟨_, rfl⟩
  rw [hf3] at W3
  have HF3 : Hid _ := hf3
  clear hf3 g0 g1 a0 s1 x0 hxl W2 M2
  obtain ⟨g, hg⟩ : ∃ g, ptw k y0 y1 y2 F = g := ⟨_, rfl⟩
  have HG : Hid _ := hg
  obtain ⟨gk, gk1, gk2, gk3⟩ := ptw_at k y0 y1 y2 F
  rw [hg] at gk gk1 gk2 gk3
  have hlow : wv g k = 0 := by rw [← hg]; exact ptw_low ..
  have st0 : wv f k + c0 * 2 ^ (64 * k) = wv f k + wv g k + c0 * 2 ^ (64 * k) := by rw [hlow]; omega
  have st1 := put_step st0 HE0.out.1 gk HS0.out.2 HF1.out
  have st2 := put_step st1 (show f (k + 1) = x1 by rw [← HE1.out.1, ← HF1.out, upd_other (by omega)]) gk1 HS1.out.2 HF2.out
  have st3 := put_step st2 (show f (k + 2) = x2 by rw [← HE2.out.1, ← HF2.out, upd_other (by omega), ← HF1.out, upd_other (by omega)]) gk2 HS2.out.2 HF3.out
  have HST : Hid _ := st3
  have HG3 : Hid _ := gk3
  have HU : Hid (∀ j, k + 3 ≤ j → f3 j = f j) := fun j hj => by rw [← HF3.out, upd_other (by omega), ← HF2.out, upd_other (by omega), ← HF1.out, upd_other (by omega)]
  have HY : Hid (g = ptw k (flp neg (pw0 low n)) (flp neg (pw1 high low n)) (flp neg (pw2 high n)) F) := by unfold Hid; rw [HE0.out.2.1, HP1.out, HP2.out, HE0.out.2.2, HE1.out.2, HE2.out.2, hg]
  clear st0 st1 st2 st3 gk gk1 gk2 gk3 hlow hg
  go_wp2_with fail
  obtain ⟨t, ht⟩ : ∃ t, t = F % 2 := ⟨_, rfl⟩
  have hFl : F < 18446744073709551616 := by rcases HT.out with ⟨_, h, _⟩ | ⟨_, h, _⟩ <;> omega
  have ha : bits .and .u64 (F : Int) 1 = (t : Int) := by
    have := u64_and_nat F 1 hFl (by omega)
    rw [Nat.and_one_is_mod, ← ht] at this
    exact this
  have HT2 : Hid (∀ c, c ≤ 1 → c = t → (F = 0 ∧ c = 0) ∨ (F = 18446744073709551615 ∧ c = 1)) := by
    intro c h1 h2
    rcases HT.out with ⟨_, h, _⟩ | ⟨_, h, _⟩
    · left; subst h; omega
    · right; subst h; omega
  clear ht
  have HFIN : Hid (∀ h c, (∀ j, j < 76 → h j < 18446744073709551616) → wv h 76 + c * 2 ^ (64 * 76) = wv f 76 + wv g 76 + c0 * 2 ^ (64 * k) → Tc h (z + sv neg ((high * 18446744073709551616 + low) * 2 ^ (64 * k + n)))) := by
    intro h c hlt hs
    rw [HY.out] at hs
    exact put_tc HZ.out hk hn hl hh HT.out hlt hs HB.out.1 HB.out.2
  clear e0 e1 e2 hpb i1 i2 i2w i3 i3w hl hh y0l y1l y2l hp0l hp1l hp2l
  go_loopw [14, 15] (fun cv iv wr => ∃ (i c : Nat) (h : Nat → Nat), k + 3 ≤ i ∧ i ≤ 76 ∧ iv = .int .u64 i ∧ cv = .int .u64 c ∧ c ≤ 1 ∧ Hid (Wds wr B h) ∧ Hid (∀ j, i ≤ j → j < 76 → h j = f j) ∧ Hid (Mut B w1 wr) ∧ Hid (wv h i + c * 2 ^ (64 * i) = wv f i + wv g i + c0 * 2 ^ (64 * k))) (fun _ iv _ => 76 - (intOf iv).toNat)
  case atStart => exact ⟨k + 3, c3, f3, by omega, by omega, by go_num, rfl, hc3, W3, fun j h1 h2 => HU.out j h1, M3, HST⟩
  case round =>
    obtain ⟨i, c, h, hi0, hi1, rfl, rfl, hc, H1, H2, H3, H4⟩ := hrel
    by_cases hlt : i < 76
    · by_cases hct : c = t
      · have hd : decide ((i : Int) ≤ 75) = true := decide_eq_true (by omega)
        have HX : Hid (wv h 76 + c * 2 ^ (64 * 76) = wv f 76 + wv g 76 + c0 * 2 ^ (64 * k)) := add_rest' 76 H4.out (HT2.out c hc hct) hi1 (fun j h1 _ => HG3.out j (by omega)) (fun j h1 h2 => H2.out j h1 h2)
        have hne : ((c : Int) != (t : Int)) = false := by rw [hct]; simp
        clear hct
        go_wp2_with fail
        go_end0
        exact ⟨rfl, h, H1.out, H3.out, HFIN.out h c H1.out.lt HX.out⟩
      · have hd : decide ((i : Int) ≤ 75) = true := decide_eq_true (by omega)
        have hne : ((c : Int) != (t : Int)) = true := by simp; omega
        have g0 := H1.out.cells i hlt
        have g1 := H1.out.frozen i hlt
        obtain ⟨x, hxx⟩ : ∃ x, h i = x := ⟨_, rfl⟩
        rw [hxx] at g0
        have a0 := call_add64 x F c hc
        have hxl : x < 18446744073709551616 := by rw [← hxx]; exact H1.out.lt i hlt
        generalize hs : (x + F + c) % 18446744073709551616 = r at a0
        generalize hq : (x + F + c) / 18446744073709551616 = c' at a0
        have HS : Hid (r < 18446744073709551616 ∧ r + 18446744073709551616 * c' = x + F + c) := by unfold Hid; omega
        have hc' : c' ≤ 1 := by omega
        have H1' : Hid _ := (H1.out.set i r HS.out.1 hlt).drew
        have H3' : Hid _ := (H3.out.set i hlt (.int .u64 (r : Int))).drew
        have H2' : Hid (∀ j, i + 1 ≤ j → j < 76 → upd h i r j = f j) := fun j h1 h2 => by rw [upd_other (by omega)]; exact H2.out j (by omega) h2
        have H4' : Hid (wv (upd h i r) (i + 1) + c' * 2 ^ (64 * (i + 1)) = wv f (i + 1) + wv g (i + 1) + c0 * 2 ^ (64 * k)) := put_step H4.out (show f i = x by rw [← hxx]; exact (H2.out i (Nat.le_refl _) hlt).symm) (HG3.out i (by omega)) HS.out.2 rfl
        clear hs hq hxx hct
        go_wp2_with fail
        go_region
        go_wp2_with fail
        go_roundw
        case rel => exact ⟨i + 1, c', upd h i r, by omega, by omega, by go_num, rfl, hc', H1', H2', H3', H4'⟩
        case measure => simp [intOf]; omega
    · have hk76 : i = 76 := by omega
      subst hk76
      go_wp2_with fail
      go_end0
      exact ⟨rfl, h, H1.out, H3.out, HFIN.out h c H1.out.lt H4.out⟩
end Go.Proofs.Ytkbafeghlfajhaa
