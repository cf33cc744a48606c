import Derived.Test.YtkbafeghlfajhaaWE
namespace Go.Proofs.Ytkbafeghlfajhaa
open Go.RowKit
set_option linter.unusedVariables false

set_option maxRecDepth 100000 in
set_option maxHeartbeats 1000000 in
theorem front_zero (B : Nat) (f : Nat → Nat) (w : World) (hf : Wds w B f) (hz : wv f 76 = 0) :
    Calls Try.prog 46 #[.pointer (some ⟨B, 0, none⟩)] w fun e w' => e = .returned (.tuple #[.int .u64 0, .int .i64 0, .bool false]) ∧ w' = w := by
  have HF : Hid _ := hf
  have HZ : Hid _ := wv_zero_iff.1 hz
  clear hf hz
  go_enter Try.func46, Try.ntmps46
  go_wp2_with fail
  refine (highest_any B f 75 (by omega) (by omega) _ HF.out).mono ?_
  rintro e w1 ⟨r, rfl, hh, rfl⟩
  have hr : r < 0 := by
    apply Classical.byContradiction
    intro c
    exact hh.2.1 (by omega) (HZ.out r.toNat (by have := hh.1; omega))
  have hd : decide (r < 0) = true := decide_eq_true hr
  clear hh
  go_wp2_with fail
  go_ret3
  exact ⟨rfl, rfl⟩
set_option maxRecDepth 100000 in
set_option maxHeartbeats 1000000 in
theorem front_pos (B : Nat) (f : Nat → Nat) (w : World) (hf : Wds w B f) (hz : wv f 76 ≠ 0) (b a : Nat) (hb : b = 64) (ha : a = 1230) :
    Calls Try.prog 46 #[.pointer (some ⟨B, 0, none⟩)] w fun e w' => ∃ (whole : Nat) (power : Int) (more : Bool), e = .returned (.tuple #[.int .u64 (whole : Int), .int .i64 power, .bool more]) ∧ (Frt (wv f 76 * 2 ^ b) (2 ^ a) whole power more ∧ -3000 ≤ power ∧ power ≤ 3000) ∧ w' = w.drew := by
  have HF : Hid _ := hf
  have HZ : Hid _ := hz
  clear hf hz
  go_enter Try.func46, Try.ntmps46
  go_wp2_with fail
  refine (highest_any B f 75 (by omega) (by omega) _ HF.out).mono ?_
  rintro e w1 ⟨r, rfl, hh, rfl⟩
  have hr : 0 ≤ r := by
    apply Classical.byContradiction
    intro c
    exact HZ.out (wv_zero_iff.2 (fun j hj => hh.2.2.1 j (by omega) (by omega)))
  obtain ⟨k, rfl⟩ : ∃ k : Nat, r = (k : Int) := ⟨r.toNat, by omega⟩
  have hk : k < 76 := by have := hh.1; omega
  have hne : f k ≠ 0 := by have := hh.2.1 hr; simpa using this
  have HT : Hid (∀ j, k < j → j < 76 → f j = 0) := fun j h1 h2 => hh.2.2.1 j (by omega) (by omega)
  obtain ⟨x, hx⟩ : ∃ x, f k = x := ⟨_, rfl⟩
  have hxl : x < 18446744073709551616 := by rw [← hx]; exact HF.out.lt k hk
  obtain ⟨L, hL, hL1, hL2, hL3⟩ := bitLen_spec hxl (by rw [← hx]; exact hne)
  have g0 := HF.out.cells k hk
  rw [hx] at g0
  obtain ⟨n, hn⟩ : ∃ n, n + L = 63 := ⟨63 - L, by omega⟩
  have en : (63 : Int) - (L : Int) = (n : Int) := by omega
  have en2 : (64 : Int) - (n : Int) = ((64 - n : Nat) : Int) := by omega
  have i1 : (k : Int) < 76 := by omega
  have hd : decide ((k : Int) < 0) = false := decide_eq_false (by omega)
  have hpn : 2 ^ n * 2 ^ L = 9223372036854775808 := by rw [← Nat.pow_add, hn]
  have hf0 : 9223372036854775808 ≤ x * 2 ^ n := by rw [← hpn, Nat.mul_comm]; exact Nat.mul_le_mul_right _ hL1
  have hf1 : x * 2 ^ n < 18446744073709551616 := by
    have : x * 2 ^ n < 2 ^ (L + 1) * 2 ^ n := Nat.mul_lt_mul_of_pos_right hL2 (Nat.two_pow_pos _)
    rw [Nat.pow_succ, Nat.mul_comm (2 ^ L) 2, Nat.mul_assoc, Nat.mul_comm (2 ^ L), hpn] at this
    omega
  have HN : Hid _ := And.intro hf0 hf1
  have HX : Hid _ := hx
  have HL : Hid _ := hL
  clear hf0 hf1 hpn hL1 hL2 hh hx hne hL
  -- what stands behind
  obtain ⟨bh, hbh⟩ : ∃ bh, (if k = 0 then 0 else f (k - 1)) = bh := ⟨_, rfl⟩
  have hbl : bh < 18446744073709551616 := by
    rw [← hbh]; split
    · omega
    · exact HF.out.lt _ (by omega)
  have HB : Hid _ := hbh
  clear hbh
  go_wp2_with fail
  refine (zeros64_any x L hxl HL.out _).mono ?_
  rintro e w1 ⟨rfl, rfl⟩
  go_upto_if 19 with fail
  go_cut [7] (fun v wx => v = .int .u64 (bh : Int) ∧ wx = w1)
  case first =>
    by_cases h0 : k = 0
    · subst h0
      have : bh = 0 := by rw [← HB.out]; rfl
      subst this
      go_wp2_with fail
      go_meet
      exact ⟨rfl, rfl⟩
    · have g1 := HF.out.cells (k - 1) (by omega)
      have h1 := HB.out
      rw [if_neg h0] at h1
      rw [h1] at g1
      obtain ⟨m, rfl⟩ : ∃ m, k = m + 1 := ⟨k - 1, by omega⟩
      rw [Nat.add_sub_cancel] at g1
      clear h1
      go_wp2_with fail
      go_meet
      exact ⟨rfl, rfl⟩
  case rest =>
  obtain ⟨rfl, rfl⟩ := hcut
  have s0 := wrap_shl x n
  have s1 := div_cast bh (64 - n)
  have s3 := wrap_shl bh n
  generalize hu : x * 2 ^ n % 18446744073709551616 = u1 at s0
  generalize hd1 : bh / 2 ^ (64 - n) = d1 at s1
  generalize hlo : bh * 2 ^ n % 18446744073709551616 = lo at s3
  have hul : u1 < 18446744073709551616 := by rw [← hu]; exact Nat.mod_lt _ (by omega)
  have hdl : d1 < 18446744073709551616 := by rw [← hd1]; exact Nat.lt_of_le_of_lt (Nat.div_le_self _ _) hbl
  have s2 := u64_or_nat u1 d1 hul hdl
  generalize hW : u1 ||| d1 = W at s2
  have HW : Hid (W = (f k * 2 ^ n % 18446744073709551616) ||| (bh / 2 ^ (64 - n))) := by unfold Hid; rw [HX.out, hu, hd1, hW]
  have HLO : Hid (bh * 2 ^ n % 18446744073709551616 = lo) := hlo
  have HFR : Hid (∀ more : Bool, (more = true ↔ (lo ≠ 0 ∨ ∃ j, j + 1 < k ∧ f j ≠ 0)) → Frt (wv f 76 * 2 ^ b) (2 ^ a) W (-2240 + k * 64 - n) more) := fun more hm =>
    (front_frt HF.out.lt hk HT.out (by omega) (by rw [HX.out]; exact HN.out.1) (by rw [HX.out]; exact HN.out.2) HB.out.symm HW.out (by rw [HLO.out]; exact hm) rfl hb ha).1
  have hPW : -3000 ≤ -2240 + (k : Int) * 64 - n ∧ -2240 + (k : Int) * 64 - n ≤ 3000 := by omega
  have HPW : Hid _ := hPW
  clear hu hd1 hlo hW hul hdl
  go_wp2_with fail
  go_region
  by_cases hz : lo = 0
  · subst hz
    go_wp2_with fail
    refine (highest_any B f ((k : Int) - 2) (by omega) (by omega) _ HF.out.drew).mono ?_
    rintro e w2 ⟨r, rfl, hh, rfl⟩
    by_cases hr : 0 ≤ r
    · have hM : Hid (Frt (wv f 76 * 2 ^ b) (2 ^ a) W (-2240 + k * 64 - n) true) := HFR.out true ⟨fun _ => .inr ⟨r.toNat, by have := hh.1; omega, by have := hh.2.1 hr; exact this⟩, fun _ => rfl⟩
      have hd : decide (0 ≤ r) = true := decide_eq_true hr
      clear hh
      go_wp2_with fail
      go_ret3
      exact ⟨W, _, _, rfl, ⟨hM.out, HPW.out⟩, rfl⟩
    · have hM : Hid (Frt (wv f 76 * 2 ^ b) (2 ^ a) W (-2240 + k * 64 - n) false) := HFR.out false ⟨fun c => by simp at c, fun c => by
        rcases c with c | ⟨j, h1, h2⟩
        · exact absurd rfl c
        · exact absurd (hh.2.2.1 j (by omega) (by omega)) h2⟩
      have hd : decide (0 ≤ r) = false := decide_eq_false hr
      clear hh
      go_wp2_with fail
      go_ret3
      exact ⟨W, _, _, rfl, ⟨hM.out, HPW.out⟩, rfl⟩
  · have hM : Hid (Frt (wv f 76 * 2 ^ b) (2 ^ a) W (-2240 + k * 64 - n) true) := HFR.out true ⟨fun _ => .inl hz, fun _ => rfl⟩
    have hn0 : ((lo : Int) != 0) = true := by simp; omega
    clear hz
    go_wp2_with fail
    go_ret3
    exact ⟨W, _, _, rfl, ⟨hM.out, HPW.out⟩, rfl⟩
end Go.Proofs.Ytkbafeghlfajhaa
